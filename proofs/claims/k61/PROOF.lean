import PyProof.Rows.All
import Wide.All
import OpenK.AllK
import PySem.Challenge.RW_windchest_k61_barrels_by_sounds
theorem U{α}{a:α}:a=a:=rfl
abbrev vSP:=PySem.Value->PySem.Shared->Prop
def af:=@List.getElem?_eq_getElem
def ag:=@List.getElem?_eq_some_iff
def ah:=@List.length_map
def ai:=@Nat.le_refl
def al:=@List.mem_singleton
def am:=@List.mem_of_getElem?
def ar:=@List.getElem?_map
def av:=@List.length_append
def ax:=@List.getD_eq_getElem?_getD
def ay:=@List.mem_map
def aE:=@List.mem_append
def aI:=@Int.toNat_natCast
def aS:=@Option.map_eq_some_iff
def aT:=@List.mem_cons_of_mem
def ba:=@Nat.lt_of_lt_of_le
def be:=@List.mem_cons_self
def bg:=@Nat.lt_of_le_of_lt
def bi:=@List.map_map
def bo:=@Nat.le_trans
def bp:=@List.size_toArray
def bq:=@List.mem_cons
def bt:=@List.length_singleton
def bv:=@PyProof.Rows.boot_isinstance
def bE:=@PySem.F.plainAttrs_list
def bX:=@List.filter_eq_self
def ce:=@List.getElem?_append_left
def cf:=@Nat.ne_of_lt
def ci:=@List.getElem?_append_right
def ck:=@List.take_add_one
def cm:=@List.mem_append_left
def cq:=@Int.emod_lt_of_pos
def cr:=@PySem.F.slot_list_append
def cw:=@PySem.F.type_list_append
def cy:=@List.mem_filter
def cE:=@List.length_take
def cK:=@Nat.zero_le
def cS:=@List.mem_map_of_mem
def db:=@List.mem_append_right
def dc:=@Int.emod_nonneg
def de:=@List.getElem_mem
def df:=@List.map_cons
def zdl:=@List.length_cons
def dt:=@List.take_of_length_le
def dv:=@PySem.boot_len
def dA:=@Bool.eq_iff_iff
def dE:=@List.length_filter_le
def dL:=@List.mem_range
def dQ:=@List.length_range
def ed:=@List.append_assoc
def ee:=@List.map_append
def et:=@Bool.false_ne_true
def eD:=@PyProof.Rows.boot_list
def eI:=@Bool.and_eq_true
def eJ:=@List.filter_cons
def eK:=@Int.toNat_of_nonneg
def eM:=@List.all_eq_true
def eR:=@List.take_append_drop
def eS:=@List.pairwise_iff_getElem
def eW:=@List.take_length
def fb:=@PyProof.Rows.boot_sorted
def fe:=@List.getElem?_eq_none
def fg:=@List.take_append_of_le_length
def fh:=@Nat.le_of_lt
def fk:=@List.pairwise_append
def fm:=@List.filter_map
def fo:=@Nat.succ_le_succ
def fq:=@Bool.not_eq_true
def ft:=@List.pairwise_map
def fw:=@Bool.true_and
def fz:=@Bool.not_eq_true'
def fE:=@Nat.eq_of_testBit_eq
def fF:=@List.pairwise_cons
def fI:=@Nat.lt_irrefl
def fN:=@List.append_nil
def fR:=@List.nodup_cons
def fT:=@List.getElem?_zipIdx
def ge:=@List.getElem?_of_mem
def gg:=@Nat.ne_of_gt
def gi:=@Nat.add_le_add_left
def gp:=@List.ext_getElem?
def gu:=@List.sum_append
def gx:=@Int.mul_le_mul_of_nonneg_right
def gy:=@Nat.lt_succ_self
def gz:=@List.length_drop
def gE:=@List.any_eq_true
def gI:=@List.not_mem_nil
def gL:=@Nat.zero_testBit
def gS:=@List.mem_of_mem_take
def gT:=@Nat.pow_le_pow_right
def gX:=@Nat.lt_succ_of_lt
def hU:=@List.filter_append
def hV:=@List.mem_iff_getElem
def hX:=@Option.isSome_iff_exists
def hZ:=@Bool.not_eq_false
def ic:=@List.pairwise_singleton
def ii:=@List.sum_cons
def ij:=@List.reverse_append
def im:=@List.length_reverse
def io:=@List.getElem_of_mem
def ip:=@PyProof.Rows.boot_tuple
def iq:=@List.map_congr_left
def iA:=@List.lookup_cons
def iE:=@Nat.lt_trans
def iF:=@Nat.not_lt_zero
def iL:=@List.perm_append_comm
def iN:=@Nat.sub_self
def iO:=@List.mem_iff_getElem?
def iP:=@PyProof.Rows.boot_all
def iS:=@List.drop_sublist
def iX:=@Bool.false_and
def ja:=@Nat.lt_pow_two_of_testBit
def jp:=@List.extract_eq_take_drop
def jv:=@List.mem_take_iff_getElem
def jI:=@Nat.mod_eq_of_lt
def jS:=@List.getElem_map
def kc:=@Nat.le_succ
def ke:=@Nat.le_of_eq
def kg:=@Int.zero_add
def ki:=@Nat.lt_succ_iff_lt_or_eq
def kn:=@List.length_filterMap_le
def ko:=@PySem.F.plainAttrs_dict
def ku:=@List.map_take
def ky:=@PySem.F.slot_dict_getitem.lookup
def kz:=@List.getElem?_set_self
def kF:=@List.length_pos_of_mem
def kG:=@List.eraseIdxIfInBounds_toArray
def kK:=@Nat.le_succ_of_le
def kL:=@Bool.and_false
def kM:=@List.take_zero
def kN:=@Int.mul_nonneg
def kP:=@List.length_replicate
def kQ:=@PySem.F.slot_dict_get
def kR:=@Nat.lt_or_ge
def kU:=@List.Perm.append_left
def kX:=@List.pairwise_and_iff
def lc:=@PyProof.Rows.boot_any
def zld:=@PyProof.Rows.boot_sum
def lh:=@Nat.le_of_not_lt
def lI:=@List.eq_nil_of_length_eq_zero
def lP:=@List.countP_cons
def ma:=@List.getElem?_set_ne
def me:=@List.mem_of_mem_drop
def mh:=@Nat.mul_le_mul_right
def mi:=@List.any_cons
def mn:=@List.filterMap_cons
def mw:=@Option.map_some
def mE:=@List.length_nil
def mI:=@List.foldl_cons
def mT:=@List.map_eq_nil_iff
def nc:=@Int.le_refl
def ng:=@Nat.lt_two_pow_self
def nh:=@List.mem_filterMap
def ny:=@Int.natCast_nonneg
def nB:=@List.map_nil
def nE:=@List.getElem?_drop
def nN:=@List.getElem?_take
def nX:=@Nat.mul_succ
def oe:=@List.foldl_append
def og:=@Nat.lt_trichotomy
def oi:=@List.nodup_append
def oj:=@List.all_cons
def om:=@Int.one_mul
def on:=@List.map_id
def oo:=@Nat.le_add_right
def oq:=@List.drop_length
def zor:=@Nat.max_eq_right
def ow:=@List.any_map
theorem oz{p q r:Prop}(h:p):(p∨q)∨r:=.inl (.inl h)
local macro_rules|`(tactic|decide)=>`(tactic|decide +kernel)
set_option Elab.async false
set_option linter.all false
set_option compiler.extract_closed false
set_option maxRecDepth 100000
noncomputable section
open Option renaming some->_a,none->_n,map_some->ŭ,toList_some->AM,isSome_map->AS,getD_none->DA,bind_some->DB,map_map->K2
open _root_ renaming List->_b,Nat->_d,Int->_i,if_neg->_l,if_pos->_o,Option->_t,decide_eq_true->_v,absurd->_D,Array->_E,of_decide_eq_true->_G,beq_iff_eq->_H,decide_eq_false->_L,decide_eq_true_eq->_N,Bool->_V,False->Χ,if_false->Ñ,of_decide_eq_false->Ô,beq_eq_false_iff_ne->à,String->è,if_true->ÿ,decide_false->Į,DecidableEq->Ķ,decide_true->ļ,beq_self_eq_true->ń,or_false->ş,bne_self_eq_false->d5,Decidable->sv,StateT->E9,Unit->LU,decide_eq_decide->_ar,or_assoc->_aV
open PySem renaming wpAny_bind->_c,Addr->_g,Value->_j,wpAny_pure->_k,model->_z,Str->_A,Shared->_C,World->_O,wpAny_newObj_type->_X,wpAny_truthy_bool->η,wpAny_mono->ν,wpAny_holding->π,wpAny_field->υ,wpAny_setField->ω,wpAny_call_entry->Α,Heap->Θ,wpAny_callSpecial?_slot->Ξ,SetTable->Ä,wpAny_rule->Ç,Builtin->É,Program->Ð,wpAny_seqItems->Ò,codeAny_builtin->Û,codeAny_mono->é,wpAny_Call_Name_kw->ê,wpAny_passesOwn->î,wpAny_attempt->ð,wpAny_setState_of->ó,Around->ù,Obj->ü,wpAny_eqBool_int->ý,take_succ_filter->Ā,wpAny_askSetting->ă,wpAny_execs_nil->ĉ,wpAny_setField_rec->č,wpAny_getItem_str_slice->ď,FuncData->ė,wpAny_pyIter_list->Ę,NameKind->ę,IsPair->Ĝ,plainId_quiet->Ģ,wpAny_newList->ģ,sizeLine_eq->ĥ,Stmt->ĭ,wpAny_load->İ,wpAny_call->ı,tupleKind_room_in1->Ĳ,Pos->ĵ,fits_of_scanBound->ĺ,Params->ň,post_val_or_str->ŋ,wpAny_ite_split->Ō,Env->ŧ,wpAny_setEntries_of->Ũ,IsZip->ū,wpAny_pyIter_tuple->ů,BindsTo->Ż,call_meetsIn->ż,wpAny_Call_method->Ž,slot_list_getitem->ž,wpAny_execs_cons->r4,Result->r_,IsPart->sf,wpAny_isInstance->sK,CmpOp->ua,wpAny_of_eq->uA,Sem->ww,Keyword->w_,Model->xB,wpAny_Name->xC,call_meets->yk,wpAny_newTuple->yA,wpAny_runValue->y8,wpAny_getItem_list_slice->A3,wpAny_onRaise->A4,wpAny_standAt->Bn,wpAny_comprehension_free->Bz,wpAny_typeOf->EJ,wpAny_isTrue_Compare1->IR,builtinLookup_eq_fast->I7,Tok->LB,GenState->LO,wpAny_loadName_local->LY,seqIndex_of->L7,wpAny_updateSeq_pair->ML,wpAny_letGo->MV,wpAny_newFunctionEnv->M4,codeAny_call_builtin->Nl,wpAny_pyIter_revIter->N1,wpAny_Tuple_spliced->OI,wpAny_Constant_int->Po,typeIs_str->RA,strKind_is->Uf,wpAny_assign_Name->VO,wpAny_Assign_Name->VS,wpAny_pyIter_enum->WJ,wpAny_storeSet_of->XP,wpAny_pyIter_slot->XZ,wpAny_setEpoch_of->YP,wpAny_loadPart_at->_aa,Arguments->_ac,wpAny_getItem_of->_ad,wpAny_pyIter_zip->_aj,wpAny_specialOf->_au,codeAny_of_tree->_ay,typeLookup_type->_az,wpAny_updateSeq->_aA,wpAny_Compare1->_aL,wpAny_loadPart->_aP,wpAny_notIn_of->_aQ,ZipApart->_aT,isSubtype_stop->_aU,isSubtype_type->_aW,entryFor_alias->_aX,intBits_le_64->_aZ,evalPart_none->_a4,evalPart_some->_a5,call_list_seq->_bj,wpAny_handled->_bk
open PySem.Heap renaming get?_push_of_some->_e,get?_push_size->_p,lt_size->_q,get?_update_other->_F,get?_update_self->_W,size_push->ε,SameBut->Á,get?_none_of_le->ğ,size_update->Ĵ,IsTuple->xh,ExtBut->_ai
open Bool renaming true->_h,false->_r,false_ne_true->_P,false_eq_true->ζ,and_eq_true->Ω,true_and->vk,eq_false_iff->ES,not_eq_true->KG,false_and->Pd,or_false->RE,and_true->UF,not_true->UO
open Option.some renaming inj->_m,injEq->Ń
open PySem.W renaming Frag->_s,nsIn->Δ,findIn->Ù,kitOne->Ú,kia_one->í,keepIn->Ć,emptyDict->Ċ,fnOf->Ħ,instObj->Ĭ,mroIn->ĳ,excIn->ł,InstAt->ő,hasDictIn->Œ,tabObj->ŕ,callWith_K->Ű,codeIn->ű,lookIn->vt,plainGet->vw,any_some->vT,looks_findIn->we,plainGet_of->xE,kat_cons->zi,methodObj->DZ,specialIn->EA,kat_yes->E5,kla_fn->GU,handedIn->L1,takerIn->PZ,takesIn->P4,cellsFrom_some->P6,mapOf_K->T8,kat_go->UI,kat_no->UM,OpenLaw->UX,methodCall_KW->Wk,find_K->_ak,TabsAt->_an,noTabs->_ao,looks_mroIn->_av,plainOver->_a1,kitx_list->_a2,kitx_dict->_a3
open Array renaming getElem?_eq_getElem->_u,getElem?_toList->_w,length_toList->_I,toList_append->θ,getElem?_eq_some_iff->Ο,perm_iff_toList_perm->Ì,toList_push->ç,getD->ā,toList_inj->ē,toList_zip->Ĕ,toList_extract->ĝ,toList_reverse->Ğ,append_assoc->Ő,toList_map->ũ,toList_setIfInBounds->c_,getElem?_eq_none->wm,size_extract->BO,size_zip->N3,toList->Pv
open PyProof.Rows renaming wpS_pure->_x,wpS_bind->_y,Keyed->_M,SortSt->ι,wpS_forRange->χ,IntsAre->Υ,callWith_type1->Å,wpS_mono->Ó,SortKind->â,elem'_eq->ã,wpS_modify->ì,slot_tuple_getitem->û,listUpdate_at->Ĉ,AllBare->ķ,wpS_get->Ļ,subscriptTail_builtinR->Ň,size_push'->ŉ,get?_update_seq->ō,entry_list_sort->Ŏ,wpS_lift->ś,seqEpoch_at->Ŝ,slot_list_sort->ŝ,Subscript_->Ų,boot_int->ų,boot_str->Ŵ,boot_max->ŵ,kws_nil->ŷ,plain_sorted->f',entry_sorted->f_,oneLt_int->tq,wpS_reverse->uD,kind_sorted->u',args_list_sort->zw,sortedHeap_old->zz,keyLt'_oneType->zA,sortedHeap_at->B1,listItems_at->FY,args_sorted1->GE,keyKind_ints->GI,getElem?_mirror_all->OV,chain_link->PR,slot_tuple_getitem->QN,callWith_builtin1->_at,call_int_bit_length->_aw,boot_reversed->_aB,getElem?_bubble->_aC,callWith_kw->_aD,kws_cons->_aE,envOfC->_aG,boot_bool->_aH,boot_set->_aI,joinOk_of_weight->_aJ,Top->_aK,slicePart_none->_aR,tail_any->_aS,ksk_rest->_aY,Compare_chain->_a0,getItem_tuple->_a6
open List renaming range->_B,getD_eq_getElem?_getD->_K,size_toArray->_Z,length_append->ς,map->Η,length_map->Ι,not_mem_nil->Μ,length->Ρ,getElem?_eq_getElem->Ã,getElem_toArray->Æ,mem_cons->Ê,length_cons->Ë,mem_cons_self->Î,mem_singleton->Ï,mem_append_left->Õ,replicate->Ü,map_append->å,ext_getElem->ô,getElem?_append_left->õ,find?_cons->þ,lookup->ą,getElem?_map->ċ,take_of_length_le->Č,length_singleton->đ,getElem?_eq_none->Ē,getElem?_append_right->Ĩ,pairwise_lt_range->ĸ,of_mem_zip->Ľ,getElem?_toArray->ŀ,getElem?_reverse->Ł,mem_cons_of_mem->Ņ,getLast?->Ŗ,length_zipIdx->ŗ,map_singleton->ř,zipWith->š,nodup_append->Ţ,take_succ_eq_append_getElem->ť,toArray->Ŧ,zipIdx_cons->Ŭ,take_length->Ů,forIn_cons->Ŷ,dropLast_concat_getLast->Ÿ,sum->q5,drop_zero->rd,drop_take->rh,getElem?_eq_some_iff->sC,findIdx?_eq_none_iff->ti,drop_eq_getElem_cons->tz,mem_of_find?_eq_some->tP,length_erase_of_mem->ve,map_eq_append_iff->xi,mem_map->xj,getElem?_zipWith->yB,pairwise_reverse->zo,eq_nil_or_concat->zB,dropLast_concat->AA,reverse_reverse->AH,mem_erase_of_ne->AI,map_eq_cons_iff->AL,filterMap_cons->AO,getElem?_range->Cb,drop_succ_cons->Cf,toList_toArray->C5,take_sublist->EB,getElem_take->E1,reverse_perm->E',filter_congr->G4,getElem_inj->IA,length_take->I',mem_reverse->J1,perm_middle->J8,map_snd_zip->Kj,mem_filter->LN,nodup_cons->L4,zipIdx_nil->ME,take_left'->Of,length_nil->OF,filter_nil->OG,forIn_nil->OR,drop_drop->OX,nodup_nil->O0,all_map->XO
open PySem.Value renaming none->_J,ref->_Q,int->Ζ,type->Ö,builtin->Ė,str->į,isInt_shape->Ś,bool->Ź,float->xp,isStrOf->OH,isInt->VE,bytes->VI
open Sum renaming inl->_R,inr->δ
open PySem.SetTable renaming below->_S,grown->Β,insertAt->y7,Probe->DC,laid->E4
open Ne renaming symm->_T
open PySem.PassesOwn renaming never->_U,leaving->Ŋ
open PySem.Obj renaming mapSeq->_Y,mapFields->ξ,data_mapFields->á,isFreed_of_fields->ĕ,putSet->s_,data_mapDictKeys->Cc
open PySem.Heap.SameBut renaming update->ο,refl->_ax
open PySem.Builtin.SmallTypes renaming nextOf->ψ,ownedTupleIsFree->Φ,ownedTupleHandOut->ĩ
open PySem.NameKind renaming free->Γ,cell->ò
open Nat renaming zero_le->Ε,le_refl->Τ,zero_testBit->ø,min_eq_left->ſ,testBit_and->j',testBit_xor->n',testBit_or->sT,mod_lt->tj,add_zero->zp,le_trans->z3,zero_add->z6,testBit_lt_two_pow->z8,pow_pos->C',mul_le_mul_left->DL,lt_of_le_of_lt->HL,succ_ne_self->M',add_assoc->YV,sub_self->_al,le_of_eq->_am
open PySem.Calls renaming spliced_cons->Κ,callWith_builtin->ß,spliced_nil->æ,evalArgs_plain->ï,call_function_entry->ī,Name_function_global->ź
open Int renaming emod_lt_of_pos->Λ,emod_nonneg->È,ediv_nonneg->pT,mul_lt_mul_of_pos_right->rz,fdiv_eq_ediv_of_nonneg->r8,le_ediv_iff_mul_le->zD,ediv_lt_iff_lt_mul->z0,add_mul->BN,not_lt->GO,toNat_natCast->I3,ediv_mul_le->Pf,add_zero->_ap,ne_of_lt->_aq,lt_or_le->_as,le_refl->_aF
open False renaming elim->Ν
open True renaming intro->Ψ
open PySem.Builtin renaming bitNot->À,bitAnd->Ą,bitOr->Ī
open PySem.Around renaming under_plainId->Â,under->ui
open Classical renaming byContradiction->Í,choose->_bw,choose_spec->_bx
open PySem.Str renaming ofString->Ø,length->ě
open ForInStep renaming yield->Ý
open PySem.Builtin.List renaming listExtendWith->Þ,listTooLong->ġ,listLengthHint->Ŕ,listSameRef->Ť
open PySem.Builtin.Slice renaming slicePlaces->ä,sliceAdjust->Ě,sliceApplied->œ,slicePartIndex->_ae,sliceFields->_af
open PySem.Builtin.Tuple renaming tupleExact->ë,tupleItemsOf->_ag
open PySem.Shared renaming mk->ñ,heap->TH
open PySem.F renaming slot_tuple_iterator_next->ö,called_set->ú,slot_zip_next->ņ,args_tuple_iterator_next_1->sx,entry_tuple_iterator_next->uj,args_zip_next_1->OT,entry_list_pop->S',entry_zip_next->TL,slot_list_pop->WI,plain_set_new->XW,slot_set_iter->X0
open List.Perm renaming refl->Ă,cons->_bq,swap->_bt,append_right->_bv
open List.Pairwise renaming filter->ć,imp_of_mem->Ş,nil->_ah
open PySem.SeqAt.EqAt renaming same->Ď,of_refs->Ġ,int_int->Ŀ,int_str->t4,str_int->t5,none_bool->_a7,none_int->_a8,none_str->_a9,bool_none->_ba,bool_bool->_bb,bool_int->_bc,bool_str->_bd,int_none->_be,int_bool->_bf,str_none->_bg,str_bool->_bh,str_str->_bi
open PySem.Builtin.Int renaming intBits->Đ
open BitVec renaming toNat_ofNat->Ĥ,ofNat->OY
open PySem.SeqAt renaming EqAt->ħ,eq_tupleAt->G2,eq_listAt->Kt
open PySem.SetTable.probe renaming go->Ĺ
open PyProof.Rows.F renaming plain_set_update_loop->ľ,entry_set_update_loop->At
open PySem.SeqAt.RcAt renaming lists->ŏ,tuples->wq
open Array.Perm renaming refl->Ř
open Sum.inl renaming inj->Š
open Except renaming ok->ţ,error->uC
open PySem.Data renaming cell->Ū,fields->Ap,seq->OS
open PySem.Builtin.Frozenset renaming newClass->NC,updateFrom->NL,slot0->NR,sizeOf->NW
namespace L2
open PySem PySem.Spec PyProof.Rows
variable{i n j m t' ia hd:_d}{s:_C}{a C f b p dx d l aB aP aM it D:_g}{A:ù}{pos k8 px:ĵ}{x qual:_A}{h h' base:Θ}{b9:_b (_g×ü)}{prog P:Ð}{Q:vSP}{u:_j}{c:_d->_A}{scope:Scope}{es qc:_b Expr}{tg iter qA:Expr}{pz:_b _d}{us:_b _j}{mg:_A->_t _j}{fd:ė}{st:ĭ}{t:_i}{fp:_b _g}{ns:_b _i}{led:_V}
abbrev Key:=Sum _i _A
def MP:Key->_j->_V
 |.inl k,v=>VE k v
 |.inr x,v=>OH x v
def zr(w:_O):Key->_i
 |.inl k=>hashInt k
 |.inr x=>hashStr w x
theorem Cm:∀{k:Key}{v:_j},MP k v=_h->(∃i t,k=_R i/\v=Ζ i t) \/ (∃x t,k=δ x/\v=į x t)
 |.inl i,v,h=>by
  obtain⟨t,e⟩:=Ś (k:=i) (v:=v) h;exact .inl ⟨i,t,U,e⟩
 |.inr x,v,h=>by
  obtain⟨t,e⟩:=Value.isStrOf_shape (x:=x) (v:=v) h;exact .inr ⟨x,t,U,e⟩
theorem Xk(i:_i)(t:LB):MP (.inl i) (.int i t)=true:=by simp[MP,VE]
theorem YQ(x:_A)(t:LB):MP (.inr x) (.str x t)=true:=by simp[MP,OH]
theorem qi(a b:_i):decide ((_R a:Key)=_R b)=(a == b):=by
 by_cases e:a=b
 .subst e;simp
 .have h:¬ (_R a:Key)=_R b:=λq=>e<|Š q
  rw[_L h];exact (à.mpr e).symm
theorem nC(a b:_A):decide ((δ a:Key)=δ b)=decide (a=b):=by
 by_cases e:a=b
 .subst e;simp
 .have h:¬ (δ a:Key)=δ b:=λq=>e<|Sum.inr.inj q
  rw[_L h,_L e]
theorem pD(a:_i)(b:_A):decide ((_R a:Key)=δ b)=false:=_L (λq=>nomatch q)
theorem q_(a:_A)(b:_i):decide ((δ a:Key)=_R b)=false:=_L (λq=>nomatch q)
noncomputable def CN(prog:Ð)(w:_O):PySem.KeyKind prog w Key where
 is:=MP
 hash:=zr w
 inj:=λv a b ha hb=>by
  rcases Cm ha with⟨i,t,rfl,rfl⟩ | ⟨x,t,rfl,rfl⟩
  .rcases Cm hb with⟨j,u,rfl,e⟩ | ⟨y,u,rfl,e⟩
   .injection e with e1 _;rw[e1]
   .exact nomatch e
  .rcases Cm hb with⟨j,u,rfl,e⟩ | ⟨y,u,rfl,e⟩
   .exact nomatch e
   .injection e with e1 _;rw[e1]
 byValue:=λk v h=>by
  rcases Cm h with⟨i,t,rfl,rfl⟩ | ⟨x,t,rfl,rfl⟩ <;> rfl
 pyHash:=λhv h=>by
  rcases Cm hv with⟨i,t,rfl,rfl⟩ | ⟨x,t,rfl,rfl⟩
  .exact wpAny_pyHash_int h
  .exact wpAny_pyHash_str h
 eqBool:=λhu hv h=>by
  rcases Cm hu with⟨i,t,rfl,rfl⟩ | ⟨x,t,rfl,rfl⟩
  .rcases Cm hv with⟨j,u,rfl,rfl⟩ | ⟨y,u,rfl,rfl⟩
   .rw[qi] at h;exact ý h
   .rw[pD] at h;exact t4 i t y u _ _ _ _ h
  .rcases Cm hv with⟨j,u,rfl,rfl⟩ | ⟨y,u,rfl,rfl⟩
   .rw[q_] at h;exact t5 x t j u _ _ _ _ h
   .rw[nC] at h;exact wpAny_eqBool_str h
 «strs»:=λk x t v h=>by
  rcases Cm h with⟨i,u,rfl,e⟩ | ⟨y,u,rfl,e⟩
  .exact nomatch e
  .injection e with e1 _
   subst e1
   cases v <;> rfl
theorem TY(prog:Ð)(w:_O)(i:_i)(t:LB):(CN prog w).is (.inl i) (.int i t)=true:=Xk i t
theorem Te(prog:Ð)(w:_O)(x:_A)(t:LB):(CN prog w).is (.inr x) (.str x t)=true:=YQ x t
inductive V where
 | non | bl (b:_V) | int (i:_i) | str (x:_A) | byt (b:_E UInt8) | flt (b:UInt64) | ref (a:_g) | ty (n:è)
 deriving Ķ
def RelV:V->_j->Prop
 |.non,u=>u=_J
 |.bl b,u=>u=Ź b
 |.int i,u=>∃t,u=Ζ i t
 |.str x,u=>∃t,u=į x t
 |.byt b,u=>∃t,u=VI b t
 |.flt b,u=>∃t,u=xp b t
 |.ref a,u=>u=_Q a
 |.ty n,u=>u=Ö n
abbrev Vals:_b V->_b _j->Prop:=Paired RelV
theorem Vals.length{xs:_b V}(r:Vals xs us):xs.length=us.length:=Paired.length r
theorem Vals.get:∀{xs:_b V}{us:_b _j}{i:_d}{x:V},Vals xs us->xs[i]? = _a x->∃u,us[i]? = _a u/\RelV x u
 |_,_,_,_,.nil,e=>by simp at e
 |_,_,0,_,.cons r _,e=>by simp at e;subst e;exact⟨_,U,r⟩
 |_,_,i+1,x,.cons _ t,e=>by
  obtain⟨u,b,a⟩:=Vals.get (i:=i) (x:=x) t<|by simpa using e
  exact⟨u,by simpa using b,a⟩
theorem Vals.append:∀{xs ys:_b V}{us ws:_b _j},Vals xs us->Vals ys ws->Vals (xs++ys) (us++ws)
 |_,_,_,_,.nil,s=>s
 |_,_,_,_,.cons r t,s=>.cons r<|Vals.append t s
theorem Vals.take:∀{xs:_b V}{us:_b _j}(n:_d),Vals xs us->Vals (xs.take n) (us.take n)
 |_,_,0,_=>.nil
 |_,_,_+1,.nil=>.nil
 |_,_,n+1,.cons r t=>.cons r<|Vals.take n t
theorem Vals.drop:∀{xs:_b V}{us:_b _j}(n:_d),Vals xs us->Vals (xs.drop n) (us.drop n)
 |_,_,0,r=>r
 |_,_,_+1,.nil=>.nil
 |_,_,n+1,.cons _ t=>Vals.drop n t
def Gw:_t V->_t _j->Prop
 |some v,_a u=>RelV v u
 |none,_n=>True
 |_,_=>Χ
def KV{κ:Type}:_b (κ×V)->_b (κ×_j)->Prop:=Paired λ(p:κ×V) (q:κ×_j)=>p.1=q.1/\RelV p.2 q.2
noncomputable def kV:Key->V
 |.inl i=>.int i
 |.inr x=>.str x
inductive HO where
 | lst(xs:_b V)
 | tup(xs:_b V)
 | dK(kvs:_b (Key×V)) | dT (kvs:_b (_b Key×V))
 | set(S:_i->_V)(n:_d)
 | ins(C dx:_g)(fs:_b (_A×V))
 | own(x:_g)
 | xd(fs:_b (_A×V))
 | met(f x:_g)
 | rng(lo hi:_i)
 | frz(o:ü)(u:HO)
 | tbl(ps:_E _j)
 | ext(φ:Θ->Prop)
variable{xs vs ys:_b V}{kvs:_b (Key×V)}{y:V}{o:HO}
abbrev Hp:=_g->_t HO
noncomputable def upd(H:Hp)(a:_g)(o:HO):Hp:=λb=>if b=a then _a o else H b
theorem Ai{H:Hp}:upd H a o a=_a o:=by unfold upd;rw[_o U]
theorem An{H:Hp}(h:b≠a):upd H a o b=H b:=by unfold upd;rw[_l h]
theorem Kh{H:Hp}{u:HO}(h:H a=_a o)(h':H b=_a u)(d:o≠u):a≠b:=by
 intro e;subst e;rw[h] at h';exact d<|_m h'
theorem Ak{H:Hp}(h:H a=_a o)(h':H b=_n):a≠b:=by
 intro e;subst e;rw[h] at h';cases h'
section
variable(P:Ð)(w:_O)
def Cd(H:Hp)(h:Θ)(a:_g):HO->Prop
 |.lst xs=>xs.length<=sizeLine/\∃(its:_b _j)(n:_d),Vals xs its/\h.get? a=_a { cls:=.type "list",data:=.seq its.toArray n }
 |.tup xs=>xs.length<=sizeLine/\∃its:_b _j,Vals xs its/\IsTup h a its.toArray
 |.dK kvs=>kvs.length<=sizeLine/\(a == sysModules)=_r/\∃vs,KV kvs vs/\h.DictOf (CN P w) a vs
 |.dT kvs=>kvs.length<=sizeLine/\(a == sysModules)=_r/\∃xs:_b<|_b Key×_g×_j,
   Paired (λ(p:_b Key×V) (q:_b Key×_g×_j)=>p.1=q.1/\H q.2.1=_a (.tup<|p.1.map kV)/\RelV p.2 q.2.2) kvs xs /\
   ∃o es ep,h.get? a=_a o/\o.ExactDict/\o.data=.dict es ep/\es.toList=xs.map (entryOfKey<|tupleKind<|CN P w)/\(xs.map (·.1)).Nodup
 |.set S n=>h.SetOf (intKind P w) a S n
 |.ins C dx fs=>H dx=_a (.own a)/\fs.length<=1000/\dx≠a/\h.get? a=_a (Ĭ C dx) /\
   ∃mA,h.Ns1 dx mA/\(∀f,Gw (fs.lookup f)<|mA f)/\PySem.Within mA (fs.map (·.1))
 |.own _=>∃o,h.get? a=_a o
 |.xd fs=>∃mA,h.Ns1 a mA/\∀f,Gw (fs.lookup f)<|mA f
 |.rng lo hi=>∃t u v,h.get? a=_a { cls:=.type "range",data:=.fields #[.int lo t,.int hi u,.int 1 v] }
 |.frz o u=>h.get? a=_a o/\Cd H h a u
 |.tbl ps=>h.get? a=_a { cls:=.none,data:=.fields ps }
 |.met f x=>h.get? a=_a (DZ (.ref f)<|.ref x)
 |.ext φ=>φ h/\(∃o,h.get? a=_a o)/\∀h1 h2:Θ,φ h1->(∀o,h1.get? a=_a o->h2.get? a=_a o)->φ h2
def Fe(H:Hp)(h:Θ):Prop:=∀a o,H a=_a o->Cd P w H h a o
end
section
variable{w:_O}{H H':Hp}
theorem Cd.lt(x:Cd P w H h a o):a<h.objs.size:=by
 cases o with
 |lst c=>obtain⟨_,_,_,_,e⟩:=x;exact _q e
 |tup c=>obtain⟨_,_,_,p⟩:=x;exact p.lt
 |dK b=>obtain⟨_,_,_,_,o,_,_,e,_⟩:=x;exact _q e
 |dT b=>obtain⟨_,_,_,_,o,_,_,e,_⟩:=x;exact _q e
 |set S n=>obtain⟨o,_,_,_,e,_⟩:=x;exact _q e
 |ins C g fs=>obtain⟨_,_,_,e,_⟩:=x;exact _q e
 |own y=>obtain⟨_,e⟩:=x;exact _q e
 |xd fs=>obtain⟨_,⟨_,_,_,e,_⟩,_⟩:=x;exact _q e
 |rng lo d=>obtain⟨_,_,_,e⟩:=x;exact _q e
 |frz i u=>obtain⟨e,_⟩:=x;exact _q e
 |tbl ps=>exact _q (show h.get? a=_a _ from x)
 |met f y=>exact _q (show h.get? a=_a _ from x)
 |ext φ=>obtain⟨_,⟨_,e⟩,_⟩:=x;exact _q e
theorem Paired.Em{α β:Type}{F G:α->β->Prop}:∀{l₁:_b α}{l₂:_b β},Paired F l₁ l₂->(∀a b,F a b->G a b)->Paired G l₁ l₂
 |_,_,.nil,_=>.nil
 |_,_,.cons r t,f=>.cons (f _ _ r)<|Paired.Em t f
theorem Cd.stay(x:Cd P w H h a o)(k:∀b u,(b=a \/ H b=_a (.own a))->h.get? b=_a u->h'.get? b=_a u)
  (I:∀b,H b=_a (.own a)->H' b=_a (.own a))(B:∀b xs,H b=_a (.tup xs)->H' b=_a (.tup xs)):Cd P w H' h' a o:=by
 induction o with
 |lst xs=>obtain⟨z,l,n,r,e⟩:=x;exact⟨z,l,n,r,k _ _ (.inl U) e⟩
 |tup xs=>obtain⟨z,l,r,g,e,c⟩:=x;exact⟨z,l,r,g,k _ _ (.inl U) e,c⟩
 |dK m=>obtain⟨z,y,D,r,g,i,j,e,c⟩:=x;exact⟨z,y,D,r,g,i,j,k _ _ (.inl U) e,c⟩
 |dT m =>
  obtain⟨z,y,xs,r,g,i,j,e,c⟩:=x;exact⟨z,y,xs,Paired.Em r λp q z=>⟨z.1,B _ _ z.2.1,z.2.2⟩,g,i,j,k _ _ (.inl U) e,c⟩
 |set S n=>obtain⟨g,i,j,t,e,c⟩:=x;exact⟨g,i,j,t,k _ _ (.inl U) e,c⟩
 |ins C K fs =>
  obtain⟨d,z,E,e,s,⟨A,i,j,G,c⟩,r⟩:=x;exact⟨I _ d,z,E,k _ _ (.inl U) e,s,⟨A,i,j,k _ _ (.inr d) G,c⟩,r⟩
 |own y=>obtain⟨g,e⟩:=x;exact⟨g,k _ _ (.inl U) e⟩
 |xd fs=>obtain⟨s,⟨A,i,j,e,c⟩,r⟩:=x;exact⟨s,⟨A,i,j,k _ _ (.inl U) e,c⟩,r⟩
 |rng lo J=>obtain⟨t,u,v,e⟩:=x;exact⟨t,u,v,k _ _ (.inl U) e⟩
 |frz g u F=>obtain⟨e,q⟩:=x;exact⟨k _ _ (.inl U) e,F q⟩
 |tbl ps =>
  have e:h.get? a=_a { cls:=.none,data:=.fields ps }:=x;show h'.get? a=_a { cls:=.none,data:=.fields ps };exact k a _ (.inl U) e
 |met f y =>
  have e:h.get? a=_a (DZ (.ref f)<|.ref y):=x;show h'.get? a=_a (DZ (.ref f)<|.ref y);exact k a _ (.inl U) e
 |ext φ=>obtain⟨p,⟨o,e⟩,st⟩:=x;exact⟨st _ _ p λo q=>k _ _ (.inl U) q,⟨o,k _ _ (.inl U) e⟩,st⟩
theorem Fe.lt(x:Fe P w H h)(e:H a=_a o):a<h.objs.size:=(x a o e).lt
theorem Fe.fresh(x:Fe P w H h)(e:h.objs.size<=a):H a=none:=by
 cases q:H a with
 |none=>rfl
 |some u=>exact _D (ba (x.lt q) e)<|fI _
theorem Fe.kept(x:Fe P w H h)(k:∀b u,h.get? b=_a u->h'.get? b=_a u):Fe P w H h':=λa o e =>
 (x a o e).stay (λb u _ q=>k b u q) (λ_ q=>q) λ_ _ q=>q
theorem Fe.laid(x:Fe P w H h)(k:∀b u,h.get? b=_a u->h'.get? b=_a u)(i:h.objs.size<=a)(d:Cd P w (upd H a o) h' a o):Fe P w (upd H a o) h':=λb u e=>by
 have g:=x.fresh i;by_cases f:b=a
 .subst f;rw[Ai] at e;cases e;exact d
 .rw[An f] at e;exact (x b u e).stay (λc v _ q=>k c v q) (λc q=>by rw[An (Ak q g)];exact q) λc j q=>by rw[An (Ak q g)];exact q
end
def Rd(H:Hp)(a:_g)(u:HO):Prop:=H a=_a u \/ ∃o,H a=_a (.frz o u)
theorem Rd.ok{w:_O}{H:Hp}{u:HO}(r:Rd H a u)(x:Fe P w H h):Cd P w H h a u:=by
 rcases r with r | ⟨o,r⟩
 .exact x a u r
 .obtain⟨_,q⟩:=x a _ r;exact q
def xr:_t HO->Prop
 |some (.lst _)=>True
 |some (.dK _)=>True
 |some (.dT _)=>True
 |some (.set _ _)=>True
 |some (.ins _ _ _)=>True
 |some (.ext _)=>True
 |_=>Χ
section
variable{w:_O}{H:Hp}{x e:_g}{o':HO}
theorem Fe.write(ok:Fe P w H h)(g:xr<|H x)(n:e=x \/ H e=_a (.own x))(k:∀b u,b≠e->h.get? b=_a u->h'.get? b=_a u)(p:∃u,h'.get? e=_a u)
  (m:Cd P w (upd H x o') h' x o'):Fe P w (upd H x o') h':=λb u q=>by
 have d:∀c y,H c=_a (.own y)->c≠x:=λc y r z=>by subst z;rw[r] at g;exact g
 have f:∀c l,H c=_a (.tup l)->c≠x:=λc l r z=>by subst z;rw[r] at g;exact g
 by_cases i:b=x
 .subst i;rw[Ai] at q;cases q;exact m
 .rw[An i] at q;by_cases a:b=e
  .have o:H b=_a (.own x):=by
    rcases n with z | z
    .exact _D (a.trans z) i
    .rw[a];exact z
   rw[q] at o;cases o;obtain⟨v,s⟩:=p;exact⟨v,by rw[a];exact s⟩
  .refine (ok b u q).stay (λc v j r=>k c v ?_ r) (λc r=>by rw[An (d c b r)];exact r) λc l r=>by rw[An (f c l r)];exact r
   rcases j with rfl | j
   .exact a
   .rintro rfl;rcases n with z | z
    .exact d c b j z
    .rw[j] at z;cases z;exact i U
end
structure Un(fs ex:_b _g)(H H':Hp)(h h':Θ):Prop where
 keep:∀b o,h.get? b=_a o->H b=_n->b ∉ fs->b ∉ ex->h'.get? b=_a o
 slot:∀b o,h.get? b=_a o->H b=_n->b∈fs->b ∉ ex->∃sl,h'.get? b=_a { o with slots:=sl }
 free:∀b o,h.get? b=_a o->H b=_n->b ∉ ex->H' b=_n
 there:∀b o,h.get? b=_a o->b ∉ ex->∃o',h'.get? b=_a o'
 tups:∀b xs,H b=_a (.tup xs)->H' b=_a (.tup xs)
 frzs:∀b o u,H b=_a (.frz o u)->H' b=_a (.frz o u)
 tbls:∀b ps,H b=_a (.tbl ps)->∃more,H' b=_a (.tbl<|ps++more)
section
variable{fs xI ex ex':_b _g}{H H1 H2:Hp}{h1 h2:Θ}{x e:_g}
theorem Un.any(u:Un fs ex H H1 h h1){ob:ü}(q:h.get? b=_a ob)(n:H b=_n)(a:b ∉ ex):∃sl,h1.get? b=_a { ob with slots:=sl }:=by
 by_cases c:b∈fs
 .exact u.slot b ob q n c a
 .exact⟨ob.slots,u.keep b ob q n c a⟩
theorem Un.trans(a:Un fs ex H H1 h h1)(b:Un fs ex H1 H2 h1 h2):Un fs ex H H2 h h2 where
 keep:=λc d q n g e=>b.keep c d (a.keep c d q n g e) (a.free c d q n e) g e
 slot:=λc d q n g e=>by
  obtain⟨p,f⟩:=a.slot c d q n g e;obtain⟨o,j⟩:=b.slot c _ f (a.free c d q n e) g e;exact⟨o,j⟩
 free:=λc d q n e=>by
  obtain⟨k,f⟩:=a.there c d q e;exact b.free c k f (a.free c d q n e) e
 there:=λc d q e=>by
  obtain⟨k,f⟩:=a.there c d q e;exact b.there c k f e
 tups:=λc i q=>b.tups c i<|a.tups c i q
 frzs:=λc d i q=>b.frzs c d i<|a.frzs c d i q
 tbls:=λc ps q=>by
  obtain⟨l,f⟩:=a.tbls c ps q;obtain⟨m,j⟩:=b.tbls c _ f;exact⟨l++m,by rw[j,Ő]⟩
theorem Un.kept(k:∀b u,h.get? b=_a u->h'.get? b=_a u):Un fs ex H H h h' :=
 ⟨λb a q _ _ _=>k b a q,λb a q _ _ _=>⟨a.slots,k b a q⟩,λ_ _ _ n _=>n,λb a q _=>⟨a,k b a q⟩,λ_ _ q=>q,λ_ _ _ q=>q,λ_ ps q=>⟨#[],by rw[q];simp⟩⟩
theorem Un.refl:Un fs ex H H h h:=Un.kept λ_ _ q=>q
theorem Un.laid(k:∀b u,h.get? b=_a u->h'.get? b=_a u)(d:h.objs.size<=a)(c:H a=_n):Un fs ex H (upd H a o) h h' where
 keep:=λb u q _ _ _=>k b u q
 slot:=λb u q _ _ _=>⟨u.slots,k b u q⟩
 free:=λb u q n _=>by rw[An (cf<|ba (_q q) d)];exact n
 there:=λb u q _=>⟨u,k b u q⟩
 tups:=λb e q=>by rw[An (Ak q c)];exact q
 frzs:=λb u e q=>by rw[An (Ak q c)];exact q
 tbls:=λb ps q=>⟨#[],by rw[An (Ak q c),q];simp⟩
theorem Un.write(c:xr<|H x)(i:e=x \/ H e=_a (.own x))(k:∀b u,b≠e->h.get? b=_a u->h'.get? b=_a u)(j:∃u,h'.get? e=_a u):Un fs ex H (upd H x o) h h':=by
 have g:∀b,H b=_n->b≠x:=λb n z=>by subst z;rw[n] at c;exact c
 have f:∀b,H b=_n->b≠e:=λb n z=>by
  subst z;rcases i with r | r
  .exact g b n r
  .rw[n] at r;cases r
 have d:∀b u,H b=_a u->¬ xr (_a u)->b≠x:=λb u q l z=>by subst z;rw[q] at c;exact l c
 refine⟨λb u q n _ _=>k b u (f b n) q,λb u q n _ _=>⟨u.slots,k b u (f b n) q⟩,λb u q n _=>by rw[An (g b n)];exact n,λb u q _=>?_,
  λb m q=>by rw[An (d b _ q λz=>z)];exact q,λb u m q=>by rw[An (d b _ q λz=>z)];exact q,λb ps q=>⟨#[],by rw[An (d b _ q λz=>z),q];simp⟩⟩
 by_cases a:b=e
 .subst a;exact j
 .exact⟨u,k b u a q⟩
end
def ym(h:Θ)(H:Hp):_b Addr:=(_B h.objs.size).filter λa=>(H a).isSome
def Pg(h:Θ)(H:Hp):Heap:=W.hideAll h<|ym h H
theorem X5(h:Θ)(H:Hp):(Pg h H).objs.size=h.objs.size:=W.hideAll_size _ _
variable{H H' H1 H2:Hp}
theorem Zt{o:ü}(e:h.get? b=_a o)(n:H b=_n):(Pg h H).get? b=_a o :=
 W.hideAll_get _ e λa=>by
  have q:(H b).isSome=true:=(cy.mp a).2;rw[n] at q;simp at q
theorem iW{o:ü}(e:(Pg h H).get? b=_a o):h.get? b=_a o/\H b=none:=by
 have a:h.get? b=_a o:=W.of_hideAll (ym h H) e;refine⟨a,?_⟩
 cases q:H b with
 |none=>rfl
 |some x =>
  have c:b∈ym h H:=LN.mpr ⟨List.mem_range.mpr<|_q a,by simp[q]⟩;have z:(Pg h H).get? b=none:=W.hideAll_none (ym h H) c;rw[z] at e;cases e
def gr(g h:Θ)(L:_g):_b<|_g×Obj:=(_B h.objs.size).filterMap λa=>if a=L \/ (g.get? a).isSome=_h then _n else (h.get? a).map λo=>(a,o)
def rest(g h:Θ)(L d:_g):_b<|_g×Obj:=(gr g h L).filter λp=>decide (p.1≠d)
structure Mod(K:_s)(mg:_A->_t _j)(base:Θ):Prop where
 kin:K.In base
 glob:base.Ns mainGlobals mg
 blt:∃mb,base.Ns builtinsNs mb/\∀x:_A,x≠"__name__"->mb x=bootBuiltins x
 nolimit:base.NoLimit
structure Cx where
 prog:Ð
 w:_O
 K:_s
 mg:_A->_t _j
 base:Θ
 A:ù
 N:_b _A
 s₀:_C
 H₀:Hp
 env:ŧ
 outer:_b ŧ
 stack:_b ŧ
 ex:_b _g
 fn:_A->_V
 calm:_V
 pn:_b<|_g×ü
 xe:_j->_C->Prop
def frs(l:_b ŧ):_b Addr:=l.filterMap (·.frame)
noncomputable abbrev Cx.fs(X:Cx):_b Addr:=frs X.outer
def Vis(sc:Scope)(x:_A):Prop:=sc.names.lookup x=_a .local \/ sc.names.lookup x=_a .cell \/ sc.names.lookup x=_a .free
def Loc(sc:Scope)(x:_A):Prop:=sc.names.lookup x=_a .local \/ sc.names.lookup x=_a .cell
def Look(env:ŧ)(h:Θ)(m:_A->_t _j)(x:_A)(u:_j):Prop :=
 (env.kindOf x=_a .local/\m x=_a u) \/ ((env.kindOf x=_a .cell \/ env.kindOf x=_a .free)/\∃c,env.cells.lookup x=_a c/\h.IsCell c (_a u))
structure Cx.Ok(X:Cx):Prop where
 mod:Mod X.K X.mg X.base
 kind:X.env.scope.kind=.function
 glob:X.env.globals=mainGlobals
 blt:X.env.builtins=builtinsNs
 above:X.s₀.heap.objs.size<=X.env.locals
 inj:∀x y c,X.env.cells.lookup x=_a c->X.env.cells.lookup y=_a c->x=y
 has:∀x,(X.env.kindOf x=_a .cell \/ X.env.kindOf x=_a .free)->∃c,X.env.cells.lookup x=_a c
 cab:∀x c,X.fn x=_h->X.env.cells.lookup x=_a c->X.s₀.heap.objs.size<=c
 hd:X.calm=_h->X.A.handled=_n
 frames:X.A.frames=_a X.stack
 stk:X.stack=X.outer \/ (X.stack=X.env::X.outer/\X.env.frame=_a X.env.locals)
 exf:∀b∈X.ex,b≠X.env.locals/\∀x c,X.env.cells.lookup x=_a c->c≠b
 bs:∀b o,X.base.get? b=_a o->X.s₀.heap.get? b=_a o/\X.H₀ b=_n
 bsz:X.base.objs.size<=X.s₀.heap.objs.size
 noex:∀b o,X.base.get? b=_a o->b ∉ X.ex
 exfs:∀b∈X.ex,b ∉ X.fs
 Lp:X.s₀.heap.FunFrames X.base X.outer
 frf:∀b∈X.fs,X.H₀ b=_n
structure Inv(X:Cx)(b9:_b<|_g×ü)(σ:_b<|_t V)(H:Hp)(s:_C):Prop where
 ok:X.Ok
 os:s.os=X.s₀.os
 bare:ķ s.gens
 base:Un X.fs X.ex X.H₀ H X.s₀.heap s.heap
 loc:∃m,s.heap.Ns X.env.locals m/\∀(i:_d)(x:_A)(v:V),X.N[i]? = _a x->σ[i]? = _a (_a v)->Vis X.env.scope x->∃u,RelV v u/\Look X.env s.heap m x u
 cell:∀x c,X.env.cells.lookup x=_a c->∃v,s.heap.IsCell c v
 free:H X.env.locals=_n
 freeC:∀x c,X.env.cells.lookup x=_a c->H c=_n
 pin:∀p∈X.pn++b9,s.heap.get? p.1=_a p.2/\H p.1=_n/\p.1≠X.env.locals/\p.1 ∉ X.fs/\∀v,p.2.data≠.cell v
 hok:Fe X.prog X.w H s.heap
 len:σ.length=X.N.length
section
variable{X:Cx}{σ:_b (_t V)}
theorem Cx.Ok.nofr(ok:X.Ok){o:ü}(e:X.base.get? b=_a o):b ∉ X.fs:=λa=>by
 have:=(ok.Lp.mem a).1;rw[e] at this;cases this
theorem Inv.bs(I:Inv X b9 σ H s):∀b o,X.base.get? b=_a o->s.heap.get? b=_a o/\H b=none:=λb o e =>
 ⟨I.base.keep b o (I.ok.bs b o e).1 (I.ok.bs b o e).2 (I.ok.nofr e)<|I.ok.noex b o e,I.base.free b o (I.ok.bs b o e).1 (I.ok.bs b o e).2 (I.ok.noex b o e)⟩
theorem Inv.bk(I:Inv X b9 σ H s):∀b o,X.base.get? b=_a o->s.heap.get? b=_a o:=λb o e=>(I.bs b o e).1
theorem Inv.mod(I:Inv X b9 σ H s):Mod X.K X.mg X.base:=I.ok.mod
theorem Inv.JX(I:Inv X b9 σ H s):X.K.In s.heap:=I.ok.mod.kin.keeps I.bk
theorem Inv.nolimit(I:Inv X b9 σ H s):s.heap.NoLimit:=I.ok.mod.nolimit.keeps I.bk
theorem Inv.lt(I:Inv X b9 σ H s):X.env.locals<s.heap.objs.size:=let ⟨_,a,_⟩:=I.loc;a.lt
theorem Inv.sz(I:Inv X b9 σ H s):X.s₀.heap.objs.size<=s.heap.objs.size:=bo I.ok.above<|fh I.lt
theorem Inv.nofs(I:Inv X b9 σ H s)(h:s.heap.objs.size<=a):a ∉ X.fs:=λc=>by
 obtain⟨_,o,b,_⟩:=I.ok.Lp.mem c;exact _D (ba (_q b)<|bo I.sz h)<|fI _
theorem Inv.iB(I:Inv X b9 σ H s):∀x c,X.env.cells.lookup x=_a c->c≠X.env.locals:=λx c e z=>by
 obtain⟨v,o,b,a⟩:=I.cell x c e;obtain⟨m,⟨i,h,g,d,f,_⟩,_⟩:=I.loc;rw[z,d] at b;cases b;rw[f] at a;cases a
theorem Inv.Lp(I:Inv X b9 σ H s):s.heap.FunFrames X.base X.outer:=by
 have all:∀(l:_b ŧ),(∀b∈frs l,b∈X.fs)->X.s₀.heap.FunFrames X.base l->s.heap.FunFrames X.base l:=by
  intro l
  induction l with
  |nil=>intro _ _;trivial
  |cons g r m =>
   intro f k;obtain⟨p,⟨L,o,c,h,n,j⟩,i⟩:=k;have d:L∈X.fs:=f L<|by unfold frs;rw[AO,c];exact Î
   obtain⟨q,e⟩:=I.base.slot L o n (I.ok.frf L d) d λz=>I.ok.exfs L z d;exact⟨p,⟨L,_,c,h,e,j⟩,m (λb a=>f b<|by unfold frs;rw[AO,c];exact Ņ _ a) i⟩
 exact all X.outer (λ_ a=>a) I.ok.Lp
theorem Inv.stack(I:Inv X b9 σ H s):s.heap.FunFrames X.base X.stack:=by
 rcases I.ok.stk with e | ⟨e,b⟩
 .rw[e];exact I.Lp
 .rw[e];obtain⟨m,a,_⟩:=I.loc;refine .cons (by rw[I.ok.kind];decide) b a ?_ I.Lp;exact ğ<|bo I.ok.bsz I.ok.above
theorem Inv.Uz(I:Inv X b9 σ H s):∀b∈frs X.stack,b∈X.env.locals::X.fs:=λb a=>by
 rcases I.ok.stk with e | ⟨e,c⟩
 .rw[e] at a;exact aT _ a
 .rw[e] at a;unfold frs at a;rw[mn,c] at a;exact a
theorem Inv.Ko(I:Inv X b9 σ H s):∀b∈frs X.stack,H b=none:=λb a=>by
 rcases bq.mp (I.Uz b a) with e | a
 .rw[e];exact I.free
 .obtain⟨_,o,c,_⟩:=I.ok.Lp.mem a;exact I.base.free b o c (I.ok.frf b a) λz=>I.ok.exfs b z a
theorem Inv.step{g':_E LO}{t':_d}{d':Drawn}{ch:_b _g}(I:Inv X b9 σ H s)
  (B:∀b∈ch,(b∈X.ex \/ X.s₀.heap.objs.size<=b)/\b≠X.env.locals/\(∀x c,X.env.cells.lookup x=_a c->c≠b)/\∀p∈X.pn++b9,p.1≠b)
  (keep:∀b o,b≠X.env.locals->b ∉ X.fs->b ∉ ch->s.heap.get? b=_a o->H b=_n->h'.get? b=_a o)
  (t:∀b o,b≠X.env.locals->b∈X.fs->b ∉ ch->s.heap.get? b=_a o->H b=_n->∃sl,h'.get? b=_a { o with slots:=sl })(free:∀b o,b ∉ ch->s.heap.get? b=_a o->H b=_n->H' b=_n)
  (y:∀b o,b ∉ ch->s.heap.get? b=_a o->∃o',h'.get? b=_a o')
  (C:∀b xs,H b=_a (.tup xs)->H' b=_a (.tup xs))(F:∀b o u,H b=_a (.frz o u)->H' b=_a (.frz o u))(D:∀b ps,H b=_a (.tbl ps)->∃more,H' b=_a (.tbl<|ps++more))
  (ns:∀m,s.heap.Ns X.env.locals m->h'.Ns X.env.locals m) (J:Fe X.prog X.w H' h') (P:ķ g') :
  Inv X b9 σ H' { s with heap:=h',gens:=g',drawn:=d',toks:=t' }:=by
 have E:∀b o,X.s₀.heap.get? b=_a o->b≠X.env.locals:=λb o e=>cf<|ba (_q e) I.ok.above
 have h:∀b o,X.s₀.heap.get? b=_a o->b ∉ X.ex->b ∉ ch:=λb o e a w=>by
  rcases (B b w).1 with z | z
  .exact a z
  .exact _D (ba (_q e) z)<|fI _
 have f:∀x c,X.env.cells.lookup x=_a c->∀v,s.heap.IsCell c v->h'.IsCell c v:=λx c e v ⟨o,A,K⟩=>by
  have g:c ∉ ch:=λz=>(B c z).2.2.1 x c e U;by_cases M:c∈X.fs
  .obtain⟨sl,q⟩:=t c o (I.iB x c e) M g A<|I.freeC x c e;exact⟨_,q,K⟩
  .exact⟨o,keep c o (I.iB x c e) M g A<|I.freeC x c e,K⟩
 refine⟨I.ok,I.os,P,⟨λb o e n w a=>?_,λb o e n w a=>?_,λb o e n a=>?_,λb o e a=>?_,λb xs e=>C b xs<|I.base.tups b xs e,λb o xs e=>F b o xs<|I.base.frzs b o xs e,λb ps e=>?_⟩,?_,λx c e=>?_,?_,λx c e=>?_,λp O=>?_,J,I.len⟩
 .exact keep b o (E b o e) w (h b o e a) (I.base.keep b o e n w a)<|I.base.free b o e n a
 .obtain⟨sl,j⟩:=I.base.slot b o e n w a;obtain⟨T,G⟩:=t b _ (E b o e) w (h b o e a) j<|I.base.free b o e n a;exact⟨T,G⟩
 .obtain⟨o',j⟩:=I.base.there b o e a;exact free b o' (h b o e a) j<|I.base.free b o e n a
 .obtain⟨o',j⟩:=I.base.there b o e a;exact y b o' (h b o e a) j
 .obtain⟨R,j⟩:=I.base.tbls b ps e;obtain⟨S,G⟩:=D b _ j;exact⟨R++S,by rw[G,Ő]⟩
 .obtain⟨m,Q,V⟩:=I.loc;refine⟨m,ns m Q,λi x v j G W=>?_⟩;obtain⟨u,r,l⟩:=V i x v j G W;refine⟨u,r,?_⟩;rcases l with l | ⟨k,c,e,z⟩
  .exact .inl l
  .exact .inr ⟨k,c,e,f x c e _ z⟩
 .obtain⟨v,z⟩:=I.cell x c e;exact⟨v,f x c e v z⟩
 .obtain⟨m,⟨o,_,_,A,_⟩,_⟩:=I.loc;exact free _ o (λz=>(B _ z).2.1 rfl) A I.free
 .obtain⟨v,o,A,K⟩:=I.cell x c e;exact free c o (λz=>(B c z).2.2.1 x c e U) A<|I.freeC x c e
 .obtain⟨e,n,L,N,d⟩:=I.pin p O;have g:p.1 ∉ ch:=λz=>(B p.1 z).2.2.2 p O U;exact⟨keep p.1 p.2 L N g e n,free p.1 p.2 g e n,L,N,d⟩
theorem Inv.un{t':_d}(I:Inv X b9 σ H s)(u:Un X.fs [] H H' s.heap h')(a:Fe X.prog X.w H' h'):Inv X b9 σ H' { s with heap:=h',toks:=t' }:=by
 obtain⟨m,⟨o,p,l,g,r⟩,_⟩:=id I.loc;obtain⟨q,i⟩:=u.any g I.free<|by simp
 exact I.step (g':=s.gens) (d':=s.drawn) (ch:=[]) (λ_ z=>nomatch z) (λb o _ c _ e n=>u.keep b o e n c<|by simp) (λb o _ c _ e n=>u.slot b o e n c<|by simp) (λb o _ e n=>u.free b o e n<|by simp) (λb o _ e=>u.there b o e<|by simp) u.tups u.frzs u.tbls (λt h=>by
  obtain⟨v,d,j,f,k⟩:=h;rw[g] at f;cases f;exact⟨_,d,j,i,k⟩) a I.bare
theorem Inv.call{g':_E LO}{t':_d}{d':Drawn}{ch:_b _g}(I:Inv X b9 σ H s)(u:Un (frs X.stack) ch H H' s.heap h')(d:Fe X.prog X.w H' h')(q:ķ g')
  (h:∀b∈ch,(b∈X.ex \/ X.s₀.heap.objs.size<=b)/\b≠X.env.locals/\(∀x c,X.env.cells.lookup x=_a c->c≠b)/\∀p∈X.pn++b9,p.1≠b) :
  Inv X b9 σ H' { s with heap:=h',gens:=g',drawn:=d',toks:=t' }:=by
 obtain⟨m,⟨o,y,w,j,r⟩,_⟩:=id I.loc;obtain⟨A,f⟩:=u.any j I.free λz=>(h _ z).2.1 rfl;exact I.step (ch:=ch) h (λb o f l a e n=>u.keep b o e n (λz=>(bq.mp<|I.Uz b z).elim f l) a) (λb o _ _ a e n=>u.any e n a) (λb o a e n=>u.free b o e n a) (λb o a e=>u.there b o e a) u.tups u.frzs u.tbls (λB k=>by
  obtain⟨C,g,t,i,v⟩:=k;rw[j] at i;cases i;exact⟨_,g,t,f,v⟩) d q
theorem Inv.turned{t':_d}(I:Inv X b9 σ H s)(k:∀b o,b≠it->s.heap.get? b=_a o->h'.get? b=_a o)(j:H it=_n)(f:it≠X.env.locals)
  (y:it∈X.ex \/ X.s₀.heap.objs.size<=it)(t:∀x c,X.env.cells.lookup x=_a c->c≠it)(w:∀p∈X.pn++b9,p.1≠it):Inv X b9 σ H { s with heap:=h',toks:=t' }:=by
 have d:∀b u,H b=_a u->b≠it:=λb u e z=>by rw[z,j] at e;cases e
 refine I.step (g':=s.gens) (d':=s.drawn) (ch:=[it]) (λb i=>?_) (λb o _ _ a e _=>k b o (λz=>a<|by simp[z]) e) (λb o _ _ a e _=>⟨o.slots,k b o (λz=>a<|by simp[z]) e⟩) (λ_ _ _ _ n=>n)
  (λb o a e=>⟨o,k b o (λz=>a<|by simp[z]) e⟩) (λ_ _ e=>e) (λ_ _ _ e=>e) (λb ps e=>⟨#[],by rw[e];simp⟩) (λm g=>?_) (λb u e=>?_) I.bare
 .have e:b=it:=by simpa using i
  subst e;exact⟨y,f,t,w⟩
 .obtain⟨o,l,h,A,r⟩:=g;exact⟨o,l,h,k _ o (_T f) A,r⟩
 .refine (I.hok b u e).stay (λc v a q=>k c v ?_ q) (λ_ q=>q) λ_ _ q=>q;rcases a with z | z
  .rw[z];exact d b u e
  .exact d c _ z
theorem Inv.tok(I:Inv X b9 σ H s)(t:_d):Inv X b9 σ H { s with toks:=t }:=I.un (h':=s.heap) (t':=t) Un.refl I.hok
theorem Inv.kept{t':_d}(I:Inv X b9 σ H s)(k:∀b u,s.heap.get? b=_a u->h'.get? b=_a u):Inv X b9 σ H { s with heap:=h',toks:=t' }:=I.un (Un.kept k)<|I.hok.kept k
theorem Inv.laid{t':_d}(I:Inv X b9 σ H s)(k:∀b u,s.heap.get? b=_a u->h'.get? b=_a u)(d:s.heap.objs.size<=a)(c:Cd X.prog X.w (upd H a o) h' a o) :
  Inv X b9 σ (upd H a o) { s with heap:=h',toks:=t' }:=I.un (Un.laid k d<|I.hok.fresh d)<|I.hok.laid k d c
theorem Inv.write{x e:_g}{t':_d}(I:Inv X b9 σ H s)(c:xr<|H x)(d:e=x \/ H e=_a (.own x))(k:∀b u,b≠e->s.heap.get? b=_a u->h'.get? b=_a u)(f:∃u,h'.get? e=_a u)
  (a:Cd X.prog X.w (upd H x o) h' x o):Inv X b9 σ (upd H x o) { s with heap:=h',toks:=t' }:=I.un (Un.write c d k f)<|I.hok.write c d k f a
theorem Inv.Wv{a:_b (_g×ü)}(I:Inv X b9 σ H s)(h:∀p∈a,s.heap.get? p.1=_a p.2/\H p.1=_n/\p.1≠X.env.locals/\p.1 ∉ X.fs/\∀v,p.2.data≠.cell v):Inv X a σ H s :=
 ⟨I.ok,I.os,I.bare,I.base,I.loc,I.cell,I.free,I.freeC,λp b=>(aE.mp b).elim (λz=>I.pin p<|cm _ z)<|h p,I.hok,I.len⟩
theorem Nh{N:_b _A}(c:N.Nodup)(a:N[i]? = _a x)(b:N[j]? = _a x):i=j:=by
 obtain⟨f,d⟩:=ag.mp a;obtain⟨g,e⟩:=ag.mp b;exact (IA c).mp<|d.trans e.symm
theorem Lg{M:xB}{E:vSP}{v:V}{Q:LU->_C->Prop}(I:Inv X b9 σ H s)(hN:X.N.Nodup)(hi:X.N[i]? = _a x)(w:Loc X.env.scope x)(r:RelV v u)
  (h:∀s',Inv X b9 (σ.set i<|some v) H s'->(∃a,Á a s.heap s'.heap/\(a=X.env.locals \/ X.env.cells.lookup x=_a a))->Q () s')(hf:X.fn x=_h \/ X.env.scope.names.lookup x=_a .local:=by first | exact .inl rfl | exact .inr rfl | assumption):wpAny M A (storeName X.env x u) Q E s:=by
 obtain⟨m,W,hl⟩:=id I.loc;have O:(X.env.scope.kind == .class || (X.env.scope.kind == .module && X.env.locals != X.env.globals))=false:=by rw[I.ok.kind];rfl
 have K:i<σ.length:=by rw[I.len];exact (ag.mp hi).1
 have iB:=I.iB;have l:∀{a:_g}{J:Θ},(∃o,s.heap.get? a=_a o/\H a=_n)->Á a s.heap J->Fe X.prog X.w H J:=λ{a J} ha f b ob e=>by
  obtain⟨_,_,B⟩:=ha;refine (I.hok b ob e).stay (λc P t q=>(f.2 c ?_).trans q) (λ_ q=>q) λ_ _ q=>q;rintro rfl;rcases t with rfl | t
  .rw[B] at e;cases e
  .rw[B] at t;cases t
 rcases w with D | D
 .refine wpAny_storeName_local D W (λJ T f=>?_) O;obtain⟨oL,_,_,VU,_⟩:=id W;refine h _ ⟨I.ok,I.os,I.bare,⟨λb o e n F w=>?_,λb o e n F w=>?_,I.base.free,λb o e w=>?_,I.base.tups,I.base.frzs,I.base.tbls⟩,⟨_,T,λj y v' g C e3=>?_⟩,λy c e=>?_,I.free,I.freeC,λp hp=>?_,l ⟨oL,VU,I.free⟩ f,by simpa using I.len⟩ ⟨_,f,.inl U⟩
  .exact (f.2 b<|cf<|ba (_q e) I.ok.above).trans<|I.base.keep b o e n F w
  .obtain⟨Z,g⟩:=I.base.slot b o e n F w;exact⟨Z,(f.2 b<|cf<|ba (_q e) I.ok.above).trans g⟩
  .obtain⟨o',g⟩:=I.base.there b o e w;exact⟨o',(f.2 b<|cf<|ba (_q e) I.ok.above).trans g⟩
  .by_cases G:j=i
   .subst G;rw[hi] at g;cases g;rw[kz K] at C
    cases C;exact⟨u,r,.inl ⟨D,by simp⟩⟩
   .rw[ma (_T G)] at C;obtain⟨Y,r',q⟩:=hl j y v' g C e3;refine⟨Y,r',?_⟩;rcases q with⟨k,e⟩ | ⟨k,c,e,z⟩
    .refine .inl ⟨k,?_⟩;have:y≠x:=λe=>G<|Nh hN g<|e ▸ hi
     simp[this,e]
    .exact .inr ⟨k,c,e,z.sameBut f<|iB y c e⟩
  .obtain⟨P,z⟩:=I.cell y c e;exact⟨P,z.sameBut f<|iB y c e⟩
  .obtain⟨e,n,S,nf,d⟩:=I.pin p hp;exact⟨(f.2 p.1 S).trans e,n,S,nf,d⟩
 .have Pe:X.fn x=true:=by
   rcases hf with z | z
   .exact z
   .rw[z] at D;cases D
  obtain⟨c,t⟩:=I.ok.has x<|.inl D;obtain⟨P,z⟩:=I.cell x c t;refine wpAny_storeName_cell I.ok.kind D t z<|λJ L f=>?_
  obtain⟨oc,UR,Pc⟩:=id z;refine h { s with heap:=J } ⟨I.ok,I.os,I.bare,⟨λb o e n F w=>?_,λb o e n F w=>?_,I.base.free,λb o e w=>?_,I.base.tups,I.base.frzs,I.base.tbls⟩,⟨m,W.sameBut f<|_T<|iB x c t,λj y v' g C e3=>?_⟩,λy R e=>?_,I.free,I.freeC,λp hp=>?_,l ⟨oc,UR,I.freeC x c t⟩ f,by simpa using I.len⟩ ⟨c,f,.inr t⟩
  .exact (f.2 b<|cf<|ba (_q e)<|I.ok.cab x c Pe t).trans<|I.base.keep b o e n F w
  .obtain⟨Z,g⟩:=I.base.slot b o e n F w;exact⟨Z,(f.2 b<|cf<|ba (_q e)<|I.ok.cab x c Pe t).trans g⟩
  .obtain⟨o',g⟩:=I.base.there b o e w;exact⟨o',(f.2 b<|cf<|ba (_q e)<|I.ok.cab x c Pe t).trans g⟩
  .by_cases G:j=i
   .subst G;rw[hi] at g;cases g;rw[kz K] at C
    cases C;exact⟨u,r,.inr ⟨.inl D,c,t,L⟩⟩
   .rw[ma (_T G)] at C;obtain⟨Y,r',q⟩:=hl j y v' g C e3;refine⟨Y,r',?_⟩;rcases q with q | ⟨k,R,e,z'⟩
    .exact .inl q
    .refine .inr ⟨k,R,e,z'.sameBut f ?_⟩;rintro rfl;exact G<|Nh hN g<|I.ok.inj _ _ _ e t ▸ hi
  .by_cases N:R=c
   .subst N;exact⟨_,L⟩
   .obtain⟨w2,z2⟩:=I.cell y R e;exact⟨w2,z2.sameBut f N⟩
  .obtain⟨e,n,S,nf,d⟩:=I.pin p hp;refine⟨(f.2 p.1 ?_).trans e,n,S,nf,d⟩;intro q;rw[q,UR] at e;have q':oc=p.2:=_m e;exact d P<|by rw[<-q'];exact Pc
theorem NP{M:xB}{E:vSP}{v:V}{Q:LU->_C->Prop}(I:Inv X b9 σ H s)(a:X.N.Nodup)(hi:X.N[i]? = _a x)(c:Loc X.env.scope x)(r:RelV v u)
  (h:∀s',Inv X b9 (σ.set i<|some v) H s'->Q () s')(d:X.fn x=_h \/ X.env.scope.names.lookup x=_a .local:=by first | exact .inl rfl | exact .inr rfl | assumption):wpAny M A (storeName X.env x u) Q E s :=
 Lg I a hi c r (λs' b _=>h s' b) d
theorem Inv.call'{s':_C}{ch:_b _g}(I:Inv X b9 σ H s)(d:s'.os=s.os)(u:Un (frs X.stack) ch H H' s.heap s'.heap)(a:Fe X.prog X.w H' s'.heap)(f:ķ s'.gens)
  (h:∀b∈ch,(b∈X.ex \/ X.s₀.heap.objs.size<=b)/\b≠X.env.locals/\(∀x c,X.env.cells.lookup x=_a c->c≠b)/\∀p∈X.pn++b9,p.1≠b):Inv X b9 σ H' s':=by
 obtain⟨i,g',d',t',g⟩:=s';have e:g=s.os:=d;subst e;exact I.call (g':=g') (t':=t') (d':=d') u a f h
end
abbrev XK:=_j->_t _g->Hp->Prop
abbrev St:=_b<|_t V
abbrev VK:=V->Hp->Prop
variable{X:Cx}{σ:St}
abbrev TE:=St->Hp->VK->Prop
abbrev TT:=St->Hp->(_V->Hp->Prop)->Prop
abbrev TA:=St->Hp->(_b V->Hp->Prop)->Prop
structure Ends where
 nx:St->Hp->Prop
 rt:VK
 bk:St->Hp->Prop:=λ_ _=>Χ
 ct:St->Hp->Prop:=λ_ _=>Χ
abbrev TS:=Ends->St->Hp->Prop
inductive EP(X:Cx)(b9:_b<|_g×ü)(σ:St)(Q:VK)(u:_j)(s':_C):Prop
|mk(v H':_)(_:Inv X b9 σ H' s')(_:RelV v u)(_:Q v H')
inductive TP(X:Cx)(b9:_b<|_g×ü)(σ:St)(Q:_V->Hp->Prop)(b:_V)(s':_C):Prop
|mk(H':_)(_:Inv X b9 σ H' s')(_:Q b H')
inductive AP(X:Cx)(b9:_b<|_g×ü)(σ:St)(Q:_b V->Hp->Prop)(us:_b _j)(s':_C):Prop
|mk(vs H':_)(_:Inv X b9 σ H' s')(_:Vals vs us)(_:Q vs H')
def SP(X:Cx)(b9:_b<|_g×ü)(D:Ends)(f:Flow)(s':_C):Prop :=
 match f with
 |.next=>∃σ' H',Inv X b9 σ' H' s'/\D.nx σ' H'
 |.brk=>∃σ' H',Inv X b9 σ' H' s'/\D.bk σ' H'
 |.cont=>∃σ' H',Inv X b9 σ' H' s'/\D.ct σ' H'
 |.ret u=>∃v σ' H',Inv X b9 σ' H' s'/\RelV v u/\D.rt v H'
def PE(X:Cx)(e:Expr)(t:TE):Prop :=
 ∀(b9:_b<|_g × ü)(s:_C)(σ:St)(H:Hp)(Q:VK),Inv X b9 σ H s->t σ H Q->wpAny (_z X.prog X.w) X.A (eval e X.env) (EP X b9 σ Q) X.xe s
def PT(X:Cx)(e:Expr)(t:TT):Prop :=
 ∀(b9:_b<|_g × ü)(s:_C)(σ:St)(H:Hp)(Q:_V->Hp->Prop),Inv X b9 σ H s->t σ H Q->wpAny (_z X.prog X.w) X.A (isTrue e X.env<|eval e X.env) (TP X b9 σ Q) X.xe s
def PW(X:Cx)(e:Expr)(t:TT):Prop :=
 ∀(sj:ww _j)(b9:_b<|_g × ü)(s:_C)(σ:St)(H:Hp)(Q:_V->Hp->Prop),Inv X b9 σ H s->t σ H Q->wpAny (_z X.prog X.w) X.A (isTrue e X.env sj) (TP X b9 σ Q) X.xe s
theorem PW.pt{e:Expr}{t:TT}(h:PW X e t):PT X e t:=h _
def PA(X:Cx)(es:_b Expr)(t:TA):Prop :=
 ∀(pos:ĵ)(b9:_b<|_g × ü)(s:_C)(σ:St)(H:Hp)(Q:_b V->Hp->Prop),Inv X b9 σ H s->t σ H Q->wpAny (_z X.prog X.w) X.A (spliced<|backTo pos<|starEach es X.env) (AP X b9 σ Q) X.xe s
def PS(X:Cx)(st:ĭ)(t:TS):Prop :=
 ∀(b9:_b<|_g × ü)(s:_C)(σ:St)(H:Hp)(D:Ends),Inv X b9 σ H s->t D σ H->wpAny (_z X.prog X.w) X.A (exec st X.env) (SP X b9 D) X.xe s
def Ra(X:Cx)(st:_b ĭ)(t:TS):Prop :=
 ∀(b9:_b<|_g × ü)(s:_C)(σ:St)(H:Hp)(D:Ends),Inv X b9 σ H s->t D σ H->wpAny (_z X.prog X.w) X.A (execs st X.env) (SP X b9 D) X.xe s
theorem CP{α:Type}{t:ww α}{Q b:α->_C->Prop}{M:xB}{E:vSP}(h:wpAny M A t Q E s)(c:∀a s,Q a s->b a s):wpAny M A t b E s:=ν h c λ_ _ x=>x
section
abbrev Jz(p:_g->Hp->Prop)(x:V)(H:Hp):Prop:=match x with | .ref a=>p a H | _=>Χ
abbrev MK(p:_i->Hp->Prop)(x:V)(H:Hp):Prop:=match x with | .int i=>p i H | _=>Χ
abbrev Qk(p:_V->Hp->Prop)(x:V)(H:Hp):Prop:=match x with | .bl c=>p c H | _=>Χ
abbrev yK(p:V->Hp->Prop)(vs:_b V)(H:Hp):Prop:=match vs with | [y]=>p y H | _=>Χ
theorem yK.e{p:V->Hp->Prop}(h:yK p vs H):∃y,vs=[y]/\p y H:=match vs,h with | [_],h=>⟨_,U,h⟩
theorem Jz.e{p:_g->Hp->Prop}{x:V}(h:Jz p x H):∃a,x=.ref a/\p a H:=by cases x <;> first | exact⟨_,rfl,h⟩ | cases h
theorem MK.e{p:_i->Hp->Prop}{x:V}(h:MK p x H):∃i,x=.int i/\p i H:=by cases x <;> first | exact⟨_,rfl,h⟩ | cases h
theorem Qk.e{p:_V->Hp->Prop}{x:V}(h:Qk p x H):∃c,x=.bl c/\p c H:=by cases x <;> first | exact⟨_,rfl,h⟩ | cases h
abbrev Pb(i:_d)(σ:St)(H:Hp)(Q:VK):Prop:=match σ[i]? with | some (_a v)=>Q v H | _=>Χ
theorem Pb.e{Q:VK}(h:Pb i σ H Q):∃v,σ[i]? = _a (_a v)/\Q v H:=by
 unfold Pb at h;split at h
 .exact⟨_,‹_›,h⟩
 .cases h
abbrev tC(v:V):TE:=λ_ H Q=>Q v H
theorem ph(g:X.N[i]? = _a x)(q:Vis X.env.scope x)(b:(x == ("__debug__" : _A))=false:=by decide)(n:(x == ("__classdict__" : _A))=false:=by decide):PE X (.Name x pos)<|Pb i:=by
 intro p s σ H Q I h;obtain⟨v,e,h⟩:=Pb.e h;obtain⟨m,k,o⟩:=I.loc;obtain⟨u,r,l⟩:=o i x v g e q;have fin:EP X p σ Q u s:=⟨v,H,I,r,h⟩;rcases l with⟨a,j⟩ | ⟨a,c,d,f⟩
 .exact xC (LY I.ok.kind a k j fin) b
 .rcases a with a | a
  .exact xC (wpAny_loadName_cell I.ok.kind a d f fin) b
  .exact xC (wpAny_loadName_free I.ok.kind a d f fin n) b
theorem Ac {i j pos}:PE X (.Constant (.int i) j pos)<|tC<|.int i:=λ_ _ _ H _ I h=>Po ⟨.int i,H,I.tok _,⟨_,U⟩,h⟩
theorem Gr {b j pos}:PE X (.Constant (.bool b) j pos)<|tC<|.bl b:=λ_ _ _ H _ I h=>Constant_bool ⟨.bl b,H,I,U,h⟩
theorem Ot {j pos}:PE X (.Constant .none j pos)<|tC .non:=λ_ _ _ H _ I h=>Constant_none ⟨.non,H,I,U,h⟩
theorem CQ {x j pos}:PE X (.Constant (.str x) j pos)<|tC<|.str x:=λ_ _ _ H _ I h=>Calls.Constant_str ⟨.str x,H,I.tok _,⟨_,U⟩,h⟩
def Gl(X:Cx)(x:_A):Prop:=X.env.kindOf x=_a .globalImplicit
theorem JK{E:vSP}(I:Inv X b9 σ H s)(b:Gl X x)(a:X.mg x=_a u)(h:Q u s)
  (c:(x == ("__debug__" : _A))=false:=by decide):wpAny (_z X.prog X.w) X.A (eval (.Name x pos) X.env) Q E s :=
 ź I.ok.kind b (Calls.loadGlobal_global (by rw[I.ok.glob];exact I.mod.glob.keeps I.bk) a h) c
theorem H_{E:vSP}(I:Inv X b9 σ H s)(c:Gl X x)(a:X.mg x=_n)(d:bootBuiltins x=_a u)(h:Q u s)
  (e:x≠"__name__":=by decide)(f:(x == ("__debug__" : _A))=false:=by decide):wpAny (_z X.prog X.w) X.A (eval (.Name x pos) X.env) Q E s:=by
 obtain⟨i,b,g⟩:=I.mod.blt;exact ź I.ok.kind c (Calls.loadGlobal_builtin (by rw[I.ok.glob];exact I.mod.glob.keeps I.bk) a (by rw[I.ok.blt];exact b.keeps I.bk) ((g x e).trans d) h) f
theorem CW{v:V}(b:Gl X x)(a:X.mg x=_a u)(r:RelV v u)(c:(x == ("__debug__" : _A))=false:=by decide):PE X (.Name x pos) (tC v) :=
 λ_ _ _ H _ I h=>JK I b a ⟨v,H,I,r,h⟩ c
theorem Ek{v:V}(b:Gl X x)(a:X.mg x=_n)(c:bootBuiltins x=_a u)(r:RelV v u)(d:x≠"__name__":=by decide)(e:(x == ("__debug__" : _A))=false:=by decide):PE X (.Name x pos) (tC v) :=
 λ_ _ _ H _ I h=>H_ I b a c ⟨v,H,I,r,h⟩ d e
variable{a b:Expr}{ta tb:TE}
def PC(X:Cx)(op:ua)(a b:Expr)(t:TE):Prop :=
 ∀(b9:_b<|_g × ü)(s:_C)(σ:St)(H:Hp)(Q:VK),Inv X b9 σ H s->t σ H Q ->
  wpAny (_z X.prog X.w) X.A (eval a X.env) (λv s₁=>wpAny (_z X.prog X.w) X.A (eval b X.env) (λu s₂=>wpAny (_z X.prog X.w) X.A (compareOp op v u) (EP X b9 σ Q) X.xe s₂) X.xe s₁) X.xe s
abbrev tB(t:TE):TT:=λσ H Q=>t σ H<|Qk Q
theorem cP{c:ua}{t:TE}(h:PC X c a b t)(d:behindInMarks c b=false:=by first | exact nobehind _ (by decide) (by decide) | rfl):PE X (.Compare a [c] [b] pos) t:=λe s σ H Q I f=>_aL (h e s σ H Q I f) d
theorem bh{e:ua}{t:TE}(h:PC X e a b t)(f:behindInMarks e b=false:=by first | exact nobehind _ (by decide) (by decide) | rfl):PT X (.Compare a [e] [b] pos)<|tB t:=by
 intro k s σ H Q I n;refine IR (CP (h k s σ H _ I n) λv o f=>CP f λu p i=>CP i λc r ⟨x,l,j,g,m⟩=>?_) f;obtain⟨d,rfl,q⟩:=Qk.e m
 cases g;exact η ⟨l,j,q⟩
theorem Dz{e:Expr}{t:TE}(h:PE X e t)(b:∀sj,isTrue e X.env sj=(do let v <-sj;standAt e.pos;holding [v] (truthy v)):=by intro _;rfl):PT X e<|tB t:=by
 intro f s σ H Q I j;refine isTrue_plain (CP (h f s σ H _ I j) λv k ⟨x,g,c,a,i⟩=>?_)<|b _
 obtain⟨d,rfl,q⟩:=Qk.e i
 cases a;exact η ⟨g,c,q⟩
variable{tA LI:TT}{rest:_b Expr}
abbrev tAnd(t u:TT):TT:=λσ H Q=>t σ H λc H1=>if c=_h then u σ H1 Q else Q _r H1
abbrev tOr(t u:TT):TT:=λσ H Q=>t σ H λc H1=>if c=_h then Q _h H1 else u σ H1 Q
abbrev zG(t:TT):TT:=λσ H Q=>t σ H λc H1=>Q (!c) H1
theorem Qf(b:PT X a tA):PW X (.BoolOp .And [a] pos) tA:=by
 intro g d s σ H Q I h;refine isTrue_and<|CP (b d s σ H Q I h) λc f e=>?_
 cases c with
 |true=>exact isTrue_and_nil e
 |false=>exact e
theorem Gh(b:PT X a tA):PW X (.BoolOp .Or [a] pos) tA:=by
 intro g d s σ H Q I h;refine isTrue_or<|CP (b d s σ H Q I h) λc f e=>?_
 cases c with
 |false=>exact isTrue_or_nil e
 |true=>exact e
theorem RZ(i:PT X a tA)(k:PW X (.BoolOp .And (b::rest) pos) LI):PW X (.BoolOp .And (a::b::rest) pos)<|tAnd tA LI:=by
 intro l e s σ H Q I h;refine isTrue_and<|CP (i e s σ H _ I h) λc j m=>?_
 obtain⟨f,d,g⟩:=m
 cases c with
 |true=>exact k l e j σ f Q d g
 |false=>exact⟨f,d,g⟩
theorem HD(i:PT X a tA)(k:PW X (.BoolOp .Or (b::rest) pos) LI):PW X (.BoolOp .Or (a::b::rest) pos)<|tOr tA LI:=by
 intro l e s σ H Q I h;refine isTrue_or<|CP (i e s σ H _ I h) λc j m=>?_
 obtain⟨f,d,g⟩:=m
 cases c with
 |true=>exact⟨f,d,g⟩
 |false=>exact k l e j σ f Q d g
theorem Dg(e:PT X a tA):PT X (.UnaryOp .Not a pos)<|zG tA:=by
 intro f s σ H Q I h;exact isTrue_not<|CP (e f s σ H (λc b=>Q (!c) b) I h) λc i ⟨b,d,g⟩=>⟨b,d,g⟩
abbrev uE(ta tb:TE):TE:=λσ H Q=>ta σ H (Qk λc H1=>if c=_h then tb σ H1 Q else Q (.bl _r) H1)
abbrev tOrV(ta tb:TE):TE:=λσ H Q=>ta σ H (Qk λc H1=>if c=_h then Q (.bl _h) H1 else tb σ H1 Q)
abbrev vR(ta:TE):TE:=λσ H Q=>ta σ H<|Qk λc=>Q<|.bl<|!c
theorem Du {op} {t:TE} (h:PE X a t):PE X (.BoolOp op [a] pos) t:=λb s σ H Q I c=>BoolOp_one<|h b s σ H Q I c
theorem Dv(m:PE X a ta)(k:PE X (.BoolOp .And (b::rest) pos) tb):PE X (.BoolOp .And (a::b::rest) pos)<|uE ta tb:=by
 intro f s σ H Q I h;refine BoolOp_and<|CP (m f s σ H _ I h) λv j l=>?_
 obtain⟨x,g,e,i,d⟩:=l;obtain⟨c,rfl,d⟩:=Qk.e d
 cases i;refine η ?_
 cases c with
 |true=>exact k f j σ g Q e d
 |false=>exact⟨.bl _r,g,e,U,d⟩
theorem tY(m:PE X a ta)(k:PE X (.BoolOp .Or (b::rest) pos) tb):PE X (.BoolOp .Or (a::b::rest) pos)<|tOrV ta tb:=by
 intro f s σ H Q I h;refine BoolOp_or<|CP (m f s σ H _ I h) λv j l=>?_
 obtain⟨x,g,e,i,d⟩:=l;obtain⟨c,rfl,d⟩:=Qk.e d
 cases i;refine η ?_
 cases c with
 |false=>exact k f j σ g Q e d
 |true=>exact⟨.bl _h,g,e,U,d⟩
theorem ZV(g:PE X a ta):PE X (.UnaryOp .Not a pos)<|vR ta:=by
 intro i s σ H Q I h;refine UnaryOp_<|CP (g i s σ H _ I h) λv k e=>?_
 obtain⟨x,j,f,d,b⟩:=e;obtain⟨c,rfl,b⟩:=Qk.e b
 cases d;exact not_of<|η ⟨.bl<|!c,j,f,U,b⟩
abbrev tIf(t:TT)(ta tb:TE):TE:=λσ H Q=>t σ H λc H1=>if c=_h then ta σ H1 Q else tb σ H1 Q
theorem cW{c:Expr}(m:PT X c tA)(k:PE X a ta)(l:PE X b tb):PE X (.IfExp c a b pos)<|tIf tA ta tb:=by
 intro e s σ H Q I h;refine wpAny_IfExp<|CP (m e s σ H _ I h) λd g n=>?_
 obtain⟨i,f,j⟩:=n
 cases d with
 |true=>exact k e g σ i Q f j
 |false=>exact l e g σ i Q f j
end
variable{te ta:TE}{tt:TT}
def Cp(K:_s)(H:Hp)(a:_g)(xs:_b V):Prop :=
 Rd H a (.lst xs) \/
  ∃(o:ü)(its:_E _j)(n:_d),K.lookup a=_a o/\o.cls=.type "list" /\ o.dict=_n/\o.data=.seq its n/\its.size<=sizeLine/\Vals xs its.toList
def Fd(K:_s)(H:Hp)(a:_g)(xs:_b V):Prop :=
 Rd H a (.tup xs) \/
  ∃(o:ü)(its:_E _j)(n:_d),K.lookup a=_a o/\o.cls=.type "tuple" /\ o.data=.seq its n/\its.size<=sizeLine/\Vals xs its.toList
noncomputable def absV:_j->_t V
 |.none=>_a .non
 |.bool b=>_a<|.bl b
 |.int i _=>_a<|.int i
 |.str x _=>_a<|.str x
 |.bytes b _=>_a<|.byt b
 |.float b _=>_a<|.flt b
 |.ref a=>_a<|.ref a
 |.type n=>_a<|.ty n
 |_=>_n
theorem RelV.abs{x:V}(r:RelV x u):absV u=_a x:=by
 cases x with
 |non=>cases r;rfl
 |bl _=>cases r;rfl
 |int _=>obtain⟨t,rfl⟩:=r;rfl
 |str _=>obtain⟨t,rfl⟩:=r;rfl
 |byt _=>obtain⟨t,rfl⟩:=r;rfl
 |flt _=>obtain⟨t,rfl⟩:=r;rfl
 |ref _=>cases r;rfl
 |ty _=>cases r;rfl
theorem RelV.inj{x:V}(r:RelV x u)(q:RelV y u):x=y:=_m<|r.abs.symm.trans q.abs
theorem Vals.inj:∀{xs ys:_b V}{us:_b _j},Vals xs us->Vals ys us->xs=ys
 |_,_,_,.nil,.nil=>rfl
 |_,_,_,.cons r t,.cons a b=>by rw[r.inj a,Vals.inj t b]
theorem Inv.list(I:Inv X b9 σ H s)(h:Cp X.K H a xs):∃its:_b _j,Vals xs its/\PlainL s.heap a its.toArray/\xs.length<=sizeLine:=by
 rcases h with h | ⟨o,its,n,c,f,b,d,g,r⟩
 .obtain⟨z,its,n,r,e⟩:=h.ok I.hok;exact⟨its,r,⟨_,n,e,U,U,U⟩,z⟩
 .refine⟨its.toList,r,⟨o,n,I.JX a o c,f,b,by simpa using d⟩,?_⟩;have e:=r.length;simp only[_I] at e;lia
theorem Inv.tuple(I:Inv X b9 σ H s)(h:Fd X.K H a xs):∃its:_b _j,Vals xs its/\IsTup s.heap a its.toArray/\xs.length<=sizeLine:=by
 rcases h with h | ⟨o,its,n,d,c,b,f,r⟩
 .obtain⟨z,its,r,p⟩:=h.ok I.hok;exact⟨its,r,p,z⟩
 .refine⟨its.toList,r,⟨o,I.JX a o d,c,n,by simpa using b⟩,?_⟩;have e:=r.length;simp only[_I] at e;lia
theorem Inv.Ri(I:Inv X b9 σ H s)(h:Cp X.K H a xs)(h':Cp X.K H a ys):xs=ys:=by
 obtain⟨c,r,⟨o,n,e,_,_,d⟩,_⟩:=I.list h;obtain⟨b,i,⟨j,k,g,_,_,f⟩,_⟩:=I.list h';rw[e] at g;cases g;rw[d] at f;injection f with d1 _
 have:c=b:=by simpa using congrArg Pv d1
 subst this;exact r.inj i
theorem Inv.K_(I:Inv X b9 σ H s)(h:Fd X.K H a xs)(h':Fd X.K H a ys):xs=ys:=by
 obtain⟨c,r,⟨o,e,_,n,d⟩,_⟩:=I.tuple h;obtain⟨b,i,⟨j,g,_,k,f⟩,_⟩:=I.tuple h';rw[e] at g;cases g;rw[d] at f;injection f with d1 _
 have:c=b:=by simpa using congrArg Pv d1
 subst this;exact r.inj i
noncomputable abbrev Cx.wish(X:Cx)(E:vSP):Cx:={ X with xe:=E }
abbrev Cx.m7(X:Cx):Cx:=X.wish λ_ _=>Χ
theorem Cx.Ok.wish(ok:X.Ok)(E:vSP):(X.wish E).Ok :=
 ⟨ok.mod,ok.kind,ok.glob,ok.blt,ok.above,ok.inj,ok.has,ok.cab,ok.hd,ok.frames,ok.stk,ok.exf,ok.bs,ok.bsz,ok.noex,ok.exfs,ok.Lp,ok.frf⟩
theorem Cx.Ok.Hq{E:vSP}(ok:(X.wish E).Ok):X.Ok :=
 ⟨ok.mod,ok.kind,ok.glob,ok.blt,ok.above,ok.inj,ok.has,ok.cab,ok.hd,ok.frames,ok.stk,ok.exf,ok.bs,ok.bsz,ok.noex,ok.exfs,ok.Lp,ok.frf⟩
section
variable{E:vSP}
theorem Inv.wish(I:Inv X b9 σ H s)(E:vSP):Inv (X.wish E) b9 σ H s:=⟨I.ok.wish E,I.os,I.bare,I.base,I.loc,I.cell,I.free,I.freeC,I.pin,I.hok,I.len⟩
theorem Inv.Hq(I:Inv (X.wish E) b9 σ H s):Inv X b9 σ H s:=⟨I.ok.Hq,I.os,I.bare,I.base,I.loc,I.cell,I.free,I.freeC,I.pin,I.hok,I.len⟩
theorem SP.Hq{D:Ends}{f:Flow}{s':_C}(h:SP (X.wish E) b9 D f s'):SP X b9 D f s':=by
 cases f with
 |next=>obtain⟨b,a,I,q⟩:=h;exact⟨b,a,I.Hq,q⟩
 |brk=>obtain⟨b,a,I,q⟩:=h;exact⟨b,a,I.Hq,q⟩
 |cont=>obtain⟨b,a,I,q⟩:=h;exact⟨b,a,I.Hq,q⟩
 |ret u=>obtain⟨v,b,a,I,r,q⟩:=h;exact⟨v,b,a,I.Hq,r,q⟩
theorem Ra.m7{st:_b ĭ}{t:TS}(h:Ra X.m7 st t):Ra X st t:=λa s σ H D I b =>
 ν (h a s σ H D (I.wish _) b) (λ_ _ q=>q.Hq) λ_ _ z=>Ν z
end
section
variable{rest:_b ĭ}{t u:TS}{e:Expr}
abbrev uW:TS:=λD σ H=>D.nx σ H
abbrev oH(t u:TS):TS:=λD σ H=>t { D with nx:=u D } σ H
theorem Be:Ra X [] uW:=λ_ _ σ H _ I h=>ĉ ⟨σ,H,I,h⟩
theorem Af(e:PS X st t)(i:Ra X rest u):Ra X (st::rest)<|oH t u:=by
 intro a s σ H D I h;refine r4<|CP (e a s σ H { D with nx:=u D } I h) λf d q=>?_
 cases f with
 |next =>
  obtain⟨g,b,c,q⟩:=q;exact i a d g b D c q
 |ret v=>exact q
 |brk=>exact q
 |cont=>exact q
theorem Ag(a:PS X st t):Ra X [st] t:=by
 intro b s σ H D I h;refine r4<|CP (a b s σ H D I h) λf c q=>?_
 cases f with
 |next=>exact ĉ q
 |ret v=>exact q
 |brk=>exact q
 |cont=>exact q
abbrev nO:TS:=λD σ H=>D.bk σ H
theorem bT:PS X (.Break pos) nO:=λ_ _ σ H _ I h=>wpAny_Break ⟨σ,H,I,h⟩
theorem Inv.quiet(I:Inv X b9 σ H s):interactive X.env=false:=by simp[interactive,I.ok.kind]
abbrev vJ(te:TE):TS:=λD σ H=>te σ H λ_ H1=>D.nx σ H1
theorem C_(b:PE X e te)(g:swapsWith e _n pos.line X.env=pure false:=by rfl):PS X (.Expr e pos)<|vJ te:=by
 intro c s σ H D I h;exact wpAny_Expr_any (CP (b c s σ H _ I h) λv j ⟨x,d,a,i,f⟩=>⟨σ,d,a,f⟩) I.quiet g
abbrev yz(te:TE):TS:=λD σ H=>te σ H D.rt
theorem Ax(c:PE X e te):PS X (.Return (_a e) pos)<|yz te:=by
 intro d s σ H D I h;exact wpAny_Return_some<|CP (c d s σ H _ I h) λv i ⟨x,f,a,b,g⟩=>⟨x,σ,f,a,b,g⟩
abbrev qH(c:TT)(t u:TS):TS:=λD σ H=>c σ H λb H1=>if b=_h then t D σ H1 else u D σ H1
theorem Cg{c:Expr}{a b:_b ĭ}{g:TT}(m:PT X c g)(o:Ra X a t)(l:Ra X b u):PS X (.If c a b pos)<|qH g t u:=by
 intro e s σ H D I h;refine wpAny_If<|CP (m e s σ H _ I h) λd f n=>?_
 obtain⟨j,i,k⟩:=n
 cases d with
 |true=>exact o e f σ j D i k
 |false=>exact l e f σ j D i k
abbrev ou:TS:=λ_ _ _=>Χ
theorem FQ:PS X st ou:=λ_ _ _ _ _ _ h=>h.elim
end
abbrev TG:=V->St->Hp->(St->Hp->Prop)->Prop
abbrev jB:=_b V->St->Hp->(St->Hp->Prop)->Prop
def PG(X:Cx)(CU:Expr)(t:TG):Prop :=
 ∀(b9:_b<|_g × ü)(s:_C)(σ:St)(H:Hp)(v:V)(u:_j)(Q:St->Hp->Prop),Inv X b9 σ H s->RelV v u->t v σ H Q ->
  wpAny (_z X.prog X.w) X.A (assign CU X.env u) (λ_ s'=>∃σ' H',Inv X b9 σ' H' s'/\Q σ' H') X.xe s
def wX(X:Cx)(ts:_b Expr)(t:jB):Prop :=
 ∀(b9:_b<|_g × ü)(s:_C)(σ:St)(H:Hp)(vs:_b V)(us:_b _j)(Q:St->Hp->Prop),Inv X b9 σ H s->Vals vs us->t vs σ H Q ->
  wpAny (_z X.prog X.w) X.A (assignInOrder ((assignEach ts X.env).map (·.2)) us) (λ_ s'=>∃σ' H',Inv X b9 σ' H' s'/\Q σ' H') X.xe s
abbrev Ci(i:_d):TG:=λv σ H Q=>Q (σ.set i<|some v) H
theorem Bg(a:X.N.Nodup)(hi:X.N[i]? = _a x)(b:Loc X.env.scope x)(c:X.fn x=_h \/ X.env.scope.names.lookup x=_a .local:=by first | exact .inl rfl | exact .inr rfl | assumption):PG X (.Name x pos)<|Ci i:=by
 intro f s σ H v u Q I r h;exact VO<|NP I a hi b r (λe d=>⟨_,H,d,h⟩) c
abbrev Q6:jB:=λvs σ H Q=>vs=[]/\Q σ H
abbrev Eh(t:TG)(u:jB)(vs:_b V)(σ:St)(H:Hp)(Q:St->Hp->Prop):Prop:=match vs with | v::r=>t v σ H λσ' H'=>u r σ' H' Q | _=>Χ
theorem FP:wX X [] Q6:=by
 intro b s σ H c a Q I r h;obtain⟨e,h⟩:=h;subst e
 cases r;exact assignInOrder_nil ⟨σ,H,I,h⟩
theorem Bq{e:Expr}{t:TG}{u:jB}(j:PG X e t)(g:wX X es u)
  (m:(assignEach (e::es) X.env).map (·.2)=assign e X.env::(assignEach es X.env).map (·.2):=by rfl):wX X (e::es)<|Eh t u:=by
 intro a s σ H o n Q I r h
 cases r with
 |nil=>cases h
 |cons r f =>
  rw[m];refine assignInOrder_cons<|CP (j a s σ H _ _ _ I r h) λ_ b c=>?_
  obtain⟨l,k,i,d⟩:=c;exact g a b l k _ _ Q i f d
inductive lY(K:_s)(n:_d)(t:jB)(a:_g)(σ:St)(H:Hp)(Q:St->Hp->Prop):Prop
|mk(xs:_)(_:Fd K H a xs)(_:xs.length=n)(_:t xs σ H Q)
abbrev Qo(K:_s)(n:_d)(t:jB):TG:=λv σ H Q=>Jz (λa H=>lY K n t a σ H Q) v H
theorem HS{k:_d}{t:jB}(l:X.calm=_h)(h:wX X es t)
  (j:(assignEach es X.env).length=n:=by rfl)(c:(assignEach es X.env).findIdx? (·.1)=none:=by rfl):PG X (.Tuple es k pos)<|Qo X.K n t:=by
 intro g s σ H v u Q I r d;obtain⟨a,rfl,z,i,p,d⟩:=Jz.e d
 cases r;obtain⟨q,f,x,A⟩:=I.tuple i;refine assign_Tuple_tuple (I.ok.hd l) x (by simp[j,<-p,f.length]) c λy m=>?_;have w:Inv X g σ H { s with heap:=y }:=I.kept (t':=s.toks) λb o e=>m b o (cf<|_q e) e;exact h g _ σ H z _ Q w (by simpa using f) d
abbrev Xr(te:TE)(g:TG):TS:=λD σ H=>te σ H λx H1=>g x σ H1 D.nx
theorem bF{e:Expr}{g:TG}(c:PE X e te)(i:PG X tg g)(d:swapsWithSole [tg] e pos.line X.env=pure false:=by rfl)(n:swappedStores [tg] e X.env=pure none:=by rfl)
  (k:(assignEach [tg] X.env).map (·.2)=[assign tg X.env]:=by rfl):PS X (.Assign [tg] e pos)<|Xr te g:=by
 intro a s σ H D I h;refine wpAny_Assign_stores (CP (c a s σ H _ I h) λv f ⟨x,l,j,b,m⟩=>?_) d n;rw[k];exact CP (i a f σ l x v _ j b m) λ_ o q=>q
theorem BP{e:Expr}{a:ĵ}(b:X.N.Nodup)(hi:X.N[i]? = _a x)(g:Loc X.env.scope x)(d:PE X e te)(o:swapsWith e (_a<|.Name x a) pos.line X.env=pure false:=by rfl)(j:X.fn x=_h \/ X.env.scope.names.lookup x=_a .local:=by first | exact .inl rfl | exact .inr rfl | assumption) :
  PS X (.Assign [.Name x a] e pos) (Xr te<|Ci i):=by
 intro l s σ H D I h;refine VS (CP (d l s σ H _ I h) λv p ⟨y,m,k,c,n⟩=>?_) o;exact NP k b hi g c (λq f=>⟨_,m,f,n⟩) j
abbrev RW(c:TT)(tb:TS):TS:=λD σ H=>∃W:_d->St->Hp->Prop,(∃m,W m σ H)/\∀m σ H,W m σ H ->
 c σ H λb H1=>if b=_h then ∃N:St->Hp->Prop,(∀σ' H',N σ' H'->∃m',m'<m/\W m' σ' H')/\tb { D with nx:=N,ct:=N,bk:=D.nx } σ H1 else D.nx σ H1
theorem dC{c:Expr}{a:_b ĭ}{t:TT}{tb:TS}(z:PassesOwn (_z X.prog X.w) X.A X.env X.xe)(K:PT X c t)(C:Ra X a tb):PS X (.While c a [] pos)<|RW t tb:=by
 intro o s σ H D I h;obtain⟨W,⟨J,w0⟩,G⟩:=h;refine wpAny_While<|codeAny_whileLoop (λn F=>∃w u,Inv X o w u F/\W n w u) ?_ J ⟨σ,H,I,w0⟩
 rintro n B ⟨j,A,M,O⟩;refine î z<|CP (K o B j A _ M<|G n j A O) λb L E=>?_
 obtain⟨y,r,g⟩:=E
 cases b with
 |true =>
  obtain⟨N,x,g⟩:=g;rw[_o U];refine î z<|CP (C o L j y _ r g) λf P i=>?_
  cases f with
  |next =>
   obtain⟨d,e,p,l⟩:=i;obtain⟨m,k,q⟩:=x d e l;exact⟨m,k,d,e,p,q⟩
  |cont =>
   obtain⟨d,e,p,l⟩:=i;obtain⟨m,k,q⟩:=x d e l;exact⟨m,k,d,e,p,q⟩
  |brk=>exact i
  |ret v=>exact i
 |false =>
  rw[_l et];exact ĉ ⟨j,y,r,g⟩
structure It where
 go:_d->Hp->Prop
 yld:_d->Hp->V->Hp->Prop
 stop:_d->Hp->Prop
def K4(X:Cx)(b9:_b<|_g×ü)(H:Hp)(b:_g):Prop :=
 H b=_n/\b≠X.env.locals/\b ∉ X.fs/\(b∈X.ex \/ X.s₀.heap.objs.size<=b)/\(∀x c,X.env.cells.lookup x=_a c->c≠b)/\∀p∈X.pn++b9,p.1≠b
theorem Inv.Td(I:Inv X b9 σ H s)(a:s.heap.objs.size<=b)(f:H' b=_n):K4 X b9 H' b:=by
 refine⟨f,gg<|ba I.lt a,I.nofs a,.inr<|bo I.sz a,λx c e z=>?_,λp d z=>?_⟩
 .obtain⟨v,q⟩:=I.cell x c e;exact _D (ba q.lt<|by rw[z];exact a)<|fI _
 .exact _D (ba (_q (I.pin p d).1)<|by rw[z];exact a)<|fI _
structure Turn(P:Ð)(w:_O)(K:_s)(tg:Expr)(J:It)(fp:_b _g)(it:_g)(tn:_d->Θ->Prop):Prop where
 mem:it∈fp
 obj:∀i h,tn i h->∀b∈fp,∃o,h.get? b=_a o/\∀v,o.data≠.cell v
 keep:∀i h h',tn i h->(∀b∈fp,∀o,h.get? b=_a o->h'.get? b=_a o)->tn i h'
 item:∀(X:Cx),X.prog=P->X.w=w->X.K=K->X.calm=_h->∀(i:_d)(b9:_b<|_g × ü)(s:_C)(σ:St)(H:Hp)(E:vSP),Inv X b9 σ H s->(∀b∈fp,K4 X b9 H b)->tn i s.heap->J.go i H ->
  wpAny (_z P w) X.A (pyNext<|.ref it) (λr s1=>∃u,r=_a u /\
   wpAny (_z P w) X.A (letOwnedTupleGo tg (.ref it) u) (λ_ s2=>∃x H',Inv X b9 σ H' s2/\RelV x u/\J.yld i H x H'/\tn (i+1) s2.heap/\∀b∈fp,H' b=_n) E s1) E s
 done:∀(X:Cx),X.prog=P->X.w=w->X.K=K->X.calm=_h->∀(i:_d)(b9:_b<|_g × ü)(s:_C)(σ:St)(H:Hp)(E:vSP),Inv X b9 σ H s->(∀b∈fp,K4 X b9 H b)->tn i s.heap->J.stop i H ->
  wpAny (_z P w) X.A (pyNext<|.ref it) (λr s1=>r=_n/\Inv X b9 σ H s1) E s
 self:∀(A:ù)(i:_d)(s:_C)(Q:vSP)(E:vSP),tn i s.heap->Q (.ref it) s->wpAny (_z P w) A (pyIter<|.ref it) Q E s
abbrev TI:=St->Hp->(It->Hp->Prop)->Prop
inductive PIE(X:Cx)(b9:_b<|_g×ü)(σ:St)(tg:Expr)(R:It->Hp->Prop)(HV:_j)(s2:_C):Prop
|mk(it:_g)(fp:_b _g)(tn:_d->Θ->Prop)(J:It)(H':Hp)(_:HV=.ref it)(_:Inv X b9 σ H' s2)(_:Turn X.prog X.w X.K tg J fp it tn)(_:tn 0 s2.heap)(_:∀b∈fp,K4 X b9 H' b)(_:R J H')
def PI(X:Cx)(tg iter:Expr)(wi:TI):Prop :=
 ∀(b9:_b<|_g × ü)(s:_C)(σ:St)(H:Hp)(R:It->Hp->Prop),Inv X b9 σ H s->wi σ H R ->
  wpAny (_z X.prog X.w) X.A (eval iter X.env) (λv s1=>wpAny (_z X.prog X.w) X.A (pyIter v) (PIE X b9 σ tg R) X.xe s1) X.xe s
theorem Ry{M:xB}{E:vSP}{o:ü}{n:è}{vs:_E _j}{Q:LU->_C->Prop}(b:s.heap.get? it=_a o)(d:o.cls=.type n)(e:o.data=.fields vs)
  (c:["enumerate","zip","dict_itemiterator","dict_reverseitemiterator","odict_iterator","itertools.zip_longest","itertools.pairwise"].contains n=_r)(a:Q () s):wpAny M A (letOwnedTupleGo tg (.ref it) u) Q E s:=by
 unfold letOwnedTupleGo
 cases tg <;> first
  | exact _k a
  | (cases u <;> first
    | exact _k a
    | (refine _c (İ b ?_)
       rw[d,e];show wpAny M A (if (["enumerate","zip","dict_itemiterator","dict_reverseitemiterator","odict_iterator","itertools.zip_longest","itertools.pairwise"].contains n && vs[0]? == _a (rawInt _))=_h then _ else _) Q E s;rw[_l (by intro h;rw[c,iX] at h;cases h)];exact _k a))
def dG(K:_s)(a:_g):It :=
 ⟨λi H=>∃xs x,Cp K H a xs/\xs[i]? = _a x,λi H x H'=>H'=H/\∀xs,Cp K H a xs->xs[i]? = _a x,λi H=>∃xs,Cp K H a xs/\xs.length<=i⟩
def Itt(K:_s)(a:_g):It :=
 ⟨λi H=>∃xs x,Fd K H a xs/\xs[i]? = _a x,λi H x H'=>H'=H/\∀xs,Fd K H a xs->xs[i]? = _a x,λi H=>∃xs,Fd K H a xs/\xs.length<=i⟩
def jn(lo:_i)(n:_d):It:=⟨λi _=>i<n,λi H x H'=>H'=H/\x=.int (lo+i),λi _=>n<=i⟩
theorem Xc{w:_O}{K:_s}(a it:_g):Turn P w K tg (dG K a) [it] it (λi h=>h.IsListIter it a i) where
 mem:=by simp
 obj:=λi h st b f=>by
  have e:b=it:=by simpa using f
  subst e;obtain⟨o,e,c,d⟩:=st;exact⟨o,e,λv z=>by rw[d] at z;cases z⟩
 keep:=λi h g st k=>st.at λo e=>k it (by simp) o e
 item:=by
  intro X m B y M i L s σ H E I l st q;subst m B y;obtain⟨V,x,j,C⟩:=q;obtain⟨r,D,p,T⟩:=I.list j;obtain⟨u,R,Z⟩:=D.get C;obtain⟨A,n,N,G,F,t⟩:=l it<|by simp
  refine wpAny_pyNext_list_item st p.isList (x:=u) (by simpa using R) λg J Q=>?_;have Y:Inv X L σ H { s with heap:=g }:=I.turned (t':=s.toks) (λb o f e=>(Q.2 b f).trans e) A n G F t;obtain⟨o,e,c,d⟩:=id J;exact⟨u,U,Ry (s:={ s with heap:=g }) e c d (by decide) ⟨x,H,Y,Z,⟨U,λys O=>by rw[I.Ri O j];exact C⟩,J,λb f=>(l b f).1⟩⟩
 done:=by
  intro X m B y M i L s σ H E I l st q;subst m B y;obtain⟨V,j,C⟩:=q;obtain⟨r,D,p,T⟩:=I.list j;obtain⟨A,n,N,G,F,t⟩:=l it<|by simp
  have hl:=D.length;exact wpAny_pyNext_list_end (I.ok.hd M) st p.isList (by simp;lia) λg S=>⟨U,I.turned (t':=s.toks) (λb o f e=>S b o f e) A n G F t⟩
 self:=λ_ _ _ _ _ st h=>wpAny_pyIter_listiter st h
theorem Vt{w:_O}{K:_s}(a it:_g):Turn P w K tg (Itt K a) [it] it (λi h=>h.IsTupleIter it a i) where
 mem:=by simp
 obj:=λi h st b f=>by
  have e:b=it:=by simpa using f
  subst e;obtain⟨o,e,c,d⟩:=st;exact⟨o,e,λv z=>by rw[d] at z;cases z⟩
 keep:=λi h j st k=>st.at λo e=>k it (by simp) o e
 item:=by
  intro X n B y M i L s σ H E I m st r;subst n B y;obtain⟨V,x,l,C⟩:=r;obtain⟨g,D,p,T⟩:=I.tuple l;obtain⟨u,R,Z⟩:=D.get C;obtain⟨A,q,N,G,F,t⟩:=m it<|by simp
  refine wpAny_pyNext_tuple_item st (show s.heap.IsTuple a g.toArray from p) (x:=u) (by simpa using R) λj J Q=>?_;have Y:Inv X L σ H { s with heap:=j }:=I.turned (t':=s.toks) (λb o f e=>(Q.2 b f).trans e) A q G F t;obtain⟨o,e,c,d⟩:=id J;exact⟨u,U,Ry (s:={ s with heap:=j }) e c d (by decide) ⟨x,H,Y,Z,⟨U,λys O=>by rw[I.K_ O l];exact C⟩,J,λb f=>(m b f).1⟩⟩
 done:=by
  intro X n B y M i L s σ H E I m st r;subst n B y;obtain⟨V,l,C⟩:=r;obtain⟨g,D,p,T⟩:=I.tuple l;obtain⟨A,q,N,G,F,t⟩:=m it<|by simp
  have hl:=D.length;exact wpAny_pyNext_tuple_end (I.ok.hd M) st (show s.heap.IsTuple a g.toArray from p) (by simp;lia) λj S=>⟨U,I.turned (t':=s.toks) (λb o f e=>S b o f e) A q G F t⟩
 self:=λ_ _ _ _ _ st h=>wpAny_pyIter_tupleiter st h
theorem U9{w:_O}{K:_s}(it:_g)(lo:_i)(n:_d):Turn P w K tg (jn lo n) [it] it (λi h=>IsRangeIter h it (lo+(i:_d) * 1) ((n:_i) - (i:_d)) 1) where
 mem:=by simp
 obj:=λi h st b a=>by
  have e:b=it:=by simpa using a
  subst e;exact⟨_,st,λv z=>by
   have G:Ap _=Ū v:=z
   cases G⟩
 keep:=λi h c st k=>k it (by simp) _ st
 item:=by
  intro X f q m r i A s σ H E I d st j;subst f q m;obtain⟨p,g,B,x,u,l⟩:=d it<|by simp
  have W:=Walks.range (prog:=X.prog) (w:=X.w) (I.ok.hd r) it lo 1 n;refine W.item i s _ _ j st λv c tk J y D=>?_;obtain⟨t,rfl⟩:=J;have F:Inv X A σ H { s with heap:=c,toks:=tk }:=I.turned (λb o a e=>D b o (by simpa using a) e) p g x u l;refine⟨_,U,Ry (s:={ s with heap:=c,toks:=tk }) (n:="range_iterator") y U U (by decide) ⟨.int<|lo+i,H,F,⟨t,?_⟩,⟨U,U⟩,y,λb a=>(d b a).1⟩⟩;rw[Int.mul_one]
 done:=by
  intro X f q m r i A s σ H E I d st j;subst f q m;obtain⟨p,g,B,x,u,l⟩:=d it<|by simp
  exact wpAny_pyNext_range_end (I.ok.hd r) st (by have:n<=i:=j;lia) λc C=>⟨U,I.turned (t':=s.toks) (λb o a e=>C b o a e) p g x u l⟩
 self:=λ_ _ _ _ _ st h=>wpAny_pyIter_rangeiter st h
abbrev xH(K:_s)(tl:TE):TI:=λσ H R=>tl σ H<|Jz λa H1=>(∃xs,Cp K H1 a xs)/\R (dG K a) H1
abbrev iTup(K:_s)(tl:TE):TI:=λσ H R=>tl σ H<|Jz λa H1=>(∃xs,Fd K H1 a xs)/\R (Itt K a) H1
theorem BZ{l:Expr}{f:TE}(n:PE X l f):PI X tg l<|xH X.K f:=by
 intro t s σ H R I h;refine CP (n t s σ H _ I h) λv c k=>?_;obtain⟨x,u,d,g,m⟩:=k;obtain⟨a,e,⟨z,j⟩,q⟩:=Jz.e m;subst e
 cases g;obtain⟨r,y,p,w⟩:=d.list j;refine Ę p.isList ?_;refine⟨c.heap.objs.size,[c.heap.objs.size],_,_,u,U,d.kept (t':=c.toks) λb o e=>_e _ e,Xc a _,⟨_,_p _ U,U,U⟩,λb i=>?_,q⟩;have e:b=c.heap.objs.size:=by simpa using i
 subst e;exact d.Td (ai _)<|d.hok.fresh<|ai _
theorem oW{l:Expr}{g:TE}(r:PE X l g):PI X tg l<|iTup X.K g:=by
 intro t s σ H R I h;refine CP (r t s σ H _ I h) λv c m=>?_;obtain⟨x,u,d,i,n⟩:=m;obtain⟨a,e,⟨z,k⟩,q⟩:=Jz.e n;subst e
 cases i;obtain⟨f,y,p,w⟩:=d.tuple k;refine ů (show c.heap.IsTuple a f.toArray from p) ?_;refine⟨c.heap.objs.size,[c.heap.objs.size],_,_,u,U,d.kept (t':=c.toks) λb o e=>_e _ e,Vt a _,⟨_,_p _ U,U,U⟩,λb j=>?_,q⟩;have e:b=c.heap.objs.size:=by simpa using j
 subst e;exact d.Td (ai _)<|d.hok.fresh<|ai _
theorem Yt{R:It->Hp->Prop}{E:vSP}{lo hi:_i}{t u v:LB}{tk:_d}(I:Inv X b9 σ H s)(j : -(2 ^ 62)<=lo)(d:lo<2 ^ 62)(f : -(2 ^ 62)<=hi)(g:hi<2 ^ 62)
  (q:R (jn lo (hi - lo).toNat) H):wpAny (_z X.prog X.w) X.A (pyIter<|.ref s.heap.objs.size) (PIE X b9 σ tg R) E { s with heap:=s.heap.push { cls:=.type "range",data:=.fields #[.int lo t,.int hi u,.int 1 v] },toks:=tk }:=by
 refine wpAny_pyIter_range (IsRange.new ..) (small_one j d f g) ?_;have a:Inv X b9 σ H { s with heap:=s.heap.push { cls:=.type "range",data:=.fields #[.int lo t,.int hi u,.int 1 v] },toks:=tk }:=I.kept λb o e=>_e _ e;refine⟨(s.heap.push { cls:=.type "range",data:=.fields #[.int lo t,.int hi u,.int 1 v] }).objs.size,[(s.heap.push { cls:=.type "range",data:=.fields #[.int lo t,.int hi u,.int 1 v] }).objs.size],_,_,H,U,
  a.kept (t':=tk) λb o e=>_e _ e,U9 _ lo (hi - lo).toNat,?_,λb c=>?_,q⟩
 .have i:lo+((0:_d):_i) * 1=lo:=by simp
  have h:(((hi - lo).toNat:_d):_i) - ((0:_d):_i)=Builtin.Range.rangeSize lo hi 1:=by rw[rangeSize_one];split <;> lia
  show IsRangeIter _ _ (lo+((0:_d):_i) * 1) ((((hi - lo).toNat:_d):_i) - ((0:_d):_i)) 1;rw[i,h];exact _p _ U
 .have e:b=(s.heap.push { cls:=.type "range",data:=.fields #[.int lo t,.int hi u,.int 1 v] }).objs.size:=by simpa using c
  subst e;exact a.Td (ai _)<|a.hok.fresh<|ai _
inductive bw(R:It->Hp->Prop)(vs:_b V)(H1:Hp):Prop
|mk(j:_i)(_:vs=[.int j])(_:-(2 ^ 62)<=j)(_:j<2 ^ 62)(_:R (jn 0 j.toNat) H1)
abbrev wz(ta:TA):TI:=λσ H R=>ta σ H λvs H1=>bw R vs H1
theorem Dj{a:Expr}{c:TA}{p:ĵ}(i:Gl X "range")(d:X.mg "range" = _n)(m:PA X [a] c)(o:starEach [a] X.env=[(_r,eval a X.env)]:=by rfl):PI X tg (.Call (.Name "range" p) [a] [] pos)<|wz c:=by
 intro n s σ H R I h;refine Call_<|H_ I i d boot_range<|Å (CP (m pos n s σ H _ I h) λu v ⟨w,x,l,f,b⟩=>?_) o U
 obtain⟨j,e,b,g,q⟩:=b;subst e
 cases f with
 |cons r k =>
  cases k;obtain⟨t,rfl⟩:=r;exact call_range_1<|Yt l (by lia) (by lia) b g<|by simpa using q
abbrev tFor(wi:TI)(g:TG)(tb:TS):TS:=λD σ H=>wi σ H λJ H1=>∃W:_d->_d->St->Hp->Prop,(∃m,W 0 m σ H1)/\∀i m σ H,W i m σ H ->
 (J.stop i H/\D.nx σ H) \/ (J.go i H/\∃N:St->Hp->Prop,(∀σ' H',N σ' H'->∃m',m'<m/\W (i+1) m' σ' H')/\∀x H',J.yld i H x H'->g x σ H' λσ2 H2=>tb { D with nx:=N,ct:=N,bk:=D.nx } σ2 H2)
def Oh(fp:_b _g)(h:Θ):_b<|_g×Obj:=fp.filterMap λb=>(h.get? b).map λo=>(b,o)
theorem HY{o:ü}(a:b∈fp)(e:h.get? b=_a o):(b,o)∈Oh fp h:=nh.mpr ⟨b,a,by rw[e];rfl⟩
theorem Xq{p:_g×ü}(c:p∈Oh fp h):p.1∈fp/\h.get? p.1=_a p.2:=by
 obtain⟨b,d,e⟩:=nh.mp c
 cases q:h.get? b with
 |none=>rw[q] at e;cases e
 |some o =>
  rw[q] at e;have a:(b,o)=p:=_m e;subst a;exact⟨d,q⟩
theorem Inv.pinned(I:Inv X b9 σ H s)(k:∀b∈fp,K4 X b9 H b)(i:∀b∈fp,∃o,s.heap.get? b=_a o/\∀v,o.data≠.cell v):Inv X (b9++Oh fp s.heap) σ H s :=
 I.Wv λp h=>(aE.mp h).elim (λz=>I.pin p<|db _ z) λz=>by
  obtain⟨a,e⟩:=Xq z;obtain⟨j,g,f,_⟩:=k p.1 a;obtain⟨o,c,d⟩:=i p.1 a;rw[e] at c;cases c;exact⟨e,j,g,f,d⟩
theorem Inv.KQ{pl:_b (_g×ü)}(I:Inv X (b9++pl) σ H s):Inv X b9 σ H s:=I.Wv λp a=>I.pin p<|db _<|cm _ a
theorem DQ{t:_b ĭ}{wi:TI}{g:TG}{tb:TS}(E:PassesOwn (_z X.prog X.w) X.A X.env X.xe)(S:X.calm=_h)(hi:PI X tg iter wi)(hg:PG X tg g)(c:Ra X t tb)
  (hs:∀x,foldedSetIterable iter X.env x=pure x:=by intro _;rfl):PS X (.For tg iter t [] pos)<|tFor wi g tb:=by
 intro w s σ H D I h;refine wpAny_For (CP (hi w s σ H _ I h) λv s1 h1=>CP h1 λHV s2 h2=>?_) hs;obtain⟨it,C,Y,J,H2,e,I2,T,G,f2,W,⟨m0,w0⟩,va⟩:=h2;subst e;have a:∀{p:Hp},(∀b∈C,p b=_n)->∀b∈C,K4 X w p b:=λhn b c=>⟨hn b c,(f2 b c).2⟩;refine codeAny_forLoop_any (λn R=>∃i B p,Inv X w B p R/\Y i R.heap/\(∀b∈C,p b=_n)/\W i n B p) ?_ m0 ⟨0,σ,H2,I2,G,λb c=>(f2 b c).1,w0⟩;rintro n s3 ⟨i,y,F,V,z,TB,w3⟩;rcases va i n y F w3 with⟨stop,qn⟩ | ⟨go,N,hN,step⟩
 .refine î E<|CP (T.done X U U U S i w s3 y F X.xe V (a TB) z stop) λr s4 ⟨K,I4⟩=>?_
  subst K;exact ĉ ⟨y,F,I4,qn⟩
 .refine î E<|CP (T.item X U U U S i w s3 y F X.xe V (a TB) z go) λr s4 ⟨u,K,h4⟩=>?_
  subst K;refine î E<|CP h4 λ_ Z M=>?_
  obtain⟨x,Q,I5,r5,y5,O,ZH⟩:=M;have P:=I5.pinned (a ZH)<|T.obj _ _ O
  refine î E<|CP (hg _ Z y Q x u _ P r5<|step x Q y5) λ_ s6 M=>?_
  obtain⟨σ6,H6,I6,q6⟩:=M;refine î E<|CP (c _ s6 σ6 H6 _ I6 q6) λf L q=>?_
  have again:∀{k:St}{l:Hp},Inv X (w++Oh C Z.heap) k l L->N k l->∃m,m<n/\∃i B p,Inv X w B p L/\Y i L.heap/\(∀b∈C,p b=_n)/\W i m B p:=λ{k l} j A=>by
   obtain⟨m',hm,w7⟩:=hN k l A;refine⟨m',hm,i+1,k,l,j.KQ,T.keep _ _ _ O λb c o e=>(j.pin (b,o)<|db _<|db _<|HY c e).1,λb c=>?_,w7⟩;obtain⟨o,e,d⟩:=T.obj _ _ O b c;exact (j.pin (b,o)<|db _<|db _<|HY c e).2.1
  cases f with
  |next=>obtain⟨k,l,j,A⟩:=q;exact again j A
  |cont=>obtain⟨k,l,j,A⟩:=q;exact again j A
  |brk=>obtain⟨k,l,j,q⟩:=q;exact⟨k,l,j.KQ,q⟩
  |ret v=>obtain⟨x7,k,l,j,r7,q⟩:=q;exact⟨x7,k,l,j.KQ,r7,q⟩
theorem Dk{K:_s}{g:TG}{tb:TS}{D:Ends}(b:_d->St->Hp->Prop)(k:b 0 σ H)(j:∀i σ H,i<=xs.length->b i σ H->Cp K H a xs)
  (l:∀i x σ H,xs[i]? = _a x->b i σ H->g x σ H λσ2 H2=>tb { D with nx:=b<|i+1,ct:=b<|i+1,bk:=D.nx } σ2 H2) (f:∀σ H,b xs.length σ H->D.nx σ H) :
  ∃W:_d->_d->St->Hp->Prop,(∃m,W 0 m σ H)/\∀i m σ H,W i m σ H ->
   ((dG K a).stop i H/\D.nx σ H) \/ ((dG K a).go i H/\∃N:St->Hp->Prop,(∀σ' H',N σ' H'->∃m',m'<m/\W (i+1) m' σ' H')/\∀x H',(dG K a).yld i H x H'->g x σ H' λσ2 H2=>tb { D with nx:=N,ct:=N,bk:=D.nx } σ2 H2):=by
 refine⟨λi m σ H=>m=xs.length - i/\i<=xs.length/\b i σ H,⟨xs.length,by simp,Ε _,k⟩,?_⟩;rintro i m σ H ⟨rfl,h,p⟩;have q:=j i σ H h p;by_cases c:i<xs.length
 .refine .inr ⟨⟨xs,xs[i],q,by simp[c]⟩,b<|i+1,λσ' H' d=>⟨xs.length - (i+1),by lia,U,c,d⟩,λx H' y=>?_⟩;obtain⟨e,y⟩:=y;subst e;exact l i x σ _ (y xs q) p
 .have e:i=xs.length:=by lia
  subst e;exact .inl ⟨⟨xs,q,ai _⟩,f σ H p⟩
theorem JG{lo:_i}{g:TG}{tb:TS}{D:Ends}(a:_d->St->Hp->Prop)(f:a 0 σ H)
  (h:∀i σ H,i<n->a i σ H->g (.int<|lo+i) σ H λσ2 H2=>tb { D with nx:=a<|i+1,ct:=a<|i+1,bk:=D.nx } σ2 H2) (d:∀σ H,a n σ H->D.nx σ H) :
  ∃W:_d->_d->St->Hp->Prop,(∃m,W 0 m σ H)/\∀i m σ H,W i m σ H ->
   ((jn lo n).stop i H/\D.nx σ H) \/ ((jn lo n).go i H/\∃N:St->Hp->Prop,(∀σ' H',N σ' H'->∃m',m'<m/\W (i+1) m' σ' H')/\∀x H',(jn lo n).yld i H x H'->g x σ H' λσ2 H2=>tb { D with nx:=N,ct:=N,bk:=D.nx } σ2 H2):=by
 refine⟨λi m σ H=>m=n - i/\i<=n/\a i σ H,⟨n,by simp,Ε _,f⟩,?_⟩;rintro i m σ H ⟨rfl,j,p⟩;by_cases b:i<n
 .refine .inr ⟨b,a<|i+1,λσ' H' c=>⟨n - (i+1),by lia,U,b,c⟩,λx H' y=>?_⟩;obtain⟨e,y⟩:=y;subst e y;exact h i σ _ b p
 .have e:i=n:=by lia
  subst e;exact .inl ⟨ai _,d σ H p⟩
theorem Yz{c:TT}{tb:TS}{D:Ends}(a:St->Hp->Prop)(μ:St->Hp->_d)(e:a σ H)
  (f:∀σ H,a σ H->c σ H λb H1=>if b=_h then tb { D with nx:=λσ' H'=>a σ' H'/\μ σ' H'<μ σ H,ct:=λσ' H'=>a σ' H'/\μ σ' H'<μ σ H,bk:=D.nx } σ H1 else D.nx σ H1)
  (mono:∀σ H Q Q',(∀b H1,Q b H1->Q' b H1)->c σ H Q->c σ H Q'):RW c tb D σ H:=by
 refine⟨λm σ H=>m=μ σ H/\a σ H,⟨_,U,e⟩,?_⟩;rintro m σ H ⟨rfl,p⟩;refine mono σ H _ _ (λb H1 q=>?_)<|f σ H p
 cases b with
 |true=>exact⟨_,λσ' H' ⟨d,l⟩=>⟨_,l,U,d⟩,q⟩
 |false=>exact q
abbrev R2:=V->V->Hp->VK->Prop
def Ga(X:Cx)(f:_j->_j->ww _j)(r:R2):Prop :=
 ∀(b9:_b<|_g × ü)(s:_C)(σ:St)(H:Hp)(x y:V)(v u:_j)(Q:VK),Inv X b9 σ H s->RelV x v->RelV y u->r x y H Q ->
  wpAny (_z X.prog X.w) X.A (f v u) (EP X b9 σ Q) X.xe s
def yc(X:Cx)(f:_j->ww _j)(r:V->Hp->VK->Prop):Prop :=
 ∀(b9:_b<|_g × ü)(s:_C)(σ:St)(H:Hp)(x:V)(v:_j)(Q:VK),Inv X b9 σ H s->RelV x v->r x H Q ->
  wpAny (_z X.prog X.w) X.A (f v) (EP X b9 σ Q) X.xe s
def Eo(X:Cx)(f:_j)(r:_b V->Hp->VK->Prop):Prop :=
 ∀(b9:_b<|_g × ü)(s:_C)(σ:St)(H:Hp)(xs:_b V)(us:_b _j)(Q:VK),Inv X b9 σ H s->Vals xs us->r xs H Q ->
  wpAny (_z X.prog X.w) X.A (call f us) (EP X b9 σ Q) X.xe s
def TruR(X:Cx)(r:V->Hp->(_V->Hp->Prop)->Prop):Prop :=
 ∀(b9:_b<|_g × ü)(s:_C)(σ:St)(H:Hp)(x:V)(v:_j)(Q:_V->Hp->Prop),Inv X b9 σ H s->RelV x v->r x H Q ->
  wpAny (_z X.prog X.w) X.A (truthy v) (TP X b9 σ Q) X.xe s
abbrev yL(r:R2)(ta tb:TE):TE:=λσ H Q=>ta σ H λx H1=>tb σ H1 λy H2=>r x y H2 Q
abbrev tUn(r:V->Hp->VK->Prop)(ta:TE):TE:=λσ H Q=>ta σ H λx H1=>r x H1 Q
def rI(C:_i->_i->Prop)(g:_i->_i->V)(x y:V)(H:Hp)(Q:VK):Prop:=MK (λi=>MK (λj H=>C i j/\Q (g i j) H) y) x H
abbrev Ua(g:_i->_i->V)(x y:V)(H:Hp)(Q:VK):Prop:=MK (λi=>MK (λj=>Q<|g i j) y) x H
abbrev rU(g:_i->V)(x:V)(H:Hp)(Q:VK):Prop:=MK (λi=>Q<|g i) x H
section
variable{a b c:Expr}{tb tc:TE}
theorem oU(n:PE X a ta)(g:PE X b tb){R:V->V->Hp->Prop}(I:Inv X b9 σ H s)
  (h:ta σ H λx H1=>tb σ H1 λy H2=>R x y H2){f:_j->_j->ww _j}
  (l:∀v u s2 x y H2,Inv X b9 σ H2 s2->RelV x v->RelV y u->R x y H2->wpAny (_z X.prog X.w) X.A (f v u) Q X.xe s2) :
  wpAny (_z X.prog X.w) X.A (eval a X.env) (λv s₁=>wpAny (_z X.prog X.w) X.A (eval b X.env) (λu s₂=>wpAny (_z X.prog X.w) X.A (f v u) Q X.xe s₂) X.xe s₁) X.xe s:=by
 refine CP (n b9 s σ H _ I h) λv i c=>?_;obtain⟨x,H1,m,d,o⟩:=c;refine CP (g b9 i σ H1 _ m o) λu s2 c=>?_;obtain⟨y,H2,j,k,e⟩:=c;exact l v u s2 x y H2 j d k e
theorem Ar{c:Operator}{r:R2}(k:Ga X (binaryOp c) r)(i:PE X a ta)(e:PE X b tb):PE X (.BinOp a c b pos)<|yL r ta tb:=by
 intro m s σ H Q I h;exact wpAny_BinOp<|oU i e I h λv u g x y d f j l q=>k m g σ d x y v u Q f j l q
theorem K8{b:UnaryOp}{r:V->Hp->VK->Prop}(i:yc X (unaryOp b) r)(e:PE X a ta):PE X (.UnaryOp b a pos)<|tUn r ta:=by
 intro c s σ H Q I h;exact UnaryOp_<|CP (e c s σ H _ I h) λv g ⟨x,j,d,f,k⟩=>i c g σ j x v Q d f k
theorem nJ{f:_j->_j->ww _j}{C:_i->_i->Prop}{g:_i->_i->_i}
  (rule:∀(i j:_i)(t u:LB)(s:_C)(Q:vSP)(E:vSP),C i j->Q (.int (g i j) s.toks) { s with toks:=s.toks+1 }->wpAny (_z X.prog X.w) X.A (f (.int i t)<|.int j u) Q E s) :
  Ga X f (rI C λi j=>.int<|g i j):=by
 intro k s σ H x y v u Q I c e h;obtain⟨i,rfl,b⟩:=MK.e h;obtain⟨j,rfl,a,q⟩:=MK.e b;obtain⟨t,rfl⟩:=c;obtain⟨d,rfl⟩:=e;exact rule i j t d s _ _ a ⟨.int<|g i j,H,I.tok _,⟨_,U⟩,q⟩
theorem fO{f:_j->_j->ww _j}{g:_i->_i->_i}
  (rule:∀(i j:_i)(t u:LB)(s:_C)(Q:vSP)(E:vSP),Q (.int (g i j) s.toks) { s with toks:=s.toks+1 }->wpAny (_z X.prog X.w) X.A (f (.int i t)<|.int j u) Q E s) :
  Ga X f (Ua λi j=>.int<|g i j):=by
 intro e s σ H x y v u Q I b d h;obtain⟨i,rfl,a⟩:=MK.e h;obtain⟨j,rfl,q⟩:=MK.e a;obtain⟨t,rfl⟩:=b;obtain⟨c,rfl⟩:=d;exact rule i j t c s _ _ ⟨.int<|g i j,H,I.tok _,⟨_,U⟩,q⟩
theorem gZ{f:_j->_j->ww _j}{g:_i->_i->_V}
  (rule:∀(i j:_i)(t u:LB)(s:_C)(Q:vSP)(E:vSP),Q (.bool<|g i j) s->wpAny (_z X.prog X.w) X.A (f (.int i t)<|.int j u) Q E s) :
  Ga X f (Ua λi j=>.bl<|g i j):=by
 intro e s σ H x y v u Q I b d h;obtain⟨i,rfl,a⟩:=MK.e h;obtain⟨j,rfl,q⟩:=MK.e a;obtain⟨t,rfl⟩:=b;obtain⟨c,rfl⟩:=d;exact rule i j t c s _ _ ⟨.bl<|g i j,H,I,U,q⟩
def CDiv(i j:_i):Prop:=0<j/\j<1073741824
def uo(i j:_i):Prop:=0<=j/\j<=1000000/\i.natAbs<2 ^ 64
def rT(i j:_i):Prop:=(-(2 ^ 64)<i/\i<2 ^ 64) \/ (-(2 ^ 64)<j/\j<2 ^ 64)
theorem rT.ok{i j:_i}(h:rT i j):IntMulOk i j:=by
 rcases h with⟨a,b⟩ | ⟨a,b⟩
 .exact .of_left<|_aZ a b
 .exact .of_right<|_aZ a b
theorem two_pow_nn(k:_d):(0:_i)<=2 ^ k:=by
 rw[two_pow_cast];exact ny _
theorem Bt:Ga X (binaryOp .Add)<|Ua λi j=>.int<|i+j:=fO λ_ _ _ _ _ _ _ q=>add_int q
theorem El:Ga X (binaryOp .Sub)<|Ua λi j=>.int<|i - j:=fO λ_ _ _ _ _ _ _ q=>sub_int q
theorem Ff:Ga X (binaryOp .Mult)<|rI rT λi j=>.int<|i * j:=nJ λ_ _ _ _ _ _ _ a q=>mul_int q a.ok
theorem Cu:Ga X (binaryOp .FloorDiv)<|rI CDiv λi j=>.int<|i / j:=nJ λi j _ _ _ _ _ a q=>by
 have b:(0:_i)<j:=a.1;have c:j<1073741824:=a.2;exact floordiv_int (by lia) (by rw[r8 i (by lia)];exact q)<|.inl<|PyProof.noPylong_small<|by lia
theorem Bp:Ga X (binaryOp .Mod)<|rI (λ_ j=>0<j) λi j=>.int<|i % j:=nJ λi j _ _ _ _ _ a q=>by
 have b:(0:_i)<j:=a;exact mod_int' (by lia)<|by rw[Int.fmod_eq_emod_of_nonneg i (by lia)];exact q
theorem Yy:Ga X (binaryOp .Pow)<|rI uo λi j=>.int<|i ^ j.toNat:=nJ λ_ _ _ _ _ _ _ a q=>pow_int_small a.1 a.2.1 a.2.2 q
theorem cL:Ga X (binaryOp .LShift)<|rI uo λi j=>.int<|i * 2 ^ j.toNat:=nJ λ_ _ _ _ _ _ _ a q=>lshift_int_small a.1 a.2.1 a.2.2 q
theorem Vc:Ga X (binaryOp .RShift)<|rI (λ_ j=>0<=j) λi j=>.int<|i / 2 ^ j.toNat:=nJ λi j _ _ _ _ _ a q =>
 rshift_int a (by rw[r8 i (two_pow_nn _)];exact q)
theorem Np:Ga X (binaryOp .BitAnd)<|Ua λi j=>.int<|Ą i j:=fO λ_ _ _ _ _ _ _ q=>and_int q
theorem cM:Ga X (binaryOp .BitOr)<|Ua λi j=>.int<|Ī i j:=fO λ_ _ _ _ _ _ _ q=>or_int q
theorem unI{f:_j->ww _j}{g:_i->_i}
  (rule:∀(i:_i)(t:LB)(s:_C)(Q:vSP)(E:vSP),Q (.int (g i) s.toks) { s with toks:=s.toks+1 }->wpAny (_z X.prog X.w) X.A (f<|.int i t) Q E s) :
  yc X f (rU λi=>.int<|g i):=by
 intro b s σ H x v Q I a h;obtain⟨i,rfl,q⟩:=MK.e h;obtain⟨t,rfl⟩:=a;exact rule i t s _ _ ⟨.int<|g i,H,I.tok _,⟨_,U⟩,q⟩
theorem Jo:yc X (unaryOp .USub)<|rU λi=>.int<|-i:=unI λ_ _ _ _ _ q=>neg_int q
theorem aG:yc X (unaryOp .Invert)<|rU λi=>.int<|À i:=unI λ_ _ _ _ _ q=>invert_int q
end
def vg:V->V->_V
 |.non,.non=>_h | .non,.int _=>_h | .int _,.non=>_h | .non,.bl _=>_h | .bl _,.non=>_h | .non,.str _=>_h | .str _,.non=>_h
 |.int _,.int _=>_h | .bl _,.bl _=>_h | .str _,.str _=>_h | .byt _,.byt _=>_h
 |.int _,.str _=>_h | .str _,.int _=>_h | .bl _,.str _=>_h | .str _,.bl _=>_h
 |_,_=>_r
def rEq:R2:=λx y H Q=>vg x y=_h/\Q (.bl (decide (x=y))) H
def rNe:R2:=λx y H Q=>vg x y=_h/\Q (.bl (!decide (x=y))) H
theorem V0{i j:_i}:decide (V.int i=V.int j)=(i == j):=by
 rw[dA];simp
theorem Yp{i j:_V}:decide (V.bl i=V.bl j)=(i == j):=by
 rw[dA];simp
theorem JN{i j:_A}:decide (V.str i=V.str j)=(i == j):=by
 rw[dA];simp
theorem Wy{i j:_E UInt8}:decide (V.byt i=V.byt j)=(i.toList == j.toList):=by
 rw[dA]
 cases i
 cases j;simp
section
variable{a b c:Expr}{tb tc:TE}
theorem B_{Q:VK}{k a:_V}(I:Inv X b9 σ H s)(q:Q (.bl k) H)(e:k=a):EP X b9 σ Q (.bool a) s:=by
 subst e;exact⟨.bl k,H,I,U,q⟩
theorem Ez:Ga X (compareOp .Eq) rEq:=by
 intro e s σ H x y v u Q I d a h;obtain⟨c,q⟩:=h
 cases x with
 |non =>
  cases d
  cases y with
  |non=>cases a;exact PySem.EqNone.eq_none_none<|B_ I q<|by simp
  |bl j=>cases a;exact PySem.EqNone.eq_none_bool<|B_ I q<|by simp
  |int j=>obtain⟨b,rfl⟩:=a;exact PySem.EqNone.eq_none_int<|B_ I q<|by simp
  |str j=>obtain⟨b,rfl⟩:=a;exact PySem.EqNone.eq_none_str<|B_ I q<|by simp
  |_=>exact _D (show _r=_h from c) _P
 |bl i =>
  cases d
  cases y with
  |non=>cases a;exact PySem.EqNone.eq_bool_none<|B_ I q<|by simp
  |bl j=>cases a;exact eq_bool<|B_ I q Yp
  |str j=>obtain⟨b,rfl⟩:=a;exact PySem.EqMixed.eq_bool_str<|B_ I q<|by simp
  |_=>exact _D (show _r=_h from c) _P
 |int i =>
  obtain⟨t,rfl⟩:=d
  cases y with
  |non=>cases a;exact PySem.EqNone.eq_int_none<|B_ I q<|by simp
  |int j=>obtain⟨b,rfl⟩:=a;exact eq_int<|B_ I q V0
  |str j=>obtain⟨b,rfl⟩:=a;exact PySem.EqMixed.eq_int_str<|B_ I q<|by simp
  |_=>exact _D (show _r=_h from c) _P
 |str i =>
  obtain⟨t,rfl⟩:=d
  cases y with
  |non=>cases a;exact PySem.EqNone.eq_str_none<|B_ I q<|by simp
  |bl j=>cases a;exact PySem.EqMixed.eq_str_bool<|B_ I q<|by simp
  |int j=>obtain⟨b,rfl⟩:=a;exact PySem.EqMixed.eq_str_int<|B_ I q<|by simp
  |str j=>obtain⟨b,rfl⟩:=a;exact eq_str<|B_ I q JN
  |_=>exact _D (show _r=_h from c) _P
 |byt i =>
  obtain⟨t,rfl⟩:=d
  cases y with
  |byt j=>obtain⟨b,rfl⟩:=a;exact W.eq_bytes<|B_ I q Wy
  |_=>exact _D (show _r=_h from c) _P
 |_=>cases y <;> exact _D (show _r=_h from c) _P
theorem QH:Ga X (compareOp .NotEq) rNe:=by
 intro e s σ H x y v u Q I d a h;obtain⟨c,q⟩:=h
 cases x with
 |non =>
  cases d
  cases y with
  |non=>cases a;exact PySem.EqNone.ne_none_none<|B_ I q<|by simp
  |bl j=>cases a;exact PySem.EqNone.ne_none_bool<|B_ I q<|by simp
  |int j=>obtain⟨b,rfl⟩:=a;exact PySem.EqNone.ne_none_int<|B_ I q<|by simp
  |str j=>obtain⟨b,rfl⟩:=a;exact PySem.EqNone.ne_none_str<|B_ I q<|by simp
  |_=>exact _D (show _r=_h from c) _P
 |bl i =>
  cases d
  cases y with
  |non=>cases a;exact PySem.EqNone.ne_bool_none<|B_ I q<|by simp
  |bl j=>cases a;exact ne_bool<|B_ I q<|congrArg not Yp
  |str j=>obtain⟨b,rfl⟩:=a;exact PySem.EqMixed.ne_bool_str<|B_ I q<|by simp
  |_=>exact _D (show _r=_h from c) _P
 |int i =>
  obtain⟨t,rfl⟩:=d
  cases y with
  |non=>cases a;exact PySem.EqNone.ne_int_none<|B_ I q<|by simp
  |int j=>obtain⟨b,rfl⟩:=a;exact ne_int<|B_ I q<|congrArg not V0
  |str j=>obtain⟨b,rfl⟩:=a;exact PySem.EqMixed.ne_int_str<|B_ I q<|by simp
  |_=>exact _D (show _r=_h from c) _P
 |str i =>
  obtain⟨t,rfl⟩:=d
  cases y with
  |non=>cases a;exact PySem.EqNone.ne_str_none<|B_ I q<|by simp
  |bl j=>cases a;exact PySem.EqMixed.ne_str_bool<|B_ I q<|by simp
  |int j=>obtain⟨b,rfl⟩:=a;exact PySem.EqMixed.ne_str_int<|B_ I q<|by simp
  |str j=>obtain⟨b,rfl⟩:=a;exact ne_str<|B_ I q<|congrArg not JN
  |_=>exact _D (show _r=_h from c) _P
 |byt i =>
  obtain⟨t,rfl⟩:=d
  cases y with
  |byt j=>obtain⟨b,rfl⟩:=a;exact W.ne_bytes<|B_ I q<|congrArg not Wy
  |_=>exact _D (show _r=_h from c) _P
 |_=>cases y <;> exact _D (show _r=_h from c) _P
theorem G_:Ga X (compareOp .Lt)<|Ua λi j=>.bl (decide (i<j)):=gZ λ_ _ _ _ _ _ _ q=>lt_int q
theorem Er:Ga X (compareOp .LtE)<|Ua λi j=>.bl (decide (i<=j)):=gZ λ_ _ _ _ _ _ _ q=>le_int q
theorem QG:Ga X (compareOp .Gt)<|Ua λi j=>.bl (decide (j<i)):=gZ λ_ _ _ _ _ _ _ q=>gt_int q
theorem uJ:Ga X (compareOp .GtE)<|Ua λi j=>.bl (decide (j<=i)):=gZ λ_ _ _ _ _ _ _ q=>ge_int q
theorem XC:Ga X (compareOp .In) (λx y H Q=>∃i j,x=.str i/\y=.str j/\Q (.bl<|!(Builtin.Str.occurrences j i 0 j.length 1).isEmpty) H):=by
 intro d s σ H x y v u Q I a b h;obtain⟨i,j,rfl,rfl,q⟩:=h;obtain⟨t,rfl⟩:=a;obtain⟨c,rfl⟩:=b;exact in_str<|B_ I q U
theorem qe:Ga X (compareOp .Is)<|λx y H Q=>y=.non/\Q (.bl (decide (x=.non))) H:=by
 intro c s σ H x y v u Q I a b h;obtain⟨rfl,q⟩:=h
 cases b;refine is_none_gen<|B_ I q ?_
 cases x <;> first
  | (cases a;rfl)
  | (obtain⟨t,rfl⟩:=a;rfl)
theorem jE:Ga X (compareOp .IsNot)<|λx y H Q=>y=.non/\Q (.bl (!decide (x=.non))) H:=by
 intro c s σ H x y v u Q I a b h;obtain⟨rfl,q⟩:=h
 cases b;refine isnot_none_gen<|B_ I q ?_
 cases x <;> first
  | (cases a;rfl)
  | (obtain⟨t,rfl⟩:=a;rfl)
theorem Bc(b:Expr){a:ua}(h:a≠.In:=by decide)(e:a≠.NotIn:=by decide):behindInMarks a b=false:=by
 have d:(a == ua.In)=false:=by cases a <;> first | rfl | exact _D rfl h
 have c:(a == CmpOp.NotIn)=false:=by cases a <;> first | rfl | exact _D rfl e
 cases b <;> simp[behindInMarks,d,c]
theorem Eb{c:ua}{r:R2}(l:Ga X (compareOp c) r)(j:PE X a ta)(f:PE X b tb)(d:behindInMarks c b=_r):PE X (.Compare a [c] [b] pos)<|yL r ta tb:=by
 intro n s σ H Q I h;exact _aL (oU j f I h λv u i x y e g k m q=>l n i σ e x y v u Q g k m q) d
abbrev j4(t:TE):TT:=λσ H Q=>t σ H<|Qk Q
theorem Bb{e:ua}{r:R2}(D:Ga X (compareOp e) r)(C:PE X a ta)(n:PE X b tb)(g:behindInMarks e b=_r):PT X (.Compare a [e] [b] pos)<|j4<|yL r ta tb:=by
 intro f s σ H Q I h;refine IR (CP (C f s σ H _ I h) λv m ⟨x,E,B,j,F⟩=>CP (n f m σ E _ B F) λu A ⟨y,o,p,w,l⟩ =>
  CP (D f A σ o x y v u _ p j w l) λc G ⟨z,q,t,i,d⟩=>?_) g
 obtain⟨k,rfl,d⟩:=Qk.e d
 cases i;exact η ⟨q,t,d⟩
abbrev b8(r r':R2)(ta tb tc:TE):TE:=λσ H Q=>ta σ H λx H1=>tb σ H1 λy H2=>r x y H2 (Qk λk H3=>if k=_h then tc σ H3 λw' H4=>r' y w' H4 Q else Q (.bl _r) H3)
theorem G3{i g:ua}{r n:R2}(T:Ga X (compareOp i) r)(S:Ga X (compareOp g) n)(C:PE X a ta)(t:PE X b tb)(M:PE X c tc)
  (o:lastMarks [i,g] [b,c]=false:=by with_unfolding_all rfl):PE X (.Compare a [i,g] [b,c] pos)<|b8 r n ta tb tc:=by
 intro e s σ H Q I h;refine _a0 (CP (C e s σ H _ I h) λv q ⟨x,V,P,J,W⟩=>PR (CP (t e q σ V _ P W) λu N ⟨y,K,A,l,p⟩ =>
  CP (T e N σ K x y v u _ A J l p) λd O ⟨z,j,m,G,f⟩=>?_)) o
 obtain⟨k,rfl,f⟩:=Qk.e f
 cases G;refine η ?_
 cases k with
 |false=>exact ite_ff ⟨.bl _r,j,m,U,f⟩
 |true=>exact ite_tt<|chain_last<|CP (M e O σ j _ m f) λD F ⟨R,B,w,E,L⟩=>S e F σ B y R u D Q w l E L
theorem Ij{j g:ua}{r o:R2}(ho:Ga X (compareOp j) r)(Z:Ga X (compareOp g) o)(J:PE X a ta)(C:PE X b tb)(S:PE X c tc)
  (p:lastMarks [j,g] [b,c]=false:=by with_unfolding_all rfl):PT X (.Compare a [j,g] [b,c] pos)<|j4<|b8 r o ta tb tc:=by
 intro e s σ H Q I h;refine isTrue_chain (CP (J e s σ H _ I h) λv B ⟨x,H1,W,O,q1⟩=>test_link (CP (C e B σ H1 _ W q1) λu T ⟨y,P,E,m,w⟩ =>
  CP (ho e T σ P x y v u _ E O m w) λd V ⟨z,l,n,N,f⟩=>?_)) p
 obtain⟨k,rfl,f⟩:=Qk.e f
 cases N;refine η ?_
 cases k with
 |false =>
  exact ite_ff ⟨l,n,f⟩
 |true =>
  refine ite_tt<|test_last<|CP (S e V σ l _ n f) λK M ⟨Y,G,D,L,R⟩=>CP (Z e M σ G y Y u K _ D m L R) λd' s5 F=>?_
  obtain⟨z2,A,q,t,i⟩:=F;obtain⟨k2,rfl,i⟩:=Qk.e i
  cases t;exact η ⟨A,q,i⟩
def wY(K:_s)(x:V)(H:Hp)(k:_V):Prop :=
 match x with
 |.non=>k=_r
 |.bl b=>k=b
 |.int i=>k=(i != 0)
 |.str y=>y.length<=sizeLine/\k=((y.length:_i) != 0)
 |.byt y=>y.size<=sizeLine/\k=((y.size:_i) != 0)
 |.ref p=>(∃xs,Cp K H p xs/\k = !xs.isEmpty) \/ (∃xs,Fd K H p xs/\k = !xs.isEmpty) \/ ∃kvs,H p=_a (.dK kvs)/\k = !kvs.isEmpty
 |_=>Χ
theorem U4{κ:Type}{kvs:_b (κ×V)}{vs:_b (κ×_j)}(r:KV kvs vs):(!vs.isEmpty) = !kvs.isEmpty:=by
 cases r <;> rfl
theorem O4{its:_b _j}(r:Vals xs its):(!its.toArray.isEmpty) = !xs.isEmpty:=by
 cases r <;> simp
theorem Lf:(sizeLine:_d)<2 ^ 63:=by rw[ĥ];decide
theorem mF:TruR X (λx H Q=>∃k,wY X.K x H k/\Q k H):=by
 intro C s σ H x v Q I g h;obtain⟨k,e,q⟩:=h;have B:=Lf;have A:sizeLine=16777216:=ĥ
 cases x with
 |non =>
  cases g;have a:k=false:=e;subst a;exact truthy_none ⟨H,I,q⟩
 |bl b =>
  cases g;have a:k=b:=e;subst a;exact η ⟨H,I,q⟩
 |int i =>
  obtain⟨t,rfl⟩:=g;have a:k=(i != 0):=e;subst a;exact PySem.P.truthy_int ⟨H,I,q⟩
 |str y =>
  obtain⟨t,rfl⟩:=g;obtain⟨w,a⟩:y.length<=sizeLine/\k=((y.length:_i) != 0):=e;subst a;exact PySem.P.truthy_str (by lia) ⟨H,I.tok _,q⟩
 |byt y =>
  obtain⟨t,rfl⟩:=g;obtain⟨w,a⟩:y.size<=sizeLine/\k=((y.size:_i) != 0):=e;subst a;exact W.truthy_bytes (by lia) ⟨H,I.tok _,q⟩
 |ref p =>
  cases g;have a:(∃f,Cp X.K H p f/\k = !f.isEmpty) \/ (∃f,Fd X.K H p f/\k = !f.isEmpty) \/ ∃c,H p=_a (.dK c)/\k = !c.isEmpty:=e;rcases a with⟨f,j,a⟩ | ⟨f,j,a⟩ | ⟨c,j,a⟩
  .subst a;obtain⟨n,r,o,u⟩:=I.list j;have d:=r.length;exact wpAny_truthy_list o.isList (by simp only[_Z];lia) ⟨H,I.tok _,by rw[O4 r];exact q⟩
  .subst a;obtain⟨n,r,o,u⟩:=I.tuple j;have d:=r.length;exact truthy_tuple o (by simp only[_Z];lia) ⟨H,I.tok _,by rw[O4 r];exact q⟩
  .subst a;obtain⟨u,z,l,r,m⟩:c.length<=sizeLine/\(p == sysModules)=_r/\∃l,KV c l/\s.heap.DictOf (CN X.prog X.w) p l:=I.hok p _ j;have d:c.length=l.length:=Paired.length r;exact wpAny_truthy_dict z m (by lia) ⟨H,I.tok _,by rw[U4 r];exact q⟩
 |_=>exact (show Χ from e).elim
theorem Nx(g:PE X a ta)(d:∀sj,isTrue a X.env sj=(do let v <-sj;standAt a.pos;holding [v] (truthy v))) :
  PT X a (λσ H Q=>ta σ H λx H'=>∃k,wY X.K x H' k/\Q k H'):=by
 intro b s σ H Q I h;exact isTrue_plain (CP (g b s σ H _ I h) λv e ⟨x,i,f,c,j⟩=>mF b e σ i x v Q f c j)<|d _
theorem Jh:Ga X (binaryOp .Add) (λx y H Q=>∃i j,x=.str i/\y=.str j/\i.length+j.length<=sizeLine/\Q (.str<|i++j) H):=by
 intro e s σ H x y v u Q I b d h;obtain⟨i,j,rfl,rfl,a,q⟩:=h;obtain⟨t,rfl⟩:=b;obtain⟨c,rfl⟩:=d;exact add_str (λc tk=>⟨.str<|i++j,H,I.tok _,⟨_,U⟩,q⟩) a
theorem vals1{x:V}(r:Vals [x] us):∃u,us=[u]/\RelV x u:=by
 cases r with
 |cons a b=>cases b;exact⟨_,U,a⟩
theorem vals2{x:V}(r:Vals [x,y] us):∃u w',us=[u,w']/\RelV x u/\RelV y w':=by
 cases r with
 |cons b d =>
  cases d with
  |cons a c=>cases c;exact⟨_,_,U,b,a⟩
theorem Qa(b:X.calm=_h):Eo X (.builtin "max") (λxs H Q=>∃i j,xs=[.int i,.int j]/\Q (.int (if j > i then j else i)) H):=by
 intro g s σ H xs c Q I r h;obtain⟨i,j,rfl,q⟩:=h;obtain⟨u,d,rfl,⟨t,rfl⟩,⟨e,rfl⟩⟩:=vals2 r;refine max_two_ints (I.ok.hd b) λf tk k=>⟨_,H,I.kept k,?_,q⟩;by_cases a:j > i
 .rw[_o a,_o a];exact⟨_,U⟩
 .rw[_l a,_l a];exact⟨_,U⟩
theorem YC:Eo X (.type "int") (λxs H Q=>(∃i,xs=[.int i]/\Q (.int i) H) \/ ∃k,xs=[.bl k]/\Q (.int (if k then 1 else 0)) H):=by
 intro c s σ H xs b Q I r h;rcases h with⟨i,rfl,q⟩ | ⟨k,rfl,q⟩
 .obtain⟨u,rfl,t,rfl⟩:=vals1 r;exact call_int_int ⟨.int i,H,I,⟨_,U⟩,q⟩
 .obtain⟨u,rfl,a⟩:=vals1 r
  cases a;exact call_int_bool ⟨.int (if k then 1 else 0),H,I.tok _,⟨_,U⟩,q⟩
end
structure Uw(h:Θ)(x dx C:_g)(mA:_A->_t _j):Prop where
 obj:h.get? x=_a (Ĭ C dx)
 ns:h.Ns1 dx mA
 ne:dx≠x
theorem Px{d:_A->_t _j}(n:h.Ns1 dx d):∃od,h.get? dx=_a od/\∀name,vt name od=_a (d name):=by
 obtain⟨o,c,m,l,i,j,_,f⟩:=n;refine⟨o,l,λname=>?_⟩;have e:=f name;unfold nsFind findBy at e;rw[<-Array.find?_toList] at e;unfold vt;rw[i];dsimp only;split
 .rename_i y q;rw[q] at e;exact congrArg _a e
 .rename_i q;rw[q] at e;have a:c.toList.any (·.refKey)=false:=by
   rw[List.any_eq_false];intro y g;obtain⟨z,t,b⟩:=j y<|Array.mem_toList_iff.mp g;simp[DictEntry.refKey,b]
  have k:¬ c.toList.any (·.refKey)=true:=by rw[a];exact et
  rw[_l k];exact congrArg _a e
theorem Uw.look{x:_g}{a:_A->_t _j}(I:Uw h x dx C a):∃od,ő h x (Ĭ C dx) C (_a od)/\∀name,vt name od=_a (a name) :=
 let ⟨od,c,b⟩:=Px I.ns
 ⟨od,⟨I.obj,U,U,c⟩,b⟩
section
variable{w:_O}{E:vSP}{K:_s}{x:_g}{mA:_A->_t _j}{name:_A}{v:_j}
theorem jR{c:_V}(X:K.In s.heap)(I:Uw s.heap x dx C mA)(d:vw K C name=_h)(f:Œ K C=_h)
  (b:Ù K (.ref C) name=_a _n) (e:mA name=_a v) (a:L1 v=_h) (h:Q v { s with toks:=s.toks+1 }) :
  wpAny (_z prog w) A (getAttr (.ref x) name c) Q E s:=by
 obtain⟨i,J,g⟩:=I.look;exact W.get_value X J (xE d).1 (W.findObj_own f b U<|by rw[g,e]) a h
theorem aL{pl:ww _V}{Q:_j×_b _j->_C->Prop}(X:K.In s.heap)(I:Uw s.heap x dx C mA)(a:vw K C name=_h)
  (g:Ù K (.ref C) name=_a (_a<|.ref f)) (c:W.isFn K (.ref f)=_h) (d:mA name=_n) (h:Q (.ref f,[.ref x]) s) :
  wpAny (_z prog w) A (getMethod (.ref x) name pl) Q E s:=by
 obtain⟨b,J,e⟩:=I.look;exact W.method_fn X J (xE a).1 (xE a).2 g (_H.mp c) (by show (vt name b).map (·.isSome)=_a _r;rw[e,d];rfl) h
theorem dz{ns:_b _A}{Q:LU->_C->Prop}(X:K.In s.heap)(I:Uw s.heap x dx C mA)
  (t:Ù K (.ref C) "__setattr__" = _a (_a<|.builtin "object.__setattr__"))(o:_a1 K C=_h)(n:PZ K C name=_a _n)(l:Œ K C=_h)
  (q:PySem.Within mA ns)(hsz:ns.length<=sizeLine)
  (h:∀h',Uw h' x dx C (λy=>if y=name then _a v else mA y)->Á dx s.heap h'->Q () { s with heap:=h',toks:=s.toks+2 }) :
  wpAny (_z prog w) A (setAttr (.ref x) name v) Q E s:=by
 obtain⟨B,J,z⟩:=I.look;refine W.set_plain X J t<|W.osa_open (s:={ s with toks:=s.toks+1 }) (r:=_n) X J o n λb=>?_
 obtain⟨u,i,k⟩:=vT l;have j:s.heap.get? x=_a ⟨.ref C,_a dx,.plain,#[]⟩:=I.obj;refine _c<|_k<|_c<|_c<|_aP j<|_c<|W.Looks.here (s:={ s with toks:=s.toks+1 }) (W.looks_clsIn X i) ?_
 rw[k];refine _k (a:=_a dx)<|_c<|_k<|_c ?_
 refine wpAny_nsSet1 (s:={ s with toks:=s.toks+1 }) I.ns λh' c f=>?_;obtain⟨D,g,m,d,e,p⟩:=c.count<|PySem.Within.cons name v q;refine _c<|wpAny_lookBehind d (by rw[e];exact pastItsLine_dict<|bo p<|by rw[zdl];lia) ?_
 exact _k<|h _ ⟨(f.2 _<|_T I.ne).trans I.obj,c,I.ne⟩ f
theorem Z6{R:r_->_C->Prop}{vs:_b _j}{b:_b (_A×_j)}(X:K.In s.heap)(c:W.makesIn K C=_h)
  (hi:Ù K (.ref C) "__init__" = _a (_a<|.ref f))(e:W.typeIn K (.ref f)=_a (.type "function"))
  (h:codeAny (_z prog w) (A.under<|.builtin "type.__call__" ⟨.ref C::vs,b⟩) (.call (.ref f) ⟨.ref (s.heap.objs.size+1)::vs,b⟩) (W.InitBack (s.heap.objs.size+1) R)
   { s with heap:=(s.heap.push Ċ).push (Ĭ C s.heap.objs.size) }) :
  codeAny (_z prog w) A (.call (.ref C) ⟨vs,b⟩) R s:=by
 obtain⟨i,g,d,t,os⟩:=s;exact W.make_core (W.makes_of X c) (we X hi) (λa=>W.bind_fn X a e) (.inl U) h
end
noncomputable def Bo(f:_A)(v:V):_b (_A×V)->_b (_A×V)
 |[]=>[(f,v)]
 |(g,x)::r=>if g=f then (g,v)::r else (g,x)::Bo f v r
theorem Az(f g:_A)(v:V):∀fs:_b<|_A×V,(Bo f v fs).lookup g=if g=f then _a v else fs.lookup g
 |[]=>by
  show ą g [(f,v)]=_;by_cases h:g=f
  .have a:(g == f)=true:=_H.mpr h;simp only[ą,a,_o h]
  .have a:(g == f)=false:=à.mpr h;simp only[ą,a,_l h]
 |(k,x)::r=>by
  have c:=Az f g v r;rw[show Bo f v ((k,x)::r)=(if k=f then (k,v)::r else (k,x)::Bo f v r) from rfl];by_cases b:k=f
  .rw[_o b];by_cases h:g=k
   .have a:(g == k)=true:=_H.mpr h;simp only[ą,a,_o<|h.trans b]
   .have a:(g == k)=false:=à.mpr h;simp only[ą,a,_l (λe:g=f=>h<|e.trans b.symm)]
  .rw[_l b];by_cases h:g=k
   .have a:(g == k)=true:=_H.mpr h;simp only[ą,a,_l (λe:g=f=>b<|h.symm.trans e)]
   .have a:(g == k)=false:=à.mpr h;simp only[ą,a];exact c
theorem Ls(f:_A)(v:V):∀fs:_b<|_A×V,f∈(Bo f v fs).map (·.1)/\∀g,g∈fs.map (·.1)->g∈(Bo f v fs).map (·.1)
 |[]=>⟨by simp[Bo],λg h=>by simp at h⟩
 |(k,x)::r=>by
  obtain⟨b,c⟩:=Ls f v r;rw[show Bo f v ((k,x)::r)=(if k=f then (k,v)::r else (k,x)::Bo f v r) from rfl];by_cases a:k=f
  .rw[_o a];subst a;exact⟨by simp,λg h=>by simpa using h⟩
  .rw[_l a];refine⟨?_,λg h=>?_⟩
   .rw[df];exact aT _ b
   .rw[df] at h |-;rcases bq.mp h with e | e
    .exact bq.mpr<|.inl e
    .exact aT _<|c g e
theorem Mg(f:_A)(v:V):∀fs:_b<|_A×V,(Bo f v fs).length<=fs.length+1
 |[]=>by simp[Bo]
 |(k,x)::r=>by
  have b:=Mg f v r;rw[show Bo f v ((k,x)::r)=(if k=f then (k,v)::r else (k,x)::Bo f v r) from rfl];by_cases a:k=f
  .rw[_o a,zdl,zdl];lia
  .rw[_l a,zdl,zdl];lia
theorem Gw.some_of{v:V}{o:_t _j}(r:Gw (_a v) o):∃u,o=_a u/\RelV v u:=by
 cases o with
 |none=>exact (show Χ from r).elim
 |some u=>exact⟨u,U,r⟩
theorem Gw.none_of{o:_t _j}(r:Gw _n o):o=none:=by
 cases o with
 |none=>rfl
 |some u=>exact (show Χ from r).elim
theorem XJ{v:V}(r:RelV v u):L1 u=true:=by
 cases v with
 |non=>cases (show u=_J from r);rfl
 |bl b=>cases (show u=Ź b from r);rfl
 |int i=>obtain⟨t,e⟩:=(show ∃t,u=Ζ i t from r);cases e;rfl
 |str x=>obtain⟨t,e⟩:=(show ∃t,u=į x t from r);cases e;rfl
 |byt b=>obtain⟨t,e⟩:=(show ∃t,u=VI b t from r);cases e;rfl
 |flt b=>obtain⟨t,e⟩:=(show ∃t,u=xp b t from r);cases e;rfl
 |ref a=>cases (show u=_Q a from r);rfl
 |ty n=>cases (show u=Ö n from r);rfl
section
variable{w:_O}{fs xI:_b (_A×V)}
theorem M3(b:Fe P w H h)(e:H a=_a (.ins C dx fs)):∃mA,Uw h a dx C mA/\(∀f,Gw (fs.lookup f)<|mA f)/\PySem.Within mA (fs.map (·.1))/\fs.length<=1000/\H dx=_a (.own a):=by
 obtain⟨d,z,c,g,mA,n,r,q⟩:=(show Cd P w H h a (.ins C dx fs) from b a _ e);exact⟨mA,⟨g,n,c⟩,r,q,z,d⟩
end
structure V9(K:_s)(C:_g):Prop where
 pg:vw K C Str.empty=_h
 hd:Œ K C=_h
 po:_a1 K C=_h
 sa:Ù K (.ref C) "__setattr__" = _a (_a<|.builtin "object.__setattr__")
theorem V9.get{K:_s}(c:V9 K C)(f:_A):vw K C f=true:=c.pg
def Dy(K:_s)(C:_g)(f:_A):Prop:=Ù K (.ref C) f=_a _n
theorem Dy.taker{K:_s}{f:_A}(n:Dy K C f):PZ K C f=_a none:=by
 unfold PZ;rw[show Ù K (.ref C) f=_a _n from n];rfl
structure Meth(K:_s)(C:_g)(m:_A)(f:_g):Prop where
 at_:Ù K (.ref C) m=_a (_a<|.ref f)
 fn:W.isFn K (.ref f)=_h
 kp:Ć K (.ref f)=_h
section
variable{fs:_b (_A×V)}{f:_A}{v:V}{E:vSP}
theorem U3{b:_V}(I:Inv X b9 σ H s)(e:H a=_a (.ins C dx fs))(c:V9 X.K C)(n:Dy X.K C f)(l:fs.lookup f=_a v)
  (h:∀u s',Inv X b9 σ H s'->RelV v u->Q u s'):wpAny (_z X.prog X.w) A (getAttr (.ref a) f b) Q E s:=by
 obtain⟨g,O,r,_,_,_⟩:=M3 I.hok e;obtain⟨u,i,d⟩:=Gw.some_of (v:=v) (o:=g f)<|by rw[<-l];exact r f
 exact jR I.JX O (c.get f) c.hd n i (XJ d)<|h u _ (I.tok _) d
theorem Ox{m:_A}{g:_g}{pl:ww _V}{Q:_j×_b _j->_C->Prop}(I:Inv X b9 σ H s)(e:H a=_a (.ins C dx fs))(c:V9 X.K C)(k:Meth X.K C m g)(l:fs.lookup m=_n)
  (h:Q (.ref g,[.ref a]) s):wpAny (_z X.prog X.w) A (getMethod (.ref a) m pl) Q E s:=by
 obtain⟨d,O,r,_,_,_⟩:=M3 I.hok e;have b:d m=none:=Gw.none_of<|by rw[<-l];exact r m
 exact aL I.JX O (c.get m) k.at_ k.fn b h
theorem Ur{Q:LU->_C->Prop}(I:Inv X b9 σ H s)(e:H a=_a (.ins C dx fs))(c:V9 X.K C)(n:Dy X.K C f)(F:fs.length<1000)(w:RelV y u)
  (h:∀s',Inv X b9 σ (upd H a<|.ins C dx<|Bo f y fs) s'->Q () s'):wpAny (_z X.prog X.w) A (setAttr (.ref a) f u) Q E s:=by
 obtain⟨i,O,r,k,_,j⟩:=M3 I.hok e;have D:(fs.map (·.1)).length<=sizeLine:=by rw[ah,ĥ];lia
 refine dz I.JX O c.sa c.po n.taker c.hd k D λB d p=>h _ ?_;have v:∃o,B.get? dx=_a o:=let ⟨o,_,_,t,_⟩:=d.ns;⟨o,t⟩;refine I.write (x:=a) (e:=dx) (by rw[e];exact Ψ) (.inr j) (λb q l z=>(p.2 b l).trans z) v ?_;refine⟨by rw[An O.ne];exact j,?_,O.ne,d.obj,_,d.ns,λg=>?_,λg m=>?_⟩
 .have:=Mg f y fs;lia
 .show Gw ((Bo f y fs).lookup g) (if g=f then _a u else i g);rw[Az];by_cases q:g=f
  .rw[_o q,_o q];exact w
  .rw[_l q,_l q];exact r g
 .by_cases q:g=f
  .rw[q];exact (Ls f y fs).1
  .refine (Ls f y fs).2 g<|k g λz=>m ?_
   show (if g=f then _a u else i g)=_n;rw[_l q];exact z
theorem Inv.made(I:Inv X b9 σ H s):Inv X b9 σ (upd (upd H s.heap.objs.size<|.own<|s.heap.objs.size+1) (s.heap.objs.size+1)<|.ins C s.heap.objs.size [])
  { s with heap:=(s.heap.push Ċ).push (Ĭ C s.heap.objs.size) }:=by
 have c:(s.heap.push Ċ).get? s.heap.objs.size=_a W.emptyDict:=_p s.heap U;have h:((s.heap.push Ċ).push<|Ĭ C s.heap.objs.size).get? (s.heap.objs.size+1)=_a (Ĭ C s.heap.objs.size):=by
  have:=_p (s.heap.push Ċ) (o:=Ĭ C s.heap.objs.size) U;rwa [ε] at this
 have j:(s.heap.push Ċ).Ns s.heap.objs.size<|λ_=>none:=⟨Ċ,#[],_,c,U,(λe i=>_D i<|by simp),λ_=>rfl⟩
 have f:=I.laid (a:=s.heap.objs.size) (o:=.own<|s.heap.objs.size+1) (h':=s.heap.push Ċ) (t':=s.toks) (λb u q=>_e _ q) (ai _) ⟨_,c⟩;refine f.laid (a:=s.heap.objs.size+1) (o:=.ins C s.heap.objs.size []) (t':=s.toks) (λb u q=>_e _ q) (ke<|ε _ _) ?_;have d:s.heap.objs.size≠s.heap.objs.size+1:=cf<|gy _
 refine⟨by rw[An d,Ai],cK _,d,h,λ_=>_n,(Heap.Ns1.of_empty j).at λo q=>_e _ q,λ_=>Ψ,λy g=>_D U g⟩
theorem jN{w:_O}{a:ŧ}{e:Expr}{f:_A}(b:attributeBase e f a (eval e a)=eval e a)
  (h:wpAny (_z prog w) A (eval e a) (λo s₁=>wpAny (_z prog w) A (getAttr o f _h) Q E s₁) E s):wpAny (_z prog w) A (eval (.Attribute e f pos) a) Q E s :=
 Attribute_any_ h (by rw[arm_eval_Attribute,b])
end
inductive jk(K:_s)(f:_A)(Q:VK)(a:_g)(H1:Hp):Prop
|mk(C dx fs v:_)(_:H1 a=_a (.ins C dx fs))(_:V9 K C)(_:Dy K C f)(_:fs.lookup f=_a v)(_:Q v H1)
abbrev zY(K:_s)(ta:TE)(f:_A):TE:=λσ H Q=>ta σ H<|Jz λa H1=>jk K f Q a H1
inductive lV(K:_s)(f:_A)(D:Ends)(σ:St)(y:V)(a:_g)(H2:Hp):Prop
|mk(C dx fs:_)(_:H2 a=_a (.ins C dx fs))(_:V9 K C)(_:Dy K C f)(_:fs.length<1000)(_:D.nx σ (upd H2 a (.ins C dx (Bo f y fs))))
abbrev zu(K:_s)(ta tv:TE)(f:_A):TS:=λD σ H=>tv σ H λy H1=>ta σ H1<|Jz λa H2=>lV K f D σ y a H2
section
variable{o e value:Expr}{f:_A}{rg rf:ĵ}{tv:TE}
theorem De(b:PE X e ta)(d:attributeBase e f X.env (eval e X.env)=eval e X.env):PE X (.Attribute e f pos)<|zY X.K ta f:=by
 intro p s σ H Q I h;refine jN d<|CP (b p s σ H _ I h) λu w j=>?_
 obtain⟨x,t,m,o,k⟩:=j;obtain⟨a,rfl,C,A,fs,v,i,c,n,l,q⟩:=Jz.e k;obtain rfl:u=_Q a:=o;exact U3 m i c n l λy z g r=>⟨v,t,g,r,q⟩
theorem Fq(r:PE X o ta)(w:PE X value tv)(e:swapsWith value (_a<|.Attribute o f rg) pos.line X.env=pure _r):PS X (.Assign [.Attribute o f rg] value pos)<|zu X.K ta tv f:=by
 intro b s σ H D I h;refine plainObj_wpAny_Assign_Attribute (CP (w b s σ H _ I h) λu g ⟨y,z,p,v,q⟩=>CP (r b g σ z _ p q) λov B ⟨x,A,i,t,m⟩=>?_) e;obtain⟨a,rfl,C,F,fs,j,c,n,l,d⟩:=Jz.e m;obtain rfl:ov=_Q a:=t;exact Ur i j c n l v λE k=>⟨σ,_,k,d⟩
end
section
variable{E:vSP}{c:_j}{b:_V}
inductive LR(K:_s)(H:Hp):V->_j->Prop where
 | non:LR K H .non (.type "NoneType")
 | bl(x:_V):LR K H (.bl x) (.type "bool")
 | int(i:_i):LR K H (.int i) (.type "int")
 | str(x:_A):LR K H (.str x) (.type "str")
 | flt(x:UInt64):LR K H (.flt x) (.type "float")
 | lst{a:_g}{xs:_b V}(e:H a=_a (.lst xs)):LR K H (.ref a) (.type "list")
 | frz{a:_g}{o:ü}{xs:_b V}(e:H a=_a (.frz o (.lst xs))):LR K H (.ref a) (.type "list")
 | tup{a:_g}{xs:_b V}(e:H a=_a (.tup xs)):LR K H (.ref a) (.type "tuple")
 | dK{a:_g}{kvs:_b (Key×V)}(e:H a=_a (.dK kvs)):LR K H (.ref a) (.type "dict")
 | dT{a:_g}{kvs:_b (_b Key×V)}(e:H a=_a (.dT kvs)):LR K H (.ref a) (.type "dict")
 | ins{a C dx:_g}{fs:_b (_A×V)}(e:H a=_a (.ins C dx fs))(cl:V9 K C)(ha:Ù K (.ref C) "__class__" = _a (_a (.builtin "object.__class__")))
   (hn:EA K (.builtin "object.__class__") "__get__" = _a (_a<|.builtin "getset_descriptor.__get__")) (Sr:P4 K (.builtin "object.__class__")=_a _h)
   (hm:ĳ K C (.type "object")=_a _h):LR K H (.ref a)<|.ref C
theorem Xl{x:V}{t:_j}(I:Inv X b9 σ H s)(f:RelV x u)(G:LR X.K H x t)(e:Ú X.K t c=_a b)(h:∀tk,Q (.bool b) { s with toks:=tk }) :
  wpAny (_z X.prog X.w) A (call (.builtin "isinstance") [u,c]) Q E s:=by
 cases G with
 |non=>cases (show u=_J from f);exact í W.kitx_none I.JX Ψ e (λz=>nomatch z) h
 |bl y=>cases (show u=Ź y from f);exact í W.kitx_bool I.JX Ψ e (λz=>nomatch z) h
 |int i=>obtain⟨t,q⟩:=(show ∃t,u=Ζ i t from f);cases q;exact í W.kitx_int I.JX Ψ e (λz=>nomatch z) h
 |str y=>obtain⟨t,q⟩:=(show ∃t,u=į y t from f);cases q;exact í W.kitx_str I.JX Ψ e (λz=>nomatch z) h
 |flt y=>obtain⟨t,q⟩:=(show ∃t,u=xp y t from f);cases q;exact í W.kitx_float I.JX Ψ e (λz=>nomatch z) h
 | @lst a k d =>
  cases (show u=_Q a from f);obtain⟨_,_,n,_,g⟩:=(show Cd X.prog X.w H s.heap a (.lst k) from I.hok a _ d);exact í _a2 I.JX ⟨_,g,U⟩ e (λz=>nomatch z) h
 | @frz a K k d =>
  cases (show u=_Q a from f);obtain⟨_,_,_,n,_,g⟩:=(show Cd X.prog X.w H s.heap a (.frz K<|.lst k) from I.hok a _ d);exact í _a2 I.JX ⟨_,g,U⟩ e (λz=>nomatch z) h
 | @tup a k d =>
  cases (show u=_Q a from f);obtain⟨_,_,_,p⟩:=(show Cd X.prog X.w H s.heap a (.tup k) from I.hok a _ d);obtain⟨o,g,l,_⟩:=p;exact í W.kitx_tuple I.JX ⟨o,g,l⟩ e (λz=>nomatch z) h
 | @dK a j d =>
  cases (show u=_Q a from f);obtain⟨_,_,L,_,p⟩:=(show Cd X.prog X.w H s.heap a (.dK j) from I.hok a _ d);obtain⟨o,w,D,g,l,_⟩:=p;exact í _a3 I.JX ⟨o,g,l.1⟩ e (λz=>nomatch z) h
 | @dT a j d =>
  cases (show u=_Q a from f);obtain⟨_,_,k,_,o,w,D,g,l,_⟩:=(show Cd X.prog X.w H s.heap a (.dT j) from I.hok a _ d);exact í _a3 I.JX ⟨o,g,l.1⟩ e (λz=>nomatch z) h
 | @ins a C P fs d m B v F r =>
  cases (show u=_Q a from f);obtain⟨M,O,_⟩:=M3 I.hok d;obtain⟨N,J,_⟩:=O.look;exact í (W.kitx_own (m.get _) m.hd B v F r) I.JX J e (λz=>nomatch z) h
end
structure Df(k:_d)(A:ù):Prop where
 hd:A.handled=_n
 dp:A.depth+3 * k+5<recursionLimit
 un:A.units+16 * k+200<cLine
theorem Df.mono{k:_d}(r:Df k A)(h:j<=k):Df j A:=⟨r.hd,by have:=r.dp;lia,by have:=r.un;lia⟩
theorem ae{k:_d}(r:Df k A)(h:j<=k:=by decide):Df j A:=r.mono h
theorem Df.deeper{k:_d}(r:Df (k+1) A)(a:ŧ):Df k (A.deeper a) :=
 ⟨r.hd,by have:=r.dp;show A.depth+1+3 * k+5<_;lia,by have:=r.un;show A.units+3+16 * k+200<_;lia⟩
theorem Ug{a:_b (_A×_j)}:(A.under<|.builtin "type.__call__" ⟨.ref C::us,a⟩).depth=A.depth+1:=by
 first | rfl | simp[ui,Code.weight,Code.isCreation,Code.isGuard,Code.isCaller,Code.frames,Code.isFrame,guardIds]
theorem Vk{a:_b (_A×_j)}:(A.under<|.builtin "type.__call__" ⟨.ref C::us,a⟩).units=A.units+1:=by
 first | rfl | simp[ui,Code.cUnits,Code.frames,Code.isFrame]
theorem Df.make{k:_d}(r:Df (k+1) A)(C:_g)(us:_b _j)(a:_b<|_A×_j):Df k (A.under<|.builtin "type.__call__" ⟨.ref C::us,a⟩) :=
 ⟨r.hd,by have:=r.dp;rw[Ug];lia,by have:=r.un;rw[Vk];lia⟩
theorem Df.depth{k:_d}(r:Df k A):A.depth<recursionLimit:=by have:=r.dp;lia
theorem Df.units{k:_d}(r:Df k A):A.units+64<cLine:=by have:=r.un;lia
abbrev pY:TA:=λ_ H Q=>Q [] H
abbrev jr(ta:TE)(tr:TA):TA:=λσ H Q=>ta σ H λx H1=>tr σ H1 λxs H2=>Q (x::xs) H2
section
variable{e:Expr}{t:TA}
theorem Ab:PA X [] pY:=λ_ _ _ _ H Q I h=>æ ⟨[],H,I,.nil,h⟩
theorem Aa(n:PE X e te)(k:PA X es t)(q:starEach (e::es) X.env=(_r,eval e X.env)::starEach es X.env:=by rfl):PA X (e::es)<|jr te t:=by
 intro a b s σ H Q I h;rw[q];show wpAny _ _ (spliced<|(_r,eval e X.env)::backTo a (starEach es X.env)) _ _ s;refine Κ<|CP (n b s σ H _ I h) λu f j=>?_
 obtain⟨x,o,m,c,p⟩:=j;exact CP (k a b f σ o _ m p) λv w ⟨r,g,i,l,d⟩=>⟨x::r,g,i,.cons c l,d⟩
abbrev zX(t:TA):TE:=λσ H Q=>t σ H λxs H1=>xs.length<=sizeLine/\∀p,H1 p=_n->Q (.ref p) (upd H1 p<|.tup xs)
abbrev yr(t:TA):TE:=λσ H Q=>t σ H λxs H1=>xs.length<=sizeLine/\∀p,H1 p=_n->Q (.ref p) (upd H1 p<|.lst xs)
theorem Bx {x1} (h:PA X es t):PE X (.Tuple es x1 pos)<|zX t:=by
 intro j s σ H Q I g;refine OI<|CP (h pos j s σ H _ I g) λf a ⟨k,d,c,r,z,q⟩=>⟨by rw[<-r.length];exact z,?_⟩
 have i:d a.heap.objs.size=none:=c.hok.fresh<|ai _
 refine⟨.ref a.heap.objs.size,upd d a.heap.objs.size<|.tup k,c.laid (t':=a.toks) (λb u e=>_e _ e) (ai _) ?_,U,q _ i⟩;exact⟨z,f,r,⟨_,_p _ U,U,_,U⟩⟩
theorem CV(h:PA X es t):PE X (.List es pos)<|yr t:=by
 intro j s σ H Q I g;refine wpAny_List_spliced<|CP (h pos j s σ H _ I g) λf a ⟨k,d,c,r,z,q⟩=>⟨by rw[<-r.length];exact z,?_⟩
 have i:d a.heap.objs.size=none:=c.hok.fresh<|ai _
 refine⟨.ref a.heap.objs.size,upd d a.heap.objs.size<|.lst k,c.laid (t':=a.toks) (λb u e=>_e _ e) (ai _) ?_,U,q _ i⟩;exact⟨z,f,0,r,_p _ U⟩
end
abbrev Sp:=_b V->Hp->VK->XK->Prop
abbrev YM:=_b ŧ->Hp->_C->XK->_j->_C->Prop
structure Vm(P:Ð)(w:_O)(K:_s)(mg:_A->_t _j)(base:Θ)(A:ù)(outer:_b ŧ)(s:_C)(H:Hp):Prop where
 frames:A.frames=_a outer
 mod:Mod K mg base
 bs:∀b o,base.get? b=_a o->s.heap.get? b=_a o/\H b=_n
 bsz:base.objs.size<=s.heap.objs.size
 Lp:s.heap.FunFrames base outer
 frf:∀b∈frs outer,H b=_n
 hok:Fe P w H s.heap
 bare:ķ s.gens
inductive CE(outer:_b ŧ)(P:Ð)(w:_O)(H:Hp)(s:_C)(Q:VK)(u:_j)(s':_C):Prop
|mk(v H':_)(_:s'.os=s.os)(_:ķ s'.gens)(_:Un (frs outer) [] H H' s.heap s'.heap)(_:Fe P w H' s'.heap)(_:RelV v u)(_:Q v H')
def CR(CX:YM)(outer:_b ŧ)(P:Ð)(w:_O)(H:Hp)(s:_C)(Q:VK)(E:XK)(r:r_)(s':_C):Prop :=
 match r with
 |.ok (.ret u)=>CE outer P w H s Q u s'
 |.ok _=>Χ
 |.error e=>CX outer H s E e s'
structure Gu(P:Ð)(w:_O)(K:_s)(mg:_A->_t _j)(base:Θ)(CX:YM)(k:_d)(f:_g)(fd:ė)(ps:_b _A)(sp:Sp):Prop where
 len:∀vs H Q E,sp vs H Q E->vs.length=ps.length
 run:∀(A:ù)(outer:_b ŧ)(s:_C)(H:Hp)(args:Args)(us:_b _j)(vs:_b V)(Q:VK)(E:XK),Df k A->Vm P w K mg base A outer s H->Ż s fd args (ps.zip us)->Vals vs us->sp vs H Q E ->
  codeAny (_z P w) A (.call (.ref f) args) (CR CX outer P w H s Q E) s
theorem Vm.make{w:_O}{K:_s}{a:_b ŧ}(e:Vm P w K mg base A a s H)(C:_g)(us:_b _j)(b:_b<|_A×_j) :
  Vm P w K mg base (A.under<|.builtin "type.__call__" ⟨.ref C::us,b⟩) a s H:=⟨by first | exact e.frames | (simpa [ui,Code.envs,Code.isFrame,pushEnvs] using e.frames),e.mod,e.bs,e.bsz,e.Lp,e.frf,e.hok,e.bare⟩
section
variable{s':_C}
theorem Inv.env0(I:Inv X b9 σ H s):Vm X.prog X.w X.K X.mg X.base X.A X.stack s H :=
 ⟨I.ok.frames,I.ok.mod,I.bs,bo I.ok.bsz I.sz,I.stack,I.Ko,I.hok,I.bare⟩
theorem Inv.after{Q:VK}(I:Inv X b9 σ H s)(h:CE X.stack X.prog X.w H s Q u s'):EP X b9 σ Q u s':=by
 obtain⟨v,f,os,a,un,c,r,q⟩:=h;obtain⟨i,g,d,t,e⟩:=s';obtain rfl:e=s.os:=os;exact⟨v,f,I.call (h':=i) (g':=g) (d':=d) (t':=t) (ch:=[]) un c a (λb z=>_D z<|by simp),r,q⟩
end
abbrev Yv(sp:Sp)(qa:_b V)(E:XK)(t:TA):TE:=λσ H Q=>t σ H λvs H1=>sp (vs++qa) H1 Q E
inductive ZS(C:_g)(m:_A)(sp:Sp)(qa:_b V)(E:XK)(t:TA)(σ:St)(Q:VK)(a:_g)(H1:Hp):Prop
|mk(dx fs:_)(_:H1 a=_a (.ins C dx fs))(_:fs.lookup m=_n)(_:t σ H1 λvs H2=>sp (.ref a::(vs++qa)) H2 Q E)
abbrev W8(C:_g)(m:_A)(sp:Sp)(qa:_b V)(E:XK)(ta:TE)(t:TA):TE:=λσ H Q=>ta σ H<|Jz λa H1=>ZS C m sp qa E t σ Q a H1
abbrev uz(C:_g)(sp:Sp)(qa:_b V)(E:XK)(t:TA):TE:=λσ H Q=>t σ H λvs H1=>∀x dx,H1 x=_n->H1 dx=_n->dx≠x ->
 sp (.ref x::(vs++qa)) (upd (upd H1 dx<|.own x) x<|.ins C dx []) (λv H2=>v=.non/\Q (.ref x) H2) E
def Binds(K:_s)(fd:ė)(ps:_b _A)(ds:_b _j):Prop :=
 ∀(s:_C)(us:_b _j),K.In s.heap->(us++ds).length=ps.length->Ż s fd ⟨us,[]⟩ (ps.zip<|us++ds)
theorem Binds.all{K:_s}{ps:_b _A}(h:∀us:_b _j,us.length=ps.length->bindArgs fd ⟨us,[]⟩=pure (ps.zip us)):Binds K fd ps []:=λs us _ a=>by
 rw[fN] at a |-;exact .of_eq<|h us a
def Fg(CX:YM)(X:Cx)(E:XK):Prop:=∀(b9:_b<|_g × ü)(σ:St)(H:Hp)(s:_C)(e:_j)(s':_C),Inv X b9 σ H s->CX X.stack H s E e s'->X.xe e s'
section
variable{CX:YM}{k:_d}{ps:_b _A}{sp:Sp}{qa:_b V}{ds:_b _j}{E:XK}{m:_A}{p:ĵ}{e o:Expr}{t:TA}
theorem U5{Q:VK}(F:Gu X.prog X.w X.K X.mg X.base CX k f fd ps sp)(g:Df k X.A)(c:Binds X.K fd ps ds)(i:Vals qa ds)(d:Fg CX X E)
  (I:Inv X b9 σ H s)(r:Vals vs us)(h:sp (vs++qa) H Q E):wpAny (_z X.prog X.w) X.A (call (.ref f) us) (EP X b9 σ Q) X.xe s:=by
 have b:Vals (vs++qa)<|us++ds:=r.append i
 have l:(us++ds).length=ps.length:=by rw[<-b.length];exact F.len _ _ _ _ h
 refine ı<|é (F.run X.A X.stack s H ⟨us,[]⟩ (us++ds) (vs++qa) Q E g I.env0 (c s us I.JX l) b h) λr j a=>?_
 cases r with
 |error e=>exact d b9 σ H s e j I a
 |ok fl =>
  cases fl with
  |ret u=>exact I.after a
  |next=>exact Ν a
  |brk=>exact Ν a
  |cont=>exact Ν a
theorem Kz(F:Gu X.prog X.w X.K X.mg X.base CX k f fd ps sp)(l:Df k X.A)(i:Gl X x)(c:X.mg x=_a (.ref f))(v:Ć X.K (.ref f)=_h)(g:Binds X.K fd ps ds)(n:Vals qa ds)(j:Fg CX X E)
  (o:PA X (e::es) t) (m:(x == ("__debug__" : _A))=false:=by decide) (d:starEach (e::es) X.env=(_r,eval e X.env)::starEach es X.env:=by rfl) (a:(backTo pos<|starEach es X.env).any (·.1)=false:=by rfl) :
  PE X (.Call (.Name x p) (e::es) [] pos) (Yv sp qa E t):=by
 intro u s σ H Q I h;refine ê<|JK I i c ?_ m
 refine Ű (h₀:=X.base) I.ok.mod.kin v (CP (o pos u s σ H _ I h) λw y ⟨z,A,b,r,q⟩=>⟨b.JX,?_⟩) d a;exact U5 F l g n j b r q
theorem d_{pl:ww _V}(v:PE X o ta)(c:V9 X.K C)(g:Meth X.K C m f)(F:Gu X.prog X.w X.K X.mg X.base CX k f fd ps sp)(K:Df k X.A)(y:Binds X.K fd ps ds)(z:Vals qa ds)(J:Fg CX X E)(B:PA X (e::es) t)
  (d:starEach (e::es) X.env=(_r,eval e X.env)::starEach es X.env:=by rfl)(b:(backTo pos<|starEach es X.env).any (·.1)=false:=by rfl)
  (D:eval (.Call (.Attribute o m k8) (e::es) [] pos) X.env=(do
   let ov <-eval o X.env
   standAt k8.atName
   let (f,first) <-holding [ov] (getMethod ov m pl)
   callWith pos f first (backTo pos<|starEach (e::es) X.env) (backToKw pos<|keywordEach [] X.env)):=by rfl) :
  PE X (.Call (.Attribute o m k8) (e::es) [] pos) (W8 C m sp qa E ta t):=by
 intro j s σ H Q I h;refine Wk (pl:=pl) (CP (v j s σ H _ I h) λu w ⟨x,M,n,L,A⟩=>?_) D;obtain⟨a,rfl,P,fs,G,l,q⟩:=Jz.e A;obtain rfl:u=_Q a:=L;refine Ox n G c g l ?_;refine Ű (first:=[.ref a]) (h₀:=X.base) I.ok.mod.kin g.kp (CP (B pos j w σ M _ n q) λus O ⟨vs,N,i,r,p⟩=>⟨i.JX,?_⟩) d b;exact U5 (us:=.ref a::us) (vs:=.ref a::vs) F K y z J i (.cons U r) p
theorem Y_{pl:ww _V}(e:PE X o ta)(c:V9 X.K C)(d:Meth X.K C m f)(F:Gu X.prog X.w X.K X.mg X.base CX k f fd ps sp)(n:Df k X.A)(g:Binds X.K fd ps ds)(p:Vals qa ds)(j:Fg CX X E)
  (t:eval (.Call (.Attribute o m k8) [] [] pos) X.env=(do
   let ov <-eval o X.env
   standAt k8.atName
   let (f,first) <-holding [ov] (getMethod ov m pl)
   callWith pos f first (backTo pos<|starEach [] X.env) (backToKw pos<|keywordEach [] X.env)):=by rfl) :
  PE X (.Call (.Attribute o m k8) [] [] pos) (W8 C m sp qa E ta pY):=by
 intro w s σ H Q I h;refine Wk (pl:=pl) (CP (e w s σ H _ I h) λu y ⟨x,A,b,v,r⟩=>?_) t;obtain⟨a,rfl,z,fs,i,l,q⟩:=Jz.e r;obtain rfl:u=_Q a:=v;refine Ox b i c d l ?_;exact W.callWith_K0 (first:=[.ref a]) b.JX d.kp<|U5 (us:=[.ref a]) (vs:=[.ref a]) F n g p j b (.cons U .nil) q
structure Mk(K:_s)(C f:_g):Prop where
 makes:W.makesIn K C=_h
 init:Ù K (.ref C) "__init__" = _a (_a<|.ref f)
 fn:W.isFn K (.ref f)=_h
 kp:Ć K (.ref C)=_h
theorem Z_{Q:VK}(M:Mk X.K C f)(F:Gu X.prog X.w X.K X.mg X.base CX k f fd ps sp)(m:Df (k+1) X.A)(i:Binds X.K fd ps ds)(o:Vals qa ds)
  (l:Fg CX X E)(I:Inv X b9 σ H s)(r:Vals vs us)
  (h:∀x dx,H x=_n->H dx=_n->dx≠x->sp (.ref x::(vs++qa)) (upd (upd H dx<|.own x) x<|.ins C dx []) (λv H2=>v=.non/\Q (.ref x) H2) E) :
  wpAny (_z X.prog X.w) X.A (call (.ref C) us) (EP X b9 σ Q) X.xe s:=by
 have c:=h (s.heap.objs.size+1) s.heap.objs.size (I.hok.fresh<|kc _) (I.hok.fresh<|ai _)<|cf<|gy _
 have b:=Inv.made (C:=C) I;have d:Vals (V.ref (s.heap.objs.size+1)::(vs++qa))<|_Q (s.heap.objs.size+1)::(us++ds):=.cons U<|r.append o
 have t:(_Q (s.heap.objs.size+1)::us++ds).length=ps.length:=by
  have e:=d.length;rw[F.len _ _ _ _ c] at e;exact e.symm
 refine ı (Z6 (f:=f) I.JX M.makes M.init (_H.mp M.fn) (é (F.run _ X.stack _ _ ⟨_Q (s.heap.objs.size+1)::us,[]⟩ (_Q (s.heap.objs.size+1)::(us++ds)) _ _ E (m.make C us [])
  (b.env0.make C us []) (i _ (_Q (s.heap.objs.size+1)::us) b.JX t) d c) λr p a=>?_))
 cases r with
 |error e=>exact l b9 σ _ _ e p b a
 |ok fl =>
  cases fl with
  |ret u =>
   obtain⟨v,q,n,w,j,g⟩:=b.after a;subst j;exact⟨w,⟨V.ref<|s.heap.objs.size+1,q,n,U,g⟩⟩
  |next=>exact Ν a
  |brk=>exact Ν a
  |cont=>exact Ν a
theorem iT(M:Mk X.K C f)(F:Gu X.prog X.w X.K X.mg X.base CX k f fd ps sp)(l:Df (k+1) X.A)(i:Gl X x)(c:X.mg x=_a (.ref C))(g:Binds X.K fd ps ds)(n:Vals qa ds)(j:Fg CX X E)
  (o:PA X (e::es) t) (m:(x == ("__debug__" : _A))=false:=by decide) (d:starEach (e::es) X.env=(_r,eval e X.env)::starEach es X.env:=by rfl) (a:(backTo pos<|starEach es X.env).any (·.1)=false:=by rfl) :
  PE X (.Call (.Name x p) (e::es) [] pos) (uz C sp qa E t):=by
 intro u s σ H Q I h;refine ê<|JK I i c ?_ m
 refine Ű (h₀:=X.base) I.ok.mod.kin M.kp (CP (o pos u s σ H _ I h) λv w ⟨y,z,b,r,q⟩=>⟨b.JX,?_⟩) d a;exact Z_ M F l g n j b r q
end
structure Aq(N P:_b _A)(sc:Scope):Prop where
 kind:sc.kind=.function
 co:sc.isCoroutine=_r
 gen:sc.isGenerator=_r
 nd:N.Nodup
 pre:N.take P.length=P
 par:∀x∈P,sc.names.lookup x=_a .local \/ sc.names.lookup x=_a .cell
 nofree:∀y∈sc.names,y.2≠.free
theorem Bh{N P:_b _A}{h:Scope}(a:h.kind=.function:=by rfl)(b:h.isCoroutine=false:=by rfl)(c:h.isGenerator=false:=by rfl)(d:N.Nodup:=by decide)(e:N.take P.length=P:=by rfl)(f:∀x∈P,h.names.lookup x=_a .local \/ h.names.lookup x=_a .cell:=by decide)(g:∀y∈h.names,y.2≠.free:=by decide):Aq N P h:=⟨a,b,c,d,e,f,g⟩
theorem QT{kindOf:_A->_t ę}:∀{tw:_b (_A × _j)}{m:_A->_t _j},(∀v,(x,v) ∉ tw)->bindL kindOf tw m x=m x
 |[],_,_=>rfl
 |(n,v)::r,m,h=>by
  unfold bindL;rw[QT λw a=>h w<|aT _ a];split
  .have:x≠n:=by rintro rfl;exact h v be
   simp[this]
  .rfl
theorem QQ{kindOf:_A->_t ę}:∀{tw:_b (_A × _j)}{m:_A->_t _j},(∀v,(x,v) ∉ tw)->bindC kindOf tw m x=m x
 |[],_,_=>rfl
 |(n,v)::r,m,h=>by
  unfold bindC;rw[QQ λw a=>h w<|aT _ a];split
  .rfl
  .have:x≠n:=by rintro rfl;exact h v be
   simp[this]
theorem QJ{kindOf:_A->_t ę}{v:_j}:∀{P:_b _A}{vs:_b _j}{i:_d}{m:_A->_t _j},P.Nodup->P[i]? = _a x->vs[i]? = _a v->kindOf x=_a .local ->
  bindL kindOf (P.zip vs) m x=_a v
 |[],_,_,_,_,h,_,_=>by simp at h
 |_::_,[],_,_,_,_,h,_=>by simp at h
 |p::P,w::vs,0,m,c,b,a,d=>by
  simp at b a;subst b;subst a;show bindL kindOf ((p,w)::P.zip vs) m p=_;unfold bindL;rw[QT λv e=>(fR.mp c).1 (Ľ e).1,_o d];simp
 |p::P,w::vs,i+1,m,c,b,a,d=>by
  show bindL kindOf ((p,w)::P.zip vs) m x=_;unfold bindL;exact QJ (i:=i) (L4.mp c).2 (by simpa using b) (by simpa using a) d
theorem QK{kindOf:_A->_t ę}{v:_j}:∀{P:_b _A}{vs:_b _j}{i:_d}{m:_A->_t _j},P.Nodup->P[i]? = _a x->vs[i]? = _a v->kindOf x≠_a .local ->
  bindC kindOf (P.zip vs) m x=_a v
 |[],_,_,_,_,h,_,_=>by simp at h
 |_::_,[],_,_,_,_,h,_=>by simp at h
 |p::P,w::vs,0,m,c,b,a,d=>by
  simp at b a;subst b;subst a;show bindC kindOf ((p,w)::P.zip vs) m p=_;unfold bindC;rw[QQ λv e=>(fR.mp c).1 (Ľ e).1,_l d];simp
 |p::P,w::vs,i+1,m,c,b,a,d=>by
  show bindC kindOf ((p,w)::P.zip vs) m x=_;unfold bindC;exact QK (i:=i) (L4.mp c).2 (by simpa using b) (by simpa using a) d
noncomputable def start(N:_b _A)(vs:_b V):St:=vs.map _a++Ü (N.length - vs.length) _n
def Mp(CX:YM)(P:Ð)(w:_O)(K:_s)(mg:_A->_t _j)(base:Θ)(N:_b _A)(qual:_A)(scope:Scope)(f:_g)(cd:_j)(A:ù)(outer:_b ŧ)(s:_C)(H:Hp)(E:XK):Cx where
 prog:=P
 w:=w
 K:=K
 mg:=mg
 base:=base
 A:=A.deeper<|envOfC qual scope s.heap.objs.size f cd
 N:=N
 s₀:=s
 H₀:=H
 env:=envOfC qual scope s.heap.objs.size f cd
 outer:=outer
 stack:=envOfC qual scope s.heap.objs.size f cd::outer
 ex:=[]
 calm:=_h
 fn:=λ_=>_h
 pn:=[]
 xe:=λe s'=>wpAny (_z P w) (A.deeper<|envOfC qual scope s.heap.objs.size f cd) (leaving (envOfC qual scope s.heap.objs.size f cd) e) (λ_ CD=>CX outer H s E e CD) (λe' CD=>CX outer H s E e' CD) s'
theorem Rt{a:Scope}(h:a.names.lookup x=_a .cell):∃c,(cellsFrom n a.names []).lookup x=_a c:=by
 have q:=P6 a.names n [] (.inl h);exact hX.mp q
theorem YF{CX:YM}{w:_O}{K:_s}{N ps:_b _A}{B:_j}{d:_b ŧ}{I:_C}{E:XK}
  (S:Aq N ps scope)(J:A.handled=_n)(j:Vm P w K mg base A d s H)(R:vs.length=ps.length)(r:Vals vs us)
  (x:InCallC s s.heap.objs.size (bindL (envOfC qual scope s.heap.objs.size f B).kindOf (ps.zip us) λ_=>_n) (cellsFrom (s.heap.objs.size+1) scope.names []) (bindC (envOfC qual scope s.heap.objs.size f B).kindOf (ps.zip us) λ_=>_n) I) :
  Inv (Mp CX P w K mg base N qual scope f B A d s H E) [] (start N vs) H I:=by
 have O:ps.length<=N.length:=by have:=congrArg Ρ S.pre;rw[cE] at this;lia
 obtain⟨D,tk,rfl,G⟩:=x.done;have m:∀b:_g,b ∉ (Mp CX P w K mg base N qual scope f B A d s H E).ex:=λb z=>_D (show b∈([]:_b _g) from z)<|by simp
 refine⟨⟨j.mod,S.kind,U,U,ai _,λy z c D g=>?_,λy l=>?_,λy c _ h=>?_,λ_=>J,Around.frames_deeper j.frames,.inr ⟨U,U⟩,λb z=>_D z<|m b,j.bs,j.bsz,λb _ _=>m b,λb z=>_D z<|m b,j.Lp,j.frf⟩,
  rfl,j.bare,Un.kept G,⟨_,x.toInCall.ns,λi y v D g Q=>?_⟩,λy c h=>⟨_,x.cell y c h⟩,j.hok.fresh<|Τ _,λy c h=>?_,λp t=>_D (show p∈([]:_b<|_g×ü) from t) (by simp),j.hok.kept G,?_⟩
 .exact name_of_addr x.apart (PySem.mem_of_lookup D)<|PySem.mem_of_lookup g
 .have l:scope.names.lookup y=_a .cell \/ scope.names.lookup y=_a .free:=l;rcases l with l | l
  .exact Rt l
  .exact _D U<|S.nofree _<|PySem.mem_of_lookup l
 .exact fh<|x.above y c<|PySem.mem_of_lookup h
 .have C:i<vs.length:=by
   unfold start at g;by_cases C:i<vs.length
   .exact C
   .rw[Ĩ (by simpa using C)] at g;rw[List.getElem?_replicate] at g;split at g <;> cases g
  have L:vs[i]? = _a v:=by
   unfold start at g;rw[õ (by simpa using C),ċ] at g
   cases e:vs[i]? with
   |none=>rw[e] at g;cases g
   |some a=>rw[e] at g;cases g;rfl
  obtain⟨u,F,M⟩:=r.get L;have t:ps[i]? = _a y:=by
   rw[<-S.pre,List.getElem?_take_of_lt<|by lia];exact D
  have o:ps.Nodup:=by rw[<-S.pre];exact S.nd.sublist<|EB _ _
  refine⟨u,M,?_⟩;rcases S.par y (am t) with k | k
  .exact .inl ⟨k,QJ o t F k⟩
  .obtain⟨c,e⟩:=Rt (n:=s.heap.objs.size+1) k;refine .inr ⟨.inl k,c,e,?_⟩;have q:=x.cell y c e;rw[QK o t F (by show scope.names.lookup y≠_;rw[k];decide)] at q;exact q
 .exact j.hok.fresh<|fh<|x.above y c<|PySem.mem_of_lookup h
 .unfold start;show _=N.length;rw[av,ah,kP];lia
theorem ZK{CX:YM}{w:_O}{K:_s}{k:_d}{name:_A}{c:_ac}{d:_b ĭ}{R kV M F h ct oc:_j}{C od:_t _g}
  {wb:_E (_t _j)}{N ps:_b _A}{sp:Sp}(lk:K.lookup f=_a ⟨oc,od,.func<|Ħ name qual c d scope R kV M F C h ct,wb⟩)(sM:ű K h qual=_h)(S:Aq N ps scope)
  (len:∀vs H Q E,sp vs H Q E->vs.length=ps.length)
  (pj:∀(A:ù)(a:_b ŧ)(s:_C)(H:Hp)(vs:_b V)(Q:VK)(E:XK),Df k (A.deeper<|envOfC qual scope s.heap.objs.size f h)->sp vs H Q E ->
   ∃t,Ra (Mp CX P w K mg base N qual scope f h A a s H E) d t/\t { nx:=λ_ H'=>Q .non H',rt:=Q } (start N vs) H) :
  Gu P w K mg base CX (k+1) f (Ħ name qual c d scope R kV M F C h ct) ps sp:=by
 refine⟨len,λA a s H O T vs Q E z j Z r G=>?_⟩;have hl:=len _ _ _ _ G;have L:K.In s.heap:=j.mod.kin.keeps λb o e=>(j.bs b o e).1;have m:s.heap.NoLimit:=j.mod.nolimit.keeps λb o e=>(j.bs b o e).1;have g:∀y∈ps.zip T,scope.names.lookup y.1=_a .local \/ (scope.names.lookup y.1=_a .cell/\((cellsFrom (s.heap.objs.size+1) scope.names []).lookup y.1).isSome=_h):=λ⟨n,v⟩ X=>by
  rcases S.par n (Ľ X).1 with q | q
  .exact .inl q
  .exact .inr ⟨q,P6 _ _ _<|.inl q⟩
 refine codeAny_call_function z.depth (L _ _ lk) U S.co S.gen U (W.codeRec_of L sM)<|Z _ _ _ _ ?_
 refine wpAny_newFunctionEnv_cells S.kind g λaa Y D x=>?_;subst Y;refine⟨m.keeps x.toInCall.keep,codeAny_func ?_⟩;obtain⟨t,ht,hq⟩:=pj A a s H vs Q E (z.deeper _) G;have I:Inv (Mp CX P w K mg base N qual scope f h A a s H E) [] (start N vs) H D:=YF S z.hd j hl r x;refine ν (ht [] D (start N vs) H _ I hq) (λfl p i=>?_) λe p i=>i;have fin:∀{l:St}{H':Hp}{v:V}{u:_j},Inv (Mp CX P w K mg base N qual scope f h A a s H E) [] l H' p->RelV v u->Q v H'->CE a P w H s Q u p :=
  λ{l H' v u} J B q=>⟨v,H',J.os,J.bare,J.base,J.hok,B,q⟩
 cases fl with
 |ret u =>
  obtain⟨v,l,H',J,B,q⟩:=i;exact fin J B q
 |next =>
  obtain⟨l,H',J,q⟩:=i;exact fin (v:=V.non) (u:=_J) J U q
 |brk =>
  obtain⟨_,_,_,q⟩:=i;exact Ν q
 |cont =>
  obtain⟨_,_,_,q⟩:=i;exact Ν q
section
variable{p:ĵ}{e:Expr}{t:TA}{id T:è}{r:_b V->Hp->VK->Prop}
abbrev tCB(r:_b V->Hp->VK->Prop)(t:TA):TE:=λσ H Q=>t σ H λvs H1=>r vs H1 Q
theorem A_(l:Eo X (.builtin id) r)(j:Gl X x)(c:X.mg x=_n)(u:bootBuiltins x=_a (.builtin id))(o:PA X (e::es) t)(k:x≠"__name__":=by decide)(m:(x == ("__debug__" : _A))=false:=by decide)
  (g:starEach (e::es) X.env=(_r,eval e X.env)::starEach es X.env:=by rfl)(a:(backTo pos<|starEach es X.env).any (·.1)=false:=by rfl):PE X (.Call (.Name x p) (e::es) [] pos)<|tCB r t:=by
 intro b s σ H Q I h;refine ê<|H_ I j c u ?_ k m
 exact _at (CP (o pos b s σ H _ I h) λd i ⟨q,v,n,f,w⟩=>l b i σ v q d Q n f w) g a
theorem Dw(l:Eo X (.type T) r)(j:Gl X x)(c:X.mg x=_n)(u:bootBuiltins x=_a (.type T))(o:PA X (e::es) t)(k:x≠"__name__":=by decide)(m:(x == ("__debug__" : _A))=false:=by decide)
  (g:starEach (e::es) X.env=(_r,eval e X.env)::starEach es X.env:=by rfl)(a:(backTo pos<|starEach es X.env).any (·.1)=false:=by rfl):PE X (.Call (.Name x p) (e::es) [] pos)<|tCB r t:=by
 intro b s σ H Q I h;refine ê<|H_ I j c u ?_ k m
 exact Å (CP (o pos b s σ H _ I h) λd i ⟨q,v,n,f,w⟩=>l b i σ v q d Q n f w) g a
end
section
variable{κ:Type}[Ķ κ]
def Cv(kvs:_b<|κ×V)(k:κ):_t V:=(kvs.find? λkv=>decide (kv.1=k)).map (·.2)
noncomputable def putK(kvs:_b<|κ×V)(k:κ)(v:V):_b (κ×V) :=
 if (kvs.any λkv=>decide (kv.1=k))=_h then kvs.map (λkv=>if kv.1=k then (kv.1,v) else kv) else kvs++[(k,v)]
theorem Dh{p:κ×V}{r:_b (κ×V)}{k:κ}(e:p.1=k):Cv (p::r) k=_a p.2:=by simp[Cv,þ,e]
theorem DY{p:κ×V}{r:_b (κ×V)}{k:κ}(e:¬ p.1=k):Cv (p::r) k=Cv r k:=by simp[Cv,þ,e]
theorem Fw(k:κ):∀kvs:_b<|κ×V,(kvs.any λkv=>decide (kv.1=k))=(Cv kvs k).isSome
 |[]=>rfl
 |p::r=>by
  rw[mi];by_cases e:p.1=k
  .simp only[Dh e,_v e,Bool.true_or,Option.isSome_some]
  .rw[DY e,_L e,Bool.false_or];exact Fw k r
theorem Rj(k j:κ)(y:V):∀kvs:_b<|κ×V,Cv (kvs.map λkv=>if kv.1=k then (kv.1,y) else kv) j=(Cv kvs j).map λx=>if j=k then y else x
 |[]=>rfl
 |p::r=>by
  have a:=Rj k j y r;rw[df];by_cases h:p.1=k
  .rw[_o h];by_cases e:p.1=j
   .rw[Dh (p:=(p.1,y)) e,Dh e,mw,_o<|e.symm.trans h]
   .rw[DY (p:=(p.1,y)) e,DY e,a]
  .rw[_l h];by_cases e:p.1=j
   .rw[Dh (p:=p) e,Dh e,mw,_l<|λz=>h<|e.trans z]
   .rw[DY (p:=p) e,DY e,a]
theorem Gx(k j:κ)(y:V):∀kvs:_b<|κ×V,Cv kvs k=_n->Cv (kvs++[(k,y)]) j=if j=k then _a y else Cv kvs j
 |[],_=>by
  by_cases e:k=j
  .rw[_o e.symm];exact Dh (p:=(k,y)) e
  .rw[_l (λz=>e z.symm)];exact DY (p:=(k,y)) e
 |p::r,a=>by
  rw[List.cons_append];have b:¬ p.1=k:=λz=>by rw[Dh z] at a;cases a
  rw[DY b] at a;have c:=Gx k j y r a;by_cases e:p.1=j
  .rw[Dh e,Dh e,_l<|λz=>b<|e.trans z]
  .rw[DY e,DY e,c]
theorem SJ(kvs:_b<|κ×V)(k j:κ)(y:V):Cv (putK kvs k y) j=if j=k then _a y else Cv kvs j:=by
 unfold putK;by_cases a:(kvs.any λc=>decide (c.1=k))=_h
 .rw[_o a,Rj];rw[Fw] at a;by_cases e:j=k
  .obtain⟨x,b⟩:=hX.mp a;rw[_o e,e,b,mw,_o U]
  .rw[_l e]
   cases Cv kvs j with
   |none=>rfl
   |some x=>rw[mw,_l e]
 .rw[_l a];refine Gx k j y kvs ?_;rw[Fw] at a
  cases q:Cv kvs k with
  |none=>rfl
  |some x=>rw[q] at a;exact (a U).elim
theorem GP(kvs:_b<|κ×V)(k:κ)(v:V):(putK kvs k v).length<=kvs.length+1:=by
 unfold putK;split
 .rw[ah];lia
 .rw[av,zdl,mE];lia
theorem Zb{kvs:_b (κ×V)}{k:κ}(v:V)(h:Cv kvs k=_n):putK kvs k v=kvs++[(k,v)]:=by
 unfold putK;rw[Fw,h];exact _l<|by decide
theorem Gw.Lq{o:_t V}{u:_t _j}(r:Gw o u):o.isSome=u.isSome:=by
 cases o with
 |none=>cases u with
  |none=>rfl
  |some _=>exact (show Χ from r).elim
 |some _=>cases u with
  |none=>exact (show Χ from r).elim
  |some _=>rfl
theorem Gw.getD{o:_t V}{u:_t _j}{d:V}{d':_j}(r:Gw o u)(a:RelV d d'):RelV (o.getD d)<|u.getD d':=by
 cases o with
 |none=>cases u with
  |none=>exact a
  |some _=>exact (show Χ from r).elim
 |some _=>cases u with
  |none=>exact (show Χ from r).elim
  |some _=>exact r
theorem KV.val{kvs:_b (κ×V)}{vs:_b (κ×_j)}(r:KV kvs vs)(k:κ):Gw (Cv kvs k)<|valueAt vs k:=by
 unfold KV at r
 induction r with
 |nil=>exact Ψ
 | @cons p q ps c h t g =>
  obtain⟨d,f⟩:=h;by_cases e:p.1=k
  .have a:q.1=k:=d.symm.trans e;have b:valueAt (q::c) k=_a q.2:=by simp[valueAt,þ,a]
   rw[Dh e,b];exact f
  .have a:¬ q.1=k:=λz=>e<|d.trans z
   have b:valueAt (q::c) k=valueAt c k:=by simp[valueAt,þ,a]
   rw[DY e,b];exact g
theorem KV.any{kvs:_b (κ×V)}{vs:_b (κ×_j)}(r:KV kvs vs)(k:κ):(kvs.any λkv=>decide (kv.1=k))=vs.any λkv=>decide (kv.1=k):=by
 unfold KV at r
 induction r with
 |nil=>rfl
 |cons h t a=>rw[mi,mi,a,h.1]
theorem KV.repl{kvs:_b (κ×V)}{vs:_b (κ×_j)}(r:KV kvs vs)(k:κ)(c:RelV y u) :
  KV (kvs.map λkv=>if kv.1=k then (kv.1,y) else kv) (vs.map λkv=>if kv.1=k then (kv.1,u) else kv):=by
 unfold KV at r |-
 induction r with
 |nil=>exact .nil
 | @cons p q ps f h t b =>
  rw[df,df];refine .cons ?_ b;obtain⟨a,d⟩:=h;by_cases e:p.1=k
  .rw[_o e,_o<|a.symm.trans e];exact⟨a,c⟩
  .rw[_l e,_l<|λz=>e<|a.trans z];exact⟨a,d⟩
theorem KV.put{kvs:_b (κ×V)}{vs:_b (κ×_j)}(r:KV kvs vs)(k:κ)(a:RelV y u):KV (putK kvs k y)<|stored vs k u:=by
 unfold putK stored;rw[r.any k];by_cases e:(vs.any λb=>decide (b.1=k))=_h
 .rw[_o e,_o e];exact r.repl k a
 .rw[_l e,_l e];exact Paired.snoc r ⟨U,a⟩
theorem KV.length{kvs:_b (κ×V)}{vs:_b (κ×_j)}(r:KV kvs vs):kvs.length=vs.length:=Paired.length r
end
variable{sp:Sp}
theorem Mh{w:_O}{k:Key}(r:RelV (kV k) u):(CN P w).is k u=true:=by
 cases k with
 |inl i=>obtain⟨t,e⟩:=(show ∃t,u=Ζ i t from r);subst e;exact TY P w i t
 |inr x=>obtain⟨t,e⟩:=(show ∃t,u=į x t from r);subst e;exact Te P w x t
theorem P_{w:_O}:∀{ks:_b Key}{us:_b _j},Vals (ks.map kV) us->ItemsAre (CN P w) ks us
 |[],_,r=>by rw[nB] at r;cases r;exact .nil
 |k::ks,_,r=>by
  rw[df] at r
  cases r with
  |cons h t=>exact .cons (Mh h)<|P_ t
abbrev KT(H:Hp):_b (_b Key×V)->_b (_b Key×_g×_j)->Prop:=Paired λp q=>p.1=q.1/\H q.2.1=_a (.tup<|p.1.map kV)/\RelV p.2 q.2.2
theorem KT.val{kvs:_b (_b Key×V)}{xs:_b (_b Key×_g×_j)}(r:KT H kvs xs)(k:_b Key):Gw (Cv kvs k) ((atKey xs k).map (·.2)):=by
 induction r with
 |nil=>exact Ψ
 | @cons p q ps c h t g =>
  obtain⟨d,_,f⟩:=h;by_cases e:p.1=k
  .have a:q.1=k:=d.symm.trans e;have b:atKey (q::c) k=_a q.2:=by simp[atKey,þ,a]
   rw[Dh e,b];exact f
  .have a:¬ q.1=k:=λz=>e<|d.trans z
   have b:atKey (q::c) k=atKey c k:=by simp[atKey,þ,a]
   rw[DY e,b];exact g
theorem KT.repl{kvs:_b (_b Key×V)}{xs:_b (_b Key×_g×_j)}(r:KT H kvs xs)(k:_b Key)(f:RelV y u) :
  KT H (kvs.map λkv=>if kv.1=k then (kv.1,y) else kv) (xs.map<|putAt k u):=by
 induction r with
 |nil=>exact .nil
 | @cons p q ps g h t d =>
  rw[df,df];refine .cons ?_ d;obtain⟨a,b,c⟩:=h;unfold putAt;by_cases e:p.1=k
  .rw[_o e,_o<|a.symm.trans e];exact⟨a,b,f⟩
  .rw[_l e,_l<|λz=>e<|a.trans z];exact⟨a,b,c⟩
theorem KT.put{kvs:_b (_b Key×V)}{xs:_b (_b Key×_g×_j)}(r:KT H kvs xs)(k:_b Key)(c:H b=_a (.tup<|k.map kV))(a:RelV y u) :
  KT H (putK kvs k y) (storedH xs k b u):=by
 have e:(kvs.any λd=>decide (d.1=k))=(atKey xs k).isSome:=by
  rw[Fw,(r.val k).Lq,AS]
 unfold putK storedH;rw[e];by_cases q:(atKey xs k).isSome=_h
 .rw[_o q,_o q];exact r.repl k a
 .rw[_l q,_l q];exact Paired.snoc r ⟨U,c,a⟩
theorem KT.keeps{kvs:_b (_b Key×V)}{xs:_b (_b Key×_g×_j)}(r:KT H kvs xs)(a:∀b ys,H b=_a (.tup ys)->H' b=_a (.tup ys)):KT H' kvs xs :=
 Paired.Em r λ_ _ z=>⟨z.1,a _ _ z.2.1,z.2.2⟩
section
variable{w:_O}
theorem lE{u:HO}(ok:Fe P w H h)(e:Rd H a u):Cd P w H h a u:=e.ok ok
theorem QR(ok:Fe P w H h)(e:Rd H a<|.dK kvs):kvs.length<=sizeLine/\(a == sysModules)=_r/\∃vs,KV kvs vs/\h.DictOf (CN P w) a vs :=
 show Cd P w H h a (.dK kvs) from lE ok e
theorem W0(ok:Fe P w H h)(e:H a=_a (.dK kvs)):kvs.length<=sizeLine/\(a == sysModules)=_r/\∃vs,KV kvs vs/\h.DictOf (CN P w) a vs:=QR ok<|.inl e
theorem Nz{c:_b Key}(ok:Fe P w H h)(e:H a=_a (.tup<|c.map kV)):(tupleKind<|CN P w).is h c a:=by
 obtain⟨_,b,r,o,f,g,n,d⟩:=(show Cd P w H h a (.tup<|c.map kV) from ok a _ e);exact⟨o,b.toArray,n,f,g,d,by simpa using P_ r⟩
theorem QW{kvs:_b (_b Key×V)}(ok:Fe P w H h)(e:Rd H a<|.dT kvs):kvs.length<=sizeLine/\(a == sysModules)=_r /\
  ∃xs,KT H kvs xs/\h.DictOfH (tupleKind<|CN P w) a xs:=by
 obtain⟨z,y,xs,r,o,f,d,s,i,j,n,g⟩:=(show Cd P w H h a (.dT kvs) from lE ok e);refine⟨z,y,xs,r,o,f,d,s,i,j,n,λx b=>?_,g⟩;have all:∀{l:_b (_b Key × V)}{m:_b (_b Key × _g × _j)},KT H l m->∀x∈m,(tupleKind<|CN P w).is h x.1 x.2.1:=by
  intro l m q
  induction q with
  |nil=>intro x b;exact nomatch b
  | @cons p q ps u c t k =>
   intro x b;rcases bq.mp b with e | b
   .subst e;exact Nz ok<|by rw[<-c.1];exact c.2.1
   .exact k x b
 exact all r x b
theorem uI{kvs:_b (_b Key×V)}(ok:Fe P w H h)(e:H a=_a (.dT kvs)):kvs.length<=sizeLine/\(a == sysModules)=_r /\
  ∃xs,KT H kvs xs/\h.DictOfH (tupleKind<|CN P w) a xs:=QW ok<|.inl e
end
def Gf(H:Hp)(a:_g)(y:V)(r:_t V):Prop :=
 (∃kvs k,Rd H a (.dK kvs)/\y=kV k/\r=Cv kvs k) \/ ∃kvs k b,Rd H a (.dT kvs)/\y=.ref b/\H b=_a (.tup<|k.map kV)/\r=Cv kvs k
def Ux(H:Hp)(a:_g)(y v:V)(H':Hp):Prop :=
 (∃kvs k,H a=_a (.dK kvs)/\y=kV k/\kvs.length<sizeLine/\H'=upd H a (.dK<|putK kvs k v)) \/
 ∃kvs k b,H a=_a (.dT kvs)/\y=.ref b/\H b=_a (.tup<|k.map kV)/\kvs.length<sizeLine/\H'=upd H a (.dT<|putK kvs k v)
theorem Gf.k{k:Key}(e:H a=_a (.dK kvs)):Gf H a (kV k)<|Cv kvs k:=.inl ⟨kvs,k,.inl e,U,U⟩
theorem Ux.k{k:Key}{v:V}(e:H a=_a (.dK kvs))(b:kvs.length<sizeLine):Ux H a (kV k) v<|upd H a<|.dK<|putK kvs k v:=.inl ⟨kvs,k,e,U,b,U⟩
section
variable{v:V}{r:_j}{o:_t V}{E:vSP}
theorem Inv.big(I:Inv X b9 σ H s):sysModules<s.heap.objs.size:=by
 have h:mainGlobals<s.heap.objs.size:=(I.mod.glob.keeps I.bk).lt;exact iE (by decide) h
theorem X_(r:A.units+1<cLine)(I:Inv X b9 σ H s)(g:Gf H a y<|some v)(q:RelV y u)(h:∀w' s',Inv X b9 σ H s'->RelV v w'->Q w' s') :
  wpAny (_z X.prog X.w) A (getItem (.ref a) u) Q E s:=by
 rcases g with⟨f,k,e,i,l⟩ | ⟨f,k,b,e,i,w,l⟩
 .subst i;obtain⟨z,t,B,j,d⟩:=QR I.hok e;obtain⟨w',n,m⟩:=Gw.some_of (v:=v) (o:=valueAt B k)<|by rw[l];exact j.val k
  exact _ad (Mh q) d.mapOf n<|h w' _ (I.tok _) m
 .subst i
  cases (show u=_Q b from q);obtain⟨z,t,C,j,d⟩:=QW I.hok e;obtain⟨w',n,m⟩:=Gw.some_of (v:=v) (o:=(atKey C k).map (·.2))<|by rw[l];exact j.val k
  obtain⟨p,x,c⟩:=aS.mp n;refine wpAny_getItem_heap (Ĳ r) (Nz I.hok w) d x ?_;rw[c];exact h w' _ (I.tok _) m
theorem iK(n:A.units+1<cLine)(I:Inv X b9 σ H s)(g:Gf H a y o)(m:RelV y u)(h:∀s',Inv X b9 σ H s'->Q (.bool<|!o.isSome) s') :
  wpAny (_z X.prog X.w) A (compareOp .NotIn u<|.ref a) Q E s:=by
 rcases g with⟨d,k,e,f,l⟩ | ⟨d,k,b,e,f,p,l⟩
 .subst f;obtain⟨z,c,r,i,j⟩:=QR I.hok e;refine _aQ (Mh m) c j.mapOf ?_;rw[<-(i.val k).Lq,<-l];exact h _<|I.tok _
 .subst f
  cases (show u=_Q b from m);obtain⟨z,c,t,i,j⟩:=QW I.hok e;refine wpAny_notIn_heap (Ĳ n) (Nz I.hok p) c j ?_;have q:=(i.val k).Lq;rw[AS] at q;rw[<-q,<-l];exact h _<|I.tok _
theorem Ky{t':_d}{ob:HO}(I:Inv X b9 σ H s)(d:xr<|H a)(h:Á a s.heap h')(f:∃q,h'.get? a=_a q)(c:Cd X.prog X.w (upd H a ob) h' a ob) :
  Inv X b9 σ (upd H a ob) { s with heap:=h',toks:=t' } :=
 I.write (x:=a) (e:=a) d (.inl U) (λb q g z=>(h.2 b g).trans z) f c
theorem Q0{w:_O}{vs:_b (Key×_j)}(z:kvs.length<=sizeLine)(c:(a == sysModules)=_r)(b:KV kvs vs)(dd:h'.DictOf (CN P w) a vs) :
  Cd P w H' h' a (.dK kvs):=⟨z,c,vs,b,dd⟩
theorem XF{Q:LU->_C->Prop}(K:A.units+1<cLine)(I:Inv X b9 σ H s)(g:Ux H a y v H')(C:RelV y u)(F:RelV v r)(h:∀s',Inv X b9 σ H' s'->Q () s') :
  wpAny (_z X.prog X.w) A (setItem (.ref a) u r) Q E s:=by
 rcases g with⟨d,k,e,x,l,n⟩ | ⟨d,k,b,e,x,B,l,n⟩
 .subst x n;obtain⟨z,m,O,f,o⟩:=W0 I.hok e;have p:O.length<=sizeLine:=by rw[<-f.length];exact z
  have w:(putK d k v).length<=sizeLine:=by have:=GP d k v;lia
  refine wpAny_setItem_pairs (hsz:=p) (Mh C) o λD j t=>h _ ?_;have J:∃q,D.get? a=_a q:=let ⟨q,_,_,i,_⟩:=j;⟨q,i⟩;exact Ky I (by rw[e];exact Ψ) t J<|Q0 w m (f.put k F) j
 .subst x n
  cases (show u=_Q b from C);obtain⟨z,m,R,f,o⟩:=uI I.hok e;have p:R.length<=sizeLine:=by rw[<-Paired.length f];exact z
  have w:(putK d k v).length<=sizeLine:=by have:=GP d k v;lia
  refine wpAny_setItem_heap (hsz:=p) (Ĳ K) (Nz I.hok B) o λD j t=>h _ ?_;obtain⟨q,L,S,i,T,M,N,_,P⟩:=j;refine Ky I (by rw[e];exact Ψ) t ⟨q,i⟩ ⟨w,m,_,(f.put k B F).keeps λc V G=>?_,q,L,S,i,T,M,N,P⟩;rw[An (Kh G e (λz=>nomatch z))];exact G
end
def mz(i:Expr):Prop:=∀ov iv,subscripted i _r ov iv=operate [ov,iv] (getItem ov iv)
theorem W6{w:_O}{E:vSP}{c:ŧ}{b a:Expr}{T id:è}
  (l:typeLookup (.type T) "__getitem__" = pure (_a<|.builtin id))(j:mz a)
  (h:wpAny (_z prog w) A (eval b c) (λo s₁=>wpAny (_z prog w) A (eval a c) (λi s₂=>s₂.TypeIs o T/\wpAny (_z prog w) A (getItem o i) Q E s₂) E s₁) E s) :
  wpAny (_z prog w) A (eval (.Subscript b a pos) c) Q E s:=by
 refine Ų<|ν h (λo s₁ g=>ν g (λi s₂ d=>?_) λ_ _ x=>x) λ_ _ x=>x
 obtain⟨f,d⟩:=d;unfold subscriptTail;refine _c ?_;rw[getitemInPython_of_ne f.not_modules];refine _c<|_au f l ?_
 have fin:wpAny (_z prog w) A (subscripted a _r o i) (λr e=>wpAny (_z prog w) A (letTemporaryGo b o r >>= λ_=>pure r) Q E e) E s₂:=by
  rw[j o i];exact wpAny_operating<|ν d (λr e k=>_c<|wpAny_letTemporaryGo<|_k k) λ_ _ x=>x
 first
  | exact _k (_c fin)
  | exact _c (_k (_c fin))
  | exact _c fin
theorem Tq{o:_t V}(I:Inv X b9 σ H s)(g:Gf H a y o):s.TypeIs (.ref a) "dict":=by
 rcases g with⟨c,k,e,_,_⟩ | ⟨c,k,b,e,_,_,_⟩
 .obtain⟨_,_,f,_,d⟩:=QR I.hok e;exact d.typeIs
 .obtain⟨_,_,h,_,d⟩:=QW I.hok e;exact d.typeIs
inductive ZX(Q:VK)(a:_g)(y:V)(H2:Hp):Prop
|mk(v:_)(_:Gf H2 a y (_a v))(_:Q v H2)
abbrev xT(td ty:TE):TE:=λσ H Q=>td σ H λx H1=>ty σ H1 λy=>Jz (λa H2=>ZX Q a y H2) x
inductive Tn(Q:VK)(y:V)(a:_g)(H2:Hp):Prop
|mk(o:_)(_:Gf H2 a y o)(_:Q (.bl (!o.isSome)) H2)
abbrev jd(ty td:TE):TE:=λσ H Q=>ty σ H λy H1=>td σ H1<|Jz λa H2=>Tn Q y a H2
inductive Zz(D:Ends)(σ:St)(v:V)(a:_g)(y:V)(H3:Hp):Prop
|mk(H4:_)(_:Ux H3 a y v H4)(_:D.nx σ H4)
abbrev tZ(td ty tv:TE):TS:=λD σ H=>tv σ H λv H1=>td σ H1 λx H2=>ty σ H2 λy=>Jz (λa H3=>Zz D σ v a y H3) x
section
variable{o i e value:Expr}{rg rf:ĵ}{td ty tv:TE}
theorem Hf(k:X.A.units+1<cLine)(t:PE X o td)(hi:PE X i ty)(e:mz i):PE X (.Subscript o i pos)<|xT td ty:=by
 intro c s σ H Q I h;refine W6 ky e<|CP (t c s σ H _ I h) λu f ⟨x,z,q,r,n⟩=>CP (hi c f σ z _ q n) λD B l=>?_
 obtain⟨y,j,b,w,p⟩:=l;obtain⟨a,rfl,v,g,d⟩:=Jz.e p;obtain rfl:u=_Q a:=r;exact⟨Tq b g,X_ k b g w λE C m A=>⟨v,j,m,A,d⟩⟩
theorem X8(j:X.A.units+1<cLine)(hi:PE X i ty)(q:PE X o td):PC X .NotIn i o<|jd ty td:=by
 intro b s σ H Q I h;refine CP (hi b s σ H _ I h) λA d ⟨y,t,n,r,v⟩=>CP (q b d σ t _ n v) λu w k=>?_;obtain⟨x,e,f,p,m⟩:=k;obtain⟨a,rfl,ov,g,c⟩:=Jz.e m;obtain rfl:u=_Q a:=p;exact iK j f g r λz l=>⟨.bl<|!ov.isSome,e,l,U,c⟩
theorem Q_(k:X.A.units+1<cLine)(C:PE X o td)(hi:PE X i ty)(E:PE X value tv)(p:swapsWith value (_a<|.Subscript o i rg) pos.line X.env=pure _r) :
  PS X (.Assign [.Subscript o i rg] value pos) (tZ td ty tv):=by
 intro b s σ H D I h;refine wpAny_Assign_Subscript (CP (E b s σ H _ I h) λr e ⟨v,F,z,A,G⟩=>CP (C b e σ F _ z G) λu w ⟨x,q,j,B,c⟩=>CP (hi b w σ q _ j c) λK M ⟨y,J,t,n,l⟩=>?_) p;obtain⟨a,rfl,m,g,d⟩:=Jz.e l;obtain rfl:u=_Q a:=B;exact XF k t g n A λL f=>⟨σ,m,f,d⟩
end
theorem Tj{w:_O}(h:Θ)(a:sysModules<h.objs.size):Cd P w H (h.push { cls:=.type "dict",data:=.dict #[] }) h.objs.size (.dK []) :=
 ⟨cK _,à.mpr<|_T<|cf a,[],.nil,Heap.DictOf.new h⟩
abbrev pW:TE:=λ_ H Q=>∀p,H p=_n->Q (.ref p) (upd H p<|.dK [])
theorem Iu:PE X (.Dict [] [] pos) pW:=λb s σ H Q I h =>
 wpAny_Dict_empty ⟨.ref s.heap.objs.size,_,I.laid (a:=s.heap.objs.size) (o:=.dK []) (t':=s.toks) (λ_ _ q=>_e _ q) (ai _)<|Tj s.heap I.big,U,h _<|I.hok.fresh<|ai _⟩
def Vf:_b (TE×TE)->St->Hp->(_b (V×V)->Hp->Prop)->Prop
 |[],_,H,Q=>Q [] H
 |(tk,tv)::r,σ,H,Q=>tk σ H λx H1=>tv σ H1 λy H2=>Vf r σ H2 λps H3=>Q ((x,y)::ps) H3
abbrev VV:_b (V×V)->_b (_j×_j)->Prop:=Paired λp q=>RelV p.1 q.1/\RelV p.2 q.2
def yd(X:Cx)(pos:ĵ)(sR:_b<|_t Expr)(sw:_b Expr)(AB:_b<|TE×TE):Prop :=
 ∀(b9:_b<|_g × ü)(s:_C)(σ:St)(H:Hp)(Q:_b (V × V)->Hp->Prop),Inv X b9 σ H s->Vf AB σ H Q ->
  wpAny (_z X.prog X.w) X.A (evalPairs<|pairTrees sR sw X.env pos) (λvs s'=>∃ps H',Inv X b9 σ H' s'/\VV ps vs/\Q ps H') X.xe s
theorem eE:yd X pos [] [] []:=λa s σ H Q I h=>pairTrees_nil_walk ⟨[],H,I,.nil,h⟩
theorem N5{k v:Expr}{d:_b (_t Expr)}{vs:_b Expr}{tk b:TE}{c:_b (TE×TE)}(n:PE X k tk)(z:PE X v b)(p:yd X pos d vs c) :
  yd X pos (_a k::d) (v::vs) ((tk,b)::c):=λa s σ H Q I h =>
 pairTrees_cons_walk (CP (n a s σ H _ I h) λu g ⟨x,A,t,w,B⟩=>CP (z a g σ A _ t B) λC r ⟨y,o,i,l,e⟩ =>
  CP (p a r σ o _ i e) λD E ⟨ps,j,q,m,f⟩=>⟨(x,y)::ps,j,q,.cons ⟨w,l⟩ m,f⟩)
def Gk(kvs more:_b<|Key×V):_b<|Key×V:=more.foldl (λi7 kv=>putK i7 kv.1 kv.2) kvs
theorem KV.merge:∀{more:_b (Key × V)}{rs:_b (Key × _j)}{kvs:_b (Key × V)}{vs:_b (Key × _j)},KV more rs->KV kvs vs->KV (Gk kvs more) (merged vs rs):=by
 intro more rs kvs vs r;unfold KV at r
 induction r generalizing kvs vs with
 |nil=>intro q;exact q
 | @cons p q ps c h t a =>
  intro b;have e:KV (putK kvs p.1 p.2)<|stored vs q.1 q.2:=by
   have:=b.put p.1 h.2;rw[<-h.1];exact this
  exact a e
theorem Jc:∀(more kvs:_b<|Key × V),(Gk kvs more).length<=kvs.length+more.length
 |[],kvs=>by show kvs.length<=kvs.length+0;lia
 |p::r,kvs=>by
  have a:=Jc r<|putK kvs p.1 p.2
  have b:=GP kvs p.1 p.2;show (Gk (putK kvs p.1 p.2) r).length<=_;rw[zdl];lia
theorem Ng{w:_O}:∀{kvs:_b (Key × V)}{ws:_b (_j × _j)},VV (kvs.map λkv=>(kV kv.1,kv.2)) ws->∃rs,Carries (CN P w) ws rs/\KV kvs rs
 |[],_,r=>by rw[nB] at r;cases r;exact⟨[],Ψ,.nil⟩
 |p::kvs,_,r=>by
  rw[df] at r
  cases r with
  | @cons a b f bs h t =>
   obtain⟨rs,c,q⟩:=Ng (w:=w) t;obtain⟨e,d⟩:=b;exact⟨(p.1,d)::rs,⟨Mh h.1,U,c⟩,.cons ⟨U,h.2⟩ q⟩
abbrev tO(AB:_b<|TE×TE):TE:=λσ H Q=>∀p,H p=_n->Vf AB σ (upd H p<|.dK []) λps H2=>H2 p=_a (.dK [])/\∃kvs:_b<|Key×V,ps=kvs.map (λkv=>(kV kv.1,kv.2))/\kvs.length<=15/\Q (.ref p) (upd H2 p<|.dK<|Gk [] kvs)
theorem eV{b:_b (_t Expr)}{f:_b Expr}{i:_b (TE×TE)}(h:yd X pos b f i)(G:b.all (·.isSome)=_h)(J:b.length=f.length)(t:b≠[])
  (n:b.length<=15):PE X (.Dict b f pos)<|tO i:=by
 intro u s σ H Q I q;have m:=I.hok.fresh<|ai s.heap.objs.size
 have K:=I.laid (a:=s.heap.objs.size) (o:=.dK []) (h':=s.heap.push { cls:=.type "dict",data:=.dict #[] }) (t':=s.toks) (λ_ _ q=>_e _ q) (ai _)<|Tj s.heap I.big
 refine wpAny_Dict_walk (knd:=CN X.prog X.w) G J t n<|CP (h u _ σ _ _ K<|q _ m) λN O p=>?_
 obtain⟨ps,M,g,v,e,d,D,R,k⟩:=p;subst D;obtain⟨F,c,rk⟩:=Ng (P:=X.prog) (w:=X.w) v;obtain⟨z,r,x,y,A⟩:=W0 g.hok e
 cases y;refine⟨F,c,A,λh' j B=>⟨.ref s.heap.objs.size,_,?_,U,k⟩⟩;have C:(Gk [] d).length<=sizeLine:=by
  have L:=Jc d [];rw[mE] at L;rw[ĥ];lia
 have l:∃q,h'.get? s.heap.objs.size=_a q:=let ⟨q,_,_,E,_⟩:=j;⟨q,E⟩;exact Ky g (by rw[e];exact Ψ) B l<|Q0 C r (rk.merge .nil) j
structure M1(X:Cx)(o:Expr)(m:_A)(k8:ĵ)(e:Expr)(k7:ĵ):Prop where
 base:attributeBase o m X.env (eval o X.env)=eval o X.env
 few:((backTo k7<|starEach [e] X.env).all (λx=>!x.1) && (backToKw k7<|keywordEach [] X.env).all (λx=>x.1.isSome)
  && decide (([e]:_b Expr).length+([]:_b w_).length+(if ([]:_b w_).isEmpty then 0 else 1)<30))=_h
 line:(k8.endLine == k7.line)=_h
 trees:backTo k7 (starEach [e] X.env)=[(_r,eval e X.env)]
structure M2(X:Cx)(o:Expr)(m:_A)(k8:ĵ)(e f:Expr)(k7:ĵ):Prop where
 base:attributeBase o m X.env (eval o X.env)=eval o X.env
 few:((backTo k7<|starEach [e,f] X.env).all (λx=>!x.1) && (backToKw k7<|keywordEach [] X.env).all (λx=>x.1.isSome)
  && decide (([e,f]:_b Expr).length+([]:_b w_).length+(if ([]:_b w_).isEmpty then 0 else 1)<30))=_h
 line:(k8.endLine == k7.line)=_h
 trees:backTo k7 (starEach [e,f] X.env)=[(_r,eval e X.env),(_r,eval f X.env)]
def yO(H:Hp)(a:_g):Prop:=(∃kvs,Rd H a<|.dK kvs) \/ ∃kvs,Rd H a<|.dT kvs
theorem Um(I:Inv X b9 σ H s)(d:yO H a) :
  s.TypeIs (.ref a) "dict" /\ (∀b,_Q a=.ref b->∃ob,s.heap.get? b=_a ob/\ob.dict=_n)/\(a == sysModules)=false:=by
 rcases d with⟨f,e⟩ | ⟨f,e⟩
 .obtain⟨_,h,k,_,c⟩:=QR I.hok e;refine⟨c.typeIs,λb q=>?_,h⟩
  cases q;obtain⟨ob,_,_,g,i,_⟩:=c;exact⟨ob,g,i.2.1⟩
 .obtain⟨_,h,j,_,c⟩:=QW I.hok e;refine⟨c.typeIs,λb q=>?_,h⟩
  cases q;obtain⟨ob,_,_,g,i,_⟩:=c;exact⟨ob,g,i.2.1⟩
section
variable{d:V}{r:_j}{o:_t V}{E:vSP}
theorem qQ(q:A.units+1<cLine)(I:Inv X b9 σ H s)(g:Gf H a y o)(p:RelV y u)(n:RelV d r)(h:∀w' s',Inv X b9 σ H s'->RelV (o.getD d) w'->Q w' s') :
  wpAny (_z X.prog X.w) A (call (.builtin "dict.get") [.ref a,u,r]) Q E s:=by
 rcases g with⟨i,k,e,j,l⟩ | ⟨i,k,b,e,j,t,l⟩
 .subst j;obtain⟨z,f,w,m,c⟩:=QR I.hok e;refine ż kQ c.typeIs PySem.F.entry_dict_get (PySem.F.args_dict_get_3 _ _ _) (meets_dict_get_default (CN X.prog X.w) a (Mh p) f r) ⟨_,c.mapOf,h _ _ (I.tok _) ?_⟩;rw[l];exact (m.val k).getD n
 .subst j
  cases (show u=_Q b from p);obtain⟨z,f,v,m,c⟩:=QW I.hok e;refine ż kQ c.typeIs PySem.F.entry_dict_get (PySem.F.args_dict_get_3 _ _ _) (meetsH_dict_get_default (tupleKind<|CN X.prog X.w) a b f r) ⟨Ĳ q,k,v,Nz I.hok t,c,h _ _ (I.tok _) ?_⟩;rw[l];exact (m.val k).getD n
end
inductive WL(ty tx:TE)(σ:St)(Q:VK)(x:V)(H1:Hp):Prop
|mk(a:_)(_:x=.ref a)(_:yO H1 a)(_:ty σ H1 λy H2=>tx σ H2 λz H3=>∃o,Gf H3 a y o/\Q (o.getD z) H3)
abbrev o6(td ty tx:TE):TE:=λσ H Q=>td σ H λx H1=>WL ty tx σ Q x H1
section
variable{o e f:Expr}{k7:ĵ}{td ty tx:TE}
theorem R5(t:X.A.units+1<cLine)(K:PE X o td)(j:PE X e ty)(E:PE X f tx)(m:M2 X o "get" k8 e f k7):PE X (.Call (.Attribute o "get" k8) [e,f] [] k7)<|o6 td ty tx:=by
 intro b s σ H Q I h;refine Ž m.base m.few m.line ko kQ PySem.F.type_dict_get<|CP (K b s σ H _ I h) λu n v=>?_
 obtain⟨x,M,c,J,a,l,d,w⟩:=v;subst l;obtain rfl:u=_Q a:=J;obtain⟨B,L,_⟩:=Um c d;refine⟨B,L,?_⟩;rw[m.trees];refine ß U (ï (Κ (CP (j b n σ M _ c w) λP F ⟨y,C,q,A,i⟩ =>
  Κ (CP (E b F σ C _ q i) λO T ⟨z,r,D,G,ov,g,k⟩=>æ ?_))))
 exact qQ t D g A G λR S p N=>⟨_,r,p,N,k⟩
end
end L2
variable{H H' H1 H2:L2.Hp}{X:L2.Cx}{i n j m t' ia hd:_d}{s:PySem.Shared}{σ:L2.St}{a C f b p dx d l aB aP aM it D:PySem.Addr}{A:PySem.Around}{pos k8 px:PySem.Pos}{x qual:PySem.Str}{h h' base:PySem.Heap}{b9:_b (PySem.Addr×PySem.Obj)}{prog P:PySem.Program}{Q:vSP}{te ta:L2.TE}{xs vs ys:_b L2.V}{u:PySem.Value}{c:_d->PySem.Str}{kvs:_b (L2.Key×L2.V)}{y:L2.V}{scope:PySem.Scope}{tt:L2.TT}{o:L2.HO}{es qc:_b PySem.Expr}{tg iter qA:PySem.Expr}{pz:_b _d}{us:_b PySem.Value}{mg:PySem.Str->_t PySem.Value}{fd:PySem.FuncData}{sp:L2.Sp}{st:PySem.Stmt}{t:_i}{fp:_b PySem.Addr}{ns:_b _i}{led:_V}
namespace HT
open PySem PyProof.Rows
section
variable{w:_O}{E:vSP}
noncomputable def Ew(n d:_d):_t _i->_d
 |none=>d
 |some v=>if v<0 then (v+(n:_i)).toNat else min v.toNat n
theorem bz(n d:_d):Ew n d _n=d:=rfl
theorem Q4(n d k:_d):Ew n d (_a (k:_i))=min k n:=by
 show (if (k:_i)<0 then ((k:_i)+(n:_i)).toNat else min (k:_i).toNat n)=min k n;rw[_l (by lia),aI]
theorem o8(n d:_d)(b:d<=n)(o:_t _i):Ew n d o<=n:=by
 cases o with
 |none=>exact b
 |some v =>
  show (if v<0 then (v+(n:_i)).toNat else min v.toNat n)<=n;by_cases a:v<0
  .rw[_o a];lia
  .rw[_l a];exact Nat.min_le_right _ _
theorem V4(v:_i)(n d:_d):(if v<0 then max (v+(n:_i)) 0 else min v (n:_i))=((Ew n d (_a v):_d):_i):=by
 show (if v<0 then max (v+(n:_i)) 0 else min v (n:_i))=(((if v<0 then (v+(n:_i)).toNat else min v.toNat n):_d):_i);by_cases a:v<0
 .simp only[_o a];lia
 .simp only[_l a];lia
theorem Vq(lo hi:_t _i)(n:_d):Ě lo hi 1 (n:_i)=(((Ew n 0 lo:_d):_i),((Ew n n hi:_d):_i)):=by
 have a:¬ ((1:_i)<0):=by lia
 unfold Ě;simp only[a,Ñ];refine Prod.ext ?_ ?_
 .cases lo with
  |none=>rfl
  |some v=>exact V4 v n 0
 .cases hi with
  |none=>rfl
  |some v=>exact V4 v n n
theorem Uh(i j:_d):ä (i:_i) (j:_i) 1=j - i:=by
 unfold ä;have a:(1:_i) > 0:=by lia
 simp only[a,ÿ,Int.ediv_one];split <;> lia
theorem O7{v:_j}{o:_t _i}{Q:_t _i->_C->Prop}(p:sf v o)(h:Q o s):wpAny (_z prog w) A (_ae v) Q E s:=by
 cases p with
 |none=>exact _aR h
 |int i t=>exact slicePart_int h
theorem MJ{e:_g}{d c:_j}{lo hi:_t _i}{Q:_i×_i×_d->_C->Prop}(i:s.heap.IsSliceOf e d c .none)(pl:sf d lo)(f:sf c hi)
  (h:Q (((Ew n 0 lo:_d):_i),1,Ew n n hi - Ew n 0 lo) s):wpAny (_z prog w) A (œ (.ref e)<|pure (n:_i)) Q E s:=by
 obtain⟨os,a,g,b⟩:=id i;unfold œ _af;refine _c<|_c<|υ a b (x:=d) U<|_c<|υ a b (x:=c) U<|_c<|υ a b (x:=.none) U<|_k ?_
 refine _c<|_aR ?_
 show wpAny _ _ (if ((1:_i) == 0)=_h then _ else _) _ _ s;rw[_l (by decide)];refine _c<|O7 pl<|_c<|O7 f<|_c<|_k ?_
 show wpAny _ _ (match Ě lo hi 1 (n:_i) with | (lo,hi)=>pure (lo,(1:_i),ä lo hi 1)) _ _ s;rw[Vq lo hi n];show wpAny _ _ (pure (((Ew n 0 lo:_d):_i),(1:_i),ä ((Ew n 0 lo:_d):_i) ((Ew n n hi:_d):_i) 1)) _ _ s;rw[Uh];exact _k h
theorem cJ(xs:_E _j)(i k:_d):((_B k).filterMap λ(m:_d)=>xs[((i:_i)+(m:_i) * 1).toNat]?).toArray=((xs.toList.drop i).take k).toArray:=by
 have e:(λ(m:_d)=>xs[((i:_i)+(m:_i) * 1).toNat]?)=λm=>xs[i+m]?:=by
  funext m;have:((i:_i)+(m:_i) * 1).toNat=i+m:=by lia
  rw[this]
 rw[e];have:=pick_run xs i k;rw[List.filterMap_map] at this;have a:((λx=>xs[x]?) ∘ λx=>i+x)=λm=>xs[i+m]?:=rfl;rw[a] at this;rw[this]
theorem KJ{t f:_g}{a:_E _j}{i j:_j}{lo hi:_t _i}(c:IsTup s.heap t a)(k:s.heap.IsSliceOf f i j .none)(pl:sf i lo)(l:sf j hi)
  (o:¬ (Ew a.size 0 lo=0/\Ew a.size a.size hi=a.size))
  (h:Q (.ref s.heap.objs.size) { s with heap:=s.heap.push { cls:=.type "tuple",data:=.seq ((a.toList.drop<|Ew a.size 0 lo).take<|Ew a.size a.size hi - Ew a.size 0 lo).toArray } })
  (hsz:a.size<=sizeLine):wpAny (_z prog w) A (getItem (.ref t)<|.ref f) Q E s:=by
 have b:sizeOk<|.seq ((a.toList.drop<|Ew a.size 0 lo).take<|Ew a.size a.size hi - Ew a.size 0 lo).toArray:=by
  show ((a.toList.drop<|Ew a.size 0 lo).take<|Ew a.size a.size hi - Ew a.size 0 lo).toArray.size<=sizeLine;rw[bp,cE,gz,_I];lia
 have u:Ew a.size a.size hi<=a.size:=o8 _ _ (ai _) hi;obtain⟨os,n,g,r⟩:=id k;have e:s.TypeIs (.ref f) "slice":=⟨os,n,g⟩;unfold getItem;try with_reducible refine π ?_
 first | refine _c (_k ?_) | skip
 refine _c<|wpAny_sequenceKey c.typeIs (by decide) ?_
 refine _c (Ξ (name:=Ø "__getitem__") c.typeIs û
  (Α û c.typeIs entry_tuple_getitem ?_<|args_tuple_getitem _ _))
 show wpAny _ _ (_ag (.ref t) >>= _) _ _ s;refine _c<|tupleItemsOf_ c ?_
 refine _c<|EJ e ?_
 rw[_o (by decide)];refine _c<|MJ k pl l ?_
 have d:¬ ((((Ew a.size 0 lo:_d):_i) == 0 && (1:_i) == 1 && (Ew a.size a.size hi - Ew a.size 0 lo) == a.size)=_h):=by
  intro q;rw[eI,eI] at q;have v:((Ew a.size 0 lo:_d):_i)=0:=eq_of_beq q.1.1;have p:Ew a.size a.size hi - Ew a.size 0 lo=a.size:=eq_of_beq q.2;exact o ⟨by lia,by lia⟩
 show wpAny _ _ (if (((Ew a.size 0 lo:_d):_i) == 0 && (1:_i) == 1 && (Ew a.size a.size hi - Ew a.size 0 lo) == a.size)=_h then _ else _) _ _ s;rw[_l d,cJ];first
  | exact _c (m:=ë _) (_X (_k ⟨_,rfl,_k h⟩) b)
  | exact _c (m:=ë _) (_X (_c (_k (_k ⟨_,rfl,_k h⟩))) b)
  | exact _c (_c (m:=ë _) (_X (_k (_k ⟨_,rfl,_k h⟩)) b))
  | exact _c (_c (m:=ë _) (_X (_k ⟨_,rfl,_k h⟩) b))
end
end HT
namespace L2
open PySem PySem.Spec PyProof.Rows
abbrev TO:=St->Hp->(_t _i->Hp->Prop)->Prop
def PO(X:Cx)(e:_t Expr)(t:TO):Prop :=
 ∀(b9:_b<|_g × ü)(s:_C)(σ:St)(H:Hp)(Q:_t _i->Hp->Prop),Inv X b9 σ H s->t σ H Q ->
  wpAny (_z X.prog X.w) X.A (evalPart e X.env) (λu s'=>∃o H',Inv X b9 σ H' s'/\sf u o/\Q o H') X.xe s
abbrev gG:TO:=λ_ H Q=>Q _n H
abbrev uQ(t:TE):TO:=λσ H Q=>t σ H<|MK λi=>Q<|some i
section
variable{e:Expr}{lo hi:_t Expr}{tl th:TO}{p2:ĵ}
theorem JQ:PO X _n gG:=by
 intro a s σ H Q I h;rw[_a4];exact _k ⟨_n,H,I,.none,h⟩
theorem Ej(h:PE X e te):PO X (_a e)<|uQ te:=by
 intro d s σ H Q I j;rw[_a5];refine CP (h d s σ H _ I j) λu k b=>?_;obtain⟨x,f,c,a,g⟩:=b;obtain⟨i,rfl,q⟩:=MK.e g;obtain⟨t,rfl⟩:=a;exact⟨_a i,f,c,.int i t,q⟩
def yl(X:Cx)(r:V->_t _i->_t _i->Hp->VK->Prop):Prop :=
 ∀(b9:_b<|_g × ü)(s:_C)(σ:St)(H:Hp)(x:V)(v vl vu:_j)(lo hi:_t _i)(sl:_g)(Q:VK),Inv X b9 σ H s->RelV x v->s.heap.IsSliceOf sl vl vu .none->sf vl lo->sf vu hi->r x lo hi H Q ->
  ∃T id,typeLookup (.type T) "__getitem__" = pure (_a<|.builtin id)/\s.TypeIs v T/\wpAny (_z X.prog X.w) X.A (getItem v<|.ref sl) (EP X b9 σ Q) X.xe s
abbrev tSl(r:V->_t _i->_t _i->Hp->VK->Prop)(te:TE)(tl th:TO):TE:=λσ H Q=>te σ H λx H1=>tl σ H1 λl H2=>th σ H2 λu H3=>r x l u H3 Q
theorem G7{r:V->_t _i->_t _i->Hp->VK->Prop}(D:yl X r)(k:PE X e te)(F:PO X lo tl)(y:PO X hi th):PE X (.Subscript e (.Slice lo hi _n p2) pos)<|tSl r te tl th:=by
 intro c s σ H Q I h;refine Ų<|CP (k c s σ H _ I h) λv o g=>?_
 obtain⟨x,K,J,B,L⟩:=g;refine wpAny_Slice<|CP (F c o σ K _ J L) λf G ⟨l,C,w,M,j⟩=>CP (y c G σ C _ w j) λd a g=>?_
 obtain⟨u,i,E,m,n⟩:=g;rw[_a4];refine _k ?_;have p:Inv X c σ i { a with heap:=a.heap.push { cls:=.type "slice",data:=.fields #[f,d,.none] } }:=E.kept (t':=a.toks) λb N q=>_e _ q;obtain⟨T,id,A,z,t⟩:=D c { a with heap:=a.heap.push { cls:=.type "slice",data:=.fields #[f,d,.none] } } σ i x v f d l u a.heap.objs.size Q p B (Heap.IsSliceOf.new ..) M m n;show wpAny (_z X.prog X.w) X.A (subscriptTail e (.Slice lo hi _n p2) v<|.ref a.heap.objs.size) (EP X c σ Q) X.xe { a with heap:=a.heap.push { cls:=.type "slice",data:=.fields #[f,d,.none] } };exact _aS (ops:=[.ref a.heap.objs.size,v]) z A t<|by with_unfolding_all rfl
noncomputable def HQ(xs:_b V)(lo hi:_t _i):_b V:=(xs.drop<|HT.Ew xs.length 0 lo).take<|HT.Ew xs.length xs.length hi - HT.Ew xs.length 0 lo
theorem Mf(xs:_b V)(lo hi:_t _i):(HQ xs lo hi).length<=xs.length:=by
 unfold HQ;rw[cE,gz];lia
inductive tG(K:_s)(x:V)(lo:_t _i)(hi:_t _i)(H:Hp)(Q:VK):Prop
|mk(a xs:_)(_:x=.ref a)(_:Fd K H a xs)(_:¬ (HT.Ew xs.length 0 lo=0/\HT.Ew xs.length xs.length hi=xs.length))(_:∀p,H p=_n->Q (.ref p) (upd H p (.tup (HQ xs lo hi))))
theorem qK:yl X<|tG X.K:=by
 intro w s σ H x v t y lo e u Q I l p m j h;obtain⟨a,d,rfl,k,n,q⟩:=h
 cases l;obtain⟨f,r,i,g⟩:=I.tuple k;have c:f.toArray.size=d.length:=by rw[bp];exact r.length.symm
 refine⟨"tuple",_,û.lookup,i.typeIs,?_⟩;refine HT.KJ i p m j (by rw[c];exact n) ?_<|by rw[c];exact g
 rw[c];refine⟨.ref s.heap.objs.size,_,I.laid (t':=s.toks) (o:=.tup<|HQ d lo e) (λb z q=>_e _ q) (ai _) ?_,U,q _<|I.hok.fresh<|ai _⟩;exact⟨bo (Mf d lo e) g,_,(r.drop<|HT.Ew d.length 0 lo).take<|HT.Ew d.length d.length e - HT.Ew d.length 0 lo,IsTup.new _ _⟩
end
def kj(n:_d)(i:_i):_t Nat:=if 0<=i then (if i<n then _a i.toNat else _n) else if -(n:_i)<=i then _a (i+n).toNat else _n
def TQ{α:Type}(xs:_b α)(i:_i):_t α:=(kj xs.length i).bind λj=>xs[j]?
theorem dW{i:_i}(h:kj n i=_a j):seqIndex? i n=_a j/\j<n /\ -(n:_i)<=i/\i<n:=by
 unfold kj at h;by_cases b:0<=i
 .rw[_o b] at h;by_cases a:i<n
  .rw[_o a] at h;have e:i.toNat=j:=_m h;exact⟨by rw[L7 b a,e],by lia,by lia,a⟩
  .rw[_l a] at h;cases h
 .rw[_l b] at h;by_cases a : -(n:_i)<=i
  .rw[_o a] at h;have e:(i+n).toNat=j:=_m h;exact⟨by rw[seqIndex_neg (by lia) a,e],by lia,a,by lia⟩
  .rw[_l a] at h;cases h
theorem Qj{α:Type}{xs:_b α}{i:_i}{v:α}(h:TQ xs i=_a v):∃j,seqIndex? i xs.length=_a j/\xs[j]? = _a v/\j<xs.length /\ -(xs.length:_i)<=i/\i<xs.length:=by
 unfold TQ at h
 cases e:kj xs.length i with
 |none=>rw[e] at h;cases h
 |some j =>
  rw[e] at h;obtain⟨d,b,a,c⟩:=dW e;exact⟨j,d,h,b,a,c⟩
theorem Aj{α:Type}{xs:_b α}{v:α}(h:xs[j]? = _a v):TQ xs (j:_i)=_a v:=by
 have a:j<xs.length:=(ag.mp h).1;have e:kj xs.length (j:_i)=_a j:=by
  unfold kj;rw[_o (by lia),_o<|by lia];simp
 unfold TQ;rw[e];exact h
def h_(b:Expr):Prop:=∀o i,subscripted b _r o i=operate [o,i] (getItem o i)
def sU(X:Cx)(r:R2):Prop :=
 ∀(value slice:Expr)(b9:_b<|_g × ü)(s:_C)(σ:St)(H:Hp)(x y:V)(v u:_j)(Q:VK),Inv X b9 σ H s->RelV x v->RelV y u->r x y H Q ->
  subscripted slice _r v u=operate [v,u] (getItem v u)->wpAny (_z X.prog X.w) X.A (subscriptTail value slice v u) (EP X b9 σ Q) X.xe s
def yQ(X:Cx)(id:è)(r:V->_b V->Hp->VK->Prop):Prop :=
 ∀(b9:_b<|_g × ü)(s:_C)(σ:St)(H:Hp)(x:V)(xs:_b V)(v:_j)(us:_b _j)(Q:VK),Inv X b9 σ H s->RelV x v->Vals xs us->r x xs H Q ->
  wpAny (_z X.prog X.w) X.A (call (.builtin id)<|v::us) (EP X b9 σ Q) X.xe s
section
variable{a b:Expr}{tb:TE}
theorem Av{r:R2}(g:sU X r)(j:PE X a ta)(e:PE X b tb)(c:h_ b):PE X (.Subscript a b pos)<|yL r ta tb:=by
 intro m s σ H Q I h;exact Ų<|oU j e I h λv u i x y d f k l q=>g a b m i σ d x y v u Q f k l q<|c _ _
inductive kh(K:_s)(p:_g)(i:_i)(H:Hp)(Q:VK):Prop
|mk(xs v:_)(_:Cp K H p xs)(_:TQ xs i=_a v)(_:Q v H)
abbrev uU(K:_s):R2:=λx y H Q=>Jz (λp=>MK (λi H=>kh K p i H Q) y) x H
inductive kO(K:_s)(p:_g)(i:_i)(H:Hp)(Q:VK):Prop
|mk(xs v:_)(_:Fd K H p xs)(_:TQ xs i=_a v)(_:Q v H)
abbrev xF(K:_s):R2:=λx y H Q=>Jz (λp=>MK (λi H=>kO K p i H Q) y) x H
inductive uF(x:V)(y:V)(H:Hp)(Q:VK):Prop
|mk(z i c:_)(_:x=.str z)(_:y=.int i)(_:z.length<=sizeLine)(_:TQ z.cps.toList i=_a c)(_:Q (.str ⟨#[c]⟩) H)
theorem Et:sU X<|uU X.K:=by
 intro d e k s σ H x y v u Q I J C h l;obtain⟨p,rfl,o⟩:=Jz.e h;obtain⟨i,rfl,O,z,E,n,q⟩:=MK.e o
 cases J;obtain⟨t,rfl⟩:=C;obtain⟨b,r,f,N⟩:=I.list E;obtain⟨j,a,G,M,B,D⟩:=Qj n;obtain⟨w,m,K⟩:=r.get G;have F:=r.length;have L:=Lf;have fin:EP X k σ Q w s:=⟨z,H,I,K,q⟩;by_cases g:0<=i
 .have c:i.toNat=j:=by
   rw[L7 g D] at a;exact _m a
  exact item_listR f.isList g (by lia) (by rw[c];simpa using m) fin l
 .have c:(i+(b.toArray.size:_i)).toNat=j:=by
   rw[seqIndex_neg (by lia) B] at a;rw[bp,<-F];exact _m a
  exact Ň (x:=w) f.isList.typeIs ž.lookup
   (wpAny_getItem_list_neg (Q:=λr A=>r=w/\EP X k σ Q r A) f.isList (by lia) (by rw[_Z] <;> lia) (by lia) (by rw[c];simpa using m) ⟨U,fin⟩) l
theorem mY:sU X<|xF X.K:=by
 intro a b c s σ H x y v u Q I C l h m;obtain⟨p,rfl,f⟩:=Jz.e h;obtain⟨i,rfl,M,z,n,e,q⟩:=MK.e f
 cases C;obtain⟨t,rfl⟩:=l;obtain⟨k,r,d,K⟩:=I.tuple n;obtain⟨j,D,A,G,J,L⟩:=Qj e;obtain⟨w,B,E⟩:=r.get A;have o:=r.length;have F:=Lf;have fin:EP X c σ Q w s:=⟨z,H,I,E,q⟩;exact Ň (x:=w) d.typeIs QN.lookup
  (_a6 (j:=j) (Q:=λr g=>r=w/\EP X c σ Q r g) d (by lia) (by lia) (by rw[_Z,<-o];exact D) (by simpa using B) ⟨U,fin⟩) m
theorem VF:sU X uF:=by
 intro b a D s σ H x y v u Q I n p h r;obtain⟨z,i,c,rfl,rfl,w,e,q⟩:=h;obtain⟨t,rfl⟩:=n;obtain⟨C,rfl⟩:=p;obtain⟨j,d,g,B,l,f⟩:=Qj e;have k:z.cps.toList.length=z.length:=by simp[ě]
 rw[k] at d l f;have A:=Lf;exact _aS (RA s z t) slot_str_getitem.lookup (getItem_str (c:=c) (by
  have o:decide (i < -(2 ^ 63:_i))=false:=_L (by lia);have m:decide (i ≥ 2 ^ 63)=false:=_L (by lia);rw[o,m,RE]) (by rw[d];simpa using g) ⟨.str ⟨#[c]⟩,H,I.tok _,⟨_,U⟩,q⟩) r
theorem Qs(lo hi:_t _i)(n:_d):(sliceBounds lo hi _n n).1=((HT.Ew n 0 lo:_d):_i)/\(sliceBounds lo hi _n n).2.1=((HT.Ew n n hi:_d):_i)/\(sliceBounds lo hi _n n).2.2=1:=by
 refine⟨?_,?_,U⟩
 .cases lo with
  |none=>simp[sliceBounds,HT.Ew]
  |some i =>
   simp only[sliceBounds,HT.Ew,DA,show (1:_i) > 0 by decide,ÿ];by_cases h:i<0
   .simp only[h,ÿ] <;> lia
   .simp only[h,Ñ] <;> lia
 .cases hi with
  |none=>simp[sliceBounds,HT.Ew]
  |some i =>
   simp only[sliceBounds,HT.Ew,DA,show (1:_i) > 0 by decide,ÿ];by_cases h:i<0
   .simp only[h,ÿ] <;> lia
   .simp only[h,Ñ] <;> lia
theorem PX(its:_b _j)(lo hi:_t _i):slicePick its.toArray lo hi _n=((its.drop<|HT.Ew its.length 0 lo).take<|HT.Ew its.length its.length hi - HT.Ew its.length 0 lo).toArray:=by
 obtain⟨c,b,a⟩:=Qs lo hi its.toArray.size;unfold slicePick;rw[c,b,a];simp only[sliceRange_one,pick_run,_Z] <;> rfl
inductive uH(K:_s)(x:V)(lo:_t _i)(hi:_t _i)(H:Hp)(Q:VK):Prop
|mk(a xs:_)(_:x=.ref a)(_:Cp K H a xs)(_:∀p,H p=_n->Q (.ref p) (upd H p (.lst (HQ xs lo hi))))
theorem RL:yl X<|uH X.K:=by
 intro u s σ H x v p w lo e t Q I l n m i h;obtain⟨a,c,rfl,j,q⟩:=h
 cases l;obtain⟨k,r,f,g⟩:=I.list j;have d:=r.length;refine⟨"list",_,ž.lookup,f.isList.typeIs,?_⟩;refine A3 f.isList n m i .none (by simp) ?_<|by rw[_Z] <;> lia
 rw[PX,<-d];refine⟨.ref s.heap.objs.size,_,I.laid (t':=s.toks) (o:=.lst<|HQ c lo e) (λb y q=>_e _ q) (ai _) ?_,U,q _<|I.hok.fresh<|ai _⟩;exact⟨bo (Mf c lo e) g,_,0,(r.drop<|HT.Ew c.length 0 lo).take<|HT.Ew c.length c.length e - HT.Ew c.length 0 lo,_p _ U⟩
noncomputable def Fj:V->_V
 |.non=>_h
 |.bl _=>_h
 |.int _=>_h
 |.str _=>_h
 |_=>_r
def QZ:V->V->_V
 |.non,.non=>_h
 |.bl a,.bl b=>a == b
 |.bl a,.int b=>(if a then 1 else 0) == b
 |.int a,.bl b=>a == (if b then 1 else 0)
 |.int a,.int b=>a == b
 |.str a,.str b=>a == b
 |_,_=>_r
theorem Qg{x:V}{v:_j}(e:RelV y u)(c:RelV x v)(g:Fj y=_h)(f:Fj x=_h):ħ A s u v<|QZ y x:=by
 cases y with
 |non =>
  cases e
  cases x with
  |non=>cases c;exact Ď _
  |bl b=>cases c;exact _a7 b
  |int b=>obtain⟨t,rfl⟩:=c;exact _a8 b t
  |str b=>obtain⟨t,rfl⟩:=c;exact _a9 b t
  |_=>exact _D (show _r=_h from f) _P
 |bl a =>
  cases e
  cases x with
  |non=>cases c;exact _ba a
  |bl b=>cases c;exact _bb a b
  |int b=>obtain⟨t,rfl⟩:=c;exact _bc a b t
  |str b=>obtain⟨t,rfl⟩:=c;exact _bd a b t
  |_=>exact _D (show _r=_h from f) _P
 |int a =>
  obtain⟨d,rfl⟩:=e
  cases x with
  |non=>cases c;exact _be a d
  |bl b=>cases c;exact _bf a d b
  |int b=>obtain⟨t,rfl⟩:=c;exact Ŀ a d b t
  |str b=>obtain⟨t,rfl⟩:=c;exact t4 a d b t
  |_=>exact _D (show _r=_h from f) _P
 |str a =>
  obtain⟨d,rfl⟩:=e
  cases x with
  |non=>cases c;exact _bg a d
  |bl b=>cases c;exact _bh a d b
  |int b=>obtain⟨t,rfl⟩:=c;exact t5 a d b t
  |str b=>obtain⟨t,rfl⟩:=c;exact _bi a d b t
  |_=>exact _D (show _r=_h from f) _P
 |_=>exact _D (show _r=_h from g) _P
def U6(x:V)(u:_j):Bool:=match u with
 |.none=>QZ .non x
 |.bool b=>QZ (.bl b) x
 |.int i _=>QZ (.int i) x
 |.str z _=>QZ (.str z) x
 |_=>_r
theorem bx{x:V}(r:RelV y u)(f:Fj y=_h):U6 x u=QZ y x:=by
 cases y with
 |non=>cases r;rfl
 |bl b=>cases r;rfl
 |int i=>obtain⟨t,rfl⟩:=r;rfl
 |str z=>obtain⟨t,rfl⟩:=r;rfl
 |_=>exact _D (show _r=_h from f) _P
theorem K5{x:V}:∀{xs:_b V}{us:_b _j},Vals xs us->xs.all Fj=_h->us.any (U6 x)=xs.any λy=>QZ y x
 |_,_,.nil,_=>rfl
 |y::xs,u::us,.cons r t,f=>by
  rw[oj,eI] at f;rw[mi,mi,bx r f.1,K5 t f.2]
theorem Ia{x:V}{v:_j}(b:RelV x v)(c:Fj x=_h):∀{xs:_b V}{us:_b _j},Vals xs us->xs.all Fj=_h->∀u∈us,ħ A s u v<|U6 x u
 |_,_,.nil,_=>λu a=>by cases a
 |y::xs,u::us,.cons r t,f=>λd a=>by
  rw[oj,eI] at f;rcases bq.mp a with rfl | a
  .rw[bx r f.1];exact Qg r b f.1 c
  .exact Ia b c t f.2 d a
def inV(x:V)(xs:_b V):Bool:=xs.any λy=>QZ y x
inductive vm(K:_s)(neg:_V)(x:V)(p:_g)(H:Hp)(Q:VK):Prop
|mk(xs:_)(_:Cp K H p xs \/ Fd K H p xs)(_:Fj x=_h)(_:xs.all Fj=_h)(_:Q (.bl (if neg then !inV x xs else inV x xs)) H)
abbrev ye(K:_s)(neg:_V)(x y:V)(H:Hp)(Q:VK):Prop:=Jz (λp H=>vm K neg x p H Q) y H
theorem W9:Ga X (compareOp .In)<|ye X.K false:=by
 intro j s σ H x y v u Q I f i h;obtain⟨p,rfl,k,b,e,fs,q⟩:=Jz.e h
 cases i;rcases b with b | b
 .obtain⟨a,r,c,g⟩:=I.list b;refine SeqAt.in_listAt (U6 x) c.isList (λw d=>Ia f e r fs w<|by simpa using d) ⟨.bl _,H,I,U,?_⟩;rw[show a.toArray.any (U6 x)=a.any (U6 x) by simp,K5 r fs];exact q
 .obtain⟨a,r,c,g⟩:=I.tuple b;refine SeqAt.in_tupleAt (U6 x) c (λw d=>Ia f e r fs w<|by simpa using d) ⟨.bl _,H,I,U,?_⟩;rw[show a.toArray.any (U6 x)=a.any (U6 x) by simp,K5 r fs];exact q
theorem RT:Ga X (compareOp .NotIn)<|ye X.K true:=by
 intro j s σ H x y v u Q I f i h;obtain⟨p,rfl,k,b,e,fs,q⟩:=Jz.e h
 cases i;rcases b with b | b
 .obtain⟨a,r,c,g⟩:=I.list b;refine SeqAt.notIn_listAt (U6 x) c.isList (λw d=>Ia f e r fs w<|by simpa using d) ⟨.bl _,H,I,U,?_⟩;rw[show a.toArray.any (U6 x)=a.any (U6 x) by simp,K5 r fs];exact q
 .obtain⟨a,r,c,g⟩:=I.tuple b;refine SeqAt.notIn_tupleAt (U6 x) c (λw d=>Ia f e r fs w<|by simpa using d) ⟨.bl _,H,I,U,?_⟩;rw[show a.toArray.any (U6 x)=a.any (U6 x) by simp,K5 r fs];exact q
theorem BV:Eo X (.builtin "len") (λxs H Q=>∃p ys,xs=[.ref p]/\(Cp X.K H p ys \/ Fd X.K H p ys)/\Q (.int ys.length) H):=by
 intro k s σ H xs i Q I r h;obtain⟨p,ys,rfl,b,q⟩:=h;obtain⟨u,rfl,f⟩:=vals1 r
 cases f;have j:=Lf;rcases b with b | b
 .obtain⟨c,d,e,g⟩:=I.list b;have a:=d.length;exact Calls.call_len_list e.isList (by simp only[_Z] <;> lia) ⟨.int ys.length,H,I.tok _,⟨s.toks+1,by rw[_Z,a]⟩,q⟩
 .obtain⟨c,d,e,g⟩:=I.tuple b;have a:=d.length;exact len_tuple e (by simp only[_Z] <;> lia) ⟨.int ys.length,H,I.tok _,⟨s.toks+1,by rw[_Z,a]⟩,q⟩
theorem Qt:Eo X (.builtin "len") (λxs H Q=>∃z,xs=[.str z]/\z.length<=sizeLine/\Q (.int z.length) H):=by
 intro b s σ H xs a Q I r h;obtain⟨z,rfl,d,q⟩:=h;obtain⟨u,rfl,t,rfl⟩:=vals1 r;have c:=Lf;exact len_str (by lia) ⟨.int z.length,H,I.tok _,⟨_,U⟩,q⟩
theorem Es:Eo X (.type "list") (λxs H Q=>∃p ys,xs=[.ref p]/\(Cp X.K H p ys \/ Fd X.K H p ys)/\∀l,H l=_n->Q (.ref l) (upd H l<|.lst ys)):=by
 intro x s σ H xs z Q I r h;obtain⟨p,ys,rfl,i,q⟩:=h;obtain⟨u,rfl,y⟩:=vals1 r
 cases y;have fin:∀(a:_b _j),Vals ys a->ys.length<=sizeLine->∀(c:Θ)(d:_d),(∀b w,s.heap.get? b=_a w->c.get? b=_a w) ->
   c.get? s.heap.objs.size=_a { cls:=.type "list",dict:=_n,data:=.seq a.toArray d,slots:=#[] }->EP X x σ Q (.ref s.heap.objs.size) { s with heap:=c }:=λa f g c d kp e =>
  ⟨.ref s.heap.objs.size,_,I.laid (t':=s.toks) kp (Τ _) (show Cd X.prog X.w _ c _ (.lst ys) from ⟨g,a,d,f,e⟩),U,q _<|I.hok.fresh<|Τ _⟩
 rcases i with i | i
 .obtain⟨a,f,v,g⟩:=I.list i;have j:=f.length;obtain⟨o,t,m,n,k⟩:=v.isList;exact _bj p (.inl U) t m k (λc d kp e=>fin a f g c d kp e)<|by simp only[_Z] <;> lia
 .obtain⟨a,f,v,g⟩:=I.tuple i;have j:=f.length;obtain⟨o,t,m,n,k⟩:=v;exact _bj p (.inr U) t m k (λc d kp e=>fin a f g c d kp e)<|by simp only[_Z] <;> lia
def z_(K:_s)(T:è)(x:V)(H:Hp):Prop:=match x with
 |.str _=>T = "str"
 |.int _=>T = "int"
 |.ref p=>(T = "list" /\ ∃xs,Cp K H p xs) \/ (T = "tuple" /\ ∃o,K.lookup p=_a o/\o.cls=.type "tuple" /\ o.dict=_n) \/
   (T = "dict" /\ ((∃kvs,H p=_a (.dK kvs)) \/ ∃kvs,H p=_a (.dT kvs))) \/ (T = "set" /\ ∃S n,H p=_a (.set S n))
 |_=>Χ
theorem Yx{T:è}{x:V}{v:_j}(I:Inv X b9 σ H s)(r:RelV x v)(f:z_ X.K T x H) :
  s.TypeIs v T/\∀a,v=.ref a->∃ob,s.heap.get? a=_a ob/\ob.dict=none:=by
 cases x with
 |str z =>
  obtain⟨t,rfl⟩:=r
  cases (show T = "str" from f);exact⟨RA s z t,λ_ e=>nomatch e⟩
 |int i =>
  obtain⟨t,rfl⟩:=r
  cases (show T = "int" from f);exact⟨typeIs_int s i t,λ_ e=>nomatch e⟩
 |ref p =>
  cases r;rcases f with⟨rfl,u,l⟩ | ⟨rfl,o,b,m,g⟩ | ⟨rfl,b⟩ | ⟨rfl,S,n,b⟩
  .obtain⟨q,_,k,_⟩:=I.list l;refine⟨k.isList.typeIs,λa e=>?_⟩
   cases e;obtain⟨o,n,e,c,g,_⟩:=k;exact⟨o,e,g⟩
  .refine⟨⟨o,I.JX p o b,m⟩,λa e=>?_⟩
   cases e;exact⟨o,I.JX _ o b,g⟩
  .have z:∃o,s.heap.get? p=_a o/\o.ExactDict:=by
    rcases b with⟨h,b⟩ | ⟨h,b⟩
    .obtain⟨_,_,_,_,o,_,_,e,d,_⟩:=I.hok p _ b;exact⟨o,e,d⟩
    .obtain⟨_,_,_,_,o,_,_,e,d,_⟩:=I.hok p _ b;exact⟨o,e,d⟩
   obtain⟨o,e,d⟩:=z;refine⟨⟨o,e,d.1⟩,λa j=>?_⟩
   cases j;exact⟨o,e,d.2.1⟩
  .obtain⟨o,_,_,_,e,d,_⟩:=I.hok p _ b;refine⟨⟨o,e,d.1⟩,λa j=>?_⟩
   cases j;exact⟨o,e,d.2.1⟩
 |_=>exact Ν f
abbrev tBM0(K:_s)(T:è)(r:V->_b V->Hp->VK->Prop)(to:TE):TE:=λσ H Q=>to σ H λx H1=>z_ K T x H1/\r x [] H1 Q
abbrev tBM(K:_s)(T:è)(r:V->_b V->Hp->VK->Prop)(to:TE)(t:TA):TE:=λσ H Q=>to σ H λx H1=>z_ K T x H1/\t σ H1 λxs H2=>r x xs H2 Q
variable{o e:Expr}{to:TE}{t:TA}{name:_A}{k7:ĵ}{T id:è}{r:V->_b V->Hp->VK->Prop}
theorem Uq(m:PlainAttrs T)(b:Slot T name id)(q:typeOf (.builtin id)=pure (.type "method_descriptor"))(f:yQ X id r)(p:PE X o to)
  (a:attributeBase o name X.env (eval o X.env)=eval o X.env:=by rfl)(g:(k8.endLine == k7.line)=true:=by rfl):PE X (.Call (.Attribute o name k8) [] [] k7)<|tBM0 X.K T r to:=by
 intro e s σ H Q I h;refine wpAny_Call_method0_late a g<|CP (p e s σ H _ I h) λv i j=>?_
 obtain⟨x,t,d,c,k,u⟩:=j;obtain⟨n,l⟩:=Yx d c k;exact⟨T,id,m,b,q,n,l,ß U<|PySem.evalArgs_none<|f e i σ t x [] v [] Q d c .nil u⟩
theorem E_(D:PlainAttrs T)(c:Slot T name id)(J:typeOf (.builtin id)=pure (.type "method_descriptor"))(j:yQ X id r)(G:PE X o to)(E:PA X (e::es) t)
  (b:attributeBase o name X.env (eval o X.env)=eval o X.env:=by rfl)
  (C:((backTo k7<|starEach (e::es) X.env).all (λx=>!x.1) && (backToKw k7<|keywordEach [] X.env).all (λx=>x.1.isSome)
   && decide ((e::es).length+([]:_b w_).length+(if ([]:_b w_).isEmpty then 0 else 1)<30))=true:=by rfl)
  (l:(k8.endLine == k7.line)=true:=by rfl) (n:starEach (e::es) X.env=(_r,eval e X.env)::starEach es X.env:=by rfl) (a:(backTo k7<|starEach es X.env).any (·.1)=false:=by rfl) :
  PE X (.Call (.Attribute o name k8) (e::es) [] k7) (tBM X.K T r to t):=by
 intro d s σ H Q I h;refine wpAny_Call_method_late b C l U<|CP (G d s σ H _ I h) λv p w=>?_
 obtain⟨x,L,i,f,z,M⟩:=w;obtain⟨F,A⟩:=Yx i f z;refine⟨T,id,D,c,J,F,A,?_⟩;have g:=E k7 d p σ L _ i M;rw[n] at g |-;refine ß (by show (_r || (backTo k7<|starEach es X.env).any (·.1))=_r;rw[a] <;> rfl)<|ï ?_
 exact CP g λk B ⟨K,q,u,y,m⟩=>j d B σ q x K v k Q u f y m
end
def yU(X:Cx)(id:è)(r:V->_b V->Hp->VK->Prop):Prop :=
 ∀(b9:_b<|_g × ü)(s:_C)(σ:St)(H:Hp)(x:V)(xs:_b V)(v:_j)(us:_b _j)(Q:VK),Inv X b9 σ H s->RelV x v->Vals xs us->r x xs H Q ->
  wpAny (_z X.prog X.w) X.A (call (.builtin id)<|v::us) (EP X b9 σ Q) X.xe s
theorem Vals.one:∀{x:V}{us:_b _j},Vals [x] us->∃u,us=[u]/\RelV x u:=λh=>by cases h with | cons r t=>cases t;exact⟨_,U,r⟩
theorem Vals.two:∀{x y:V}{us:_b _j},Vals [x,y] us->∃u v,us=[u,v]/\RelV x u/\RelV y v:=λh=>by cases h with | cons r t=>cases t with | cons q t=>cases t;exact⟨_,_,U,r,q⟩
theorem Vals.zero:∀{us:_b _j},Vals [] us->us=[]
 |_,.nil=>rfl
theorem Vals.dropLast(h:Vals xs us):Vals xs.dropLast us.dropLast:=by
 induction h with
 |nil=>exact .nil
 |cons r t a =>
  cases t with
  |nil=>exact .nil
  |cons q b=>exact .cons r a
theorem Vals.eraseIdx:∀{xs:_b V}{us:_b _j}(i:_d),Vals xs us->Vals (xs.eraseIdx i) (us.eraseIdx i)
 |_,_,_,.nil=>.nil
 |_,_,0,.cons _ t=>t
 |_,_,i+1,.cons r t=>.cons r<|Vals.eraseIdx i t
theorem Us{α:Type}(l:_b α):l.eraseIdx (l.length - 1)=l.dropLast:=by
 induction l with
 |nil=>rfl
 |cons a r c =>
  cases r with
  |nil=>rfl
  |cons b r =>
   have e:(a::b::r).length - 1=((b::r).length - 1)+1:=by
    have d:(a::b::r).length=r.length+2:=rfl;have f:(b::r).length=r.length+1:=rfl;lia
   rw[e,List.eraseIdx_cons_succ,c]
   all_goals rfl
theorem Pu{α:Type}:∀(l:_b α)(i:_d),(l.eraseIdx i).length<=l.length
 |[],_=>ai _
 |_::_,0=>kc _
 |_::r,i+1=>fo<|Pu r i
section
variable{zs:_b V}
theorem Inv.fP{its its':_b _j}{f:_E _j->_E _j}{t':_d}(I:Inv X b9 σ H s)(a:H l=_a (.lst xs))
  (e:s.heap.get? l=_a { cls:=.type "list",data:=.seq its.toArray n }) (g:f its.toArray=its'.toArray) (c:Vals ys its') (hz:ys.length<=sizeLine) :
  Inv X b9 σ (upd H l<|.lst ys) { s with heap:=s.heap.update l<|_Y f,toks:=t' }:=by
 have q:=PySem.IsL.update e f;rw[g] at q;refine I.write (x:=l) (e:=l) (by rw[a];exact trivial) (.inl U) (λh u b d=>(_F s.heap (_Y f)<|_T b).trans d) ⟨_,q⟩ ?_;exact⟨hz,its',_,c,q⟩
theorem Inv.vL{its:_b _j}{t':_d}(I:Inv X b9 σ H s)(a:Vals ys its)(hz:ys.length<=sizeLine) :
  Inv X b9 σ (upd H s.heap.objs.size<|.lst ys) { s with heap:=s.heap.push { cls:=.type "list",data:=.seq its.toArray },toks:=t' } :=
 I.laid (λ_ _ q=>_e _ q) (ai _) ⟨hz,its,0,a,_p _ U⟩
theorem Inv.fresh(I:Inv X b9 σ H s):H s.heap.objs.size=none:=I.hok.fresh<|ai _
theorem Inv.Ue(I:Inv X b9 σ H s)(a:H l=_a (.lst xs)):xs.length<=sizeLine/\∃(its:_b _j)(n:_d),Vals xs its/\xs.length=its.length/\s.heap.get? l=_a { cls:=.type "list",data:=.seq its.toArray n }:=by
 obtain⟨z,its,n,r,e⟩:=I.hok l _ a;exact⟨z,its,n,r,r.length,e⟩
theorem cY(h:n<=sizeLine):ġ n=false:=by
 unfold ġ;exact _L<|by lia
end
inductive S_(l:_g)(y:V)(H:Hp)(Q:VK):Prop
|mk(xs:_)(_:H l=_a (.lst xs))(_:xs.length<sizeLine)(_:Q .non (upd H l (.lst (xs++[y]))))
abbrev gR(x:V)(vs:_b V)(H:Hp)(Q:VK):Prop:=Jz (λl=>yK (λy H=>S_ l y H Q) vs) x H
theorem CZ:yU X "list.append" gR:=by
 intro m s σ H x o v i Q I f d h;obtain⟨l,rfl,c⟩:=Jz.e h;obtain⟨y,rfl,p,b,j,q⟩:=yK.e c
 cases f;obtain⟨u,rfl,g⟩:=d.one;obtain⟨z,a,n,r,k,e⟩:=I.Ue b;refine yk F.slot_list_append ⟨_,e,U⟩ F.entry_list_append (F.args_list_append_2 _ _) (PySem.list_append l a.toArray n u<|by rw[bp];lia) ⟨e,?_⟩;refine⟨.non,_,I.fP (its':=a++[u]) b e (by simp) (r.append<|.cons g .nil) ?_,U,q⟩;rw[av,bt];lia
inductive Wn(x:V)(vs:_b V)(H:Hp)(Q:VK):Prop
|mk(l b xs zs:_)(_:x=.ref l)(_:vs=[.ref b])(_:H l=_a (.lst xs))(_:H b=_a (.lst zs))(_:xs.length+zs.length<=sizeLine)(_:Q .non (upd H l (.lst (xs++zs))))
theorem YG:yU X "list.extend" Wn:=by
 intro G s σ H x A v E Q I t i h;obtain⟨l,b,C,B,rfl,rfl,g,m,J,q⟩:=h
 cases t;obtain⟨u,rfl,w⟩:=i.one
 cases w;obtain⟨z,a,n,r,D,e⟩:=I.Ue g;obtain⟨y,d,k,o,p,j⟩:=I.Ue m;have f:a.toArray.size+d.toArray.size<=sizeLine:=by rw[bp,bp];lia
 have c:¬ (!a.toArray.isEmpty && ġ (a.toArray.size+d.toArray.size))=true:=by
  rw[cY f,kL];exact et
 refine yk F.slot_list_extend ⟨_,e,U⟩ F.entry_list_extend (F.args_list_extend_2 _ _)
  (AutoSeq1.list_extend_list_list_0 l a.toArray n b d.toArray k c (by rw[bp];lia)<|by lia) ⟨e,j,?_⟩
 refine⟨.non,_,I.fP (its':=a++d) g e (by simp) (r.append o) ?_,U,q⟩;rw[av];lia
inductive wM(x:V)(vs:_b V)(H:Hp)(Q:VK):Prop
|mk(l xs y:_)(_:x=.ref l)(_:vs=[])(_:H l=_a (.lst xs))(_:xs[xs.length - 1]? = _a y)(_:Q y (upd H l (.lst xs.dropLast)))
theorem pG:yU X "list.pop" wM:=by
 intro p s σ H x t v o Q I k j h;obtain⟨l,w,y,rfl,rfl,d,f,q⟩:=h
 cases k;have b:=j.zero;subst b;obtain⟨z,a,n,r,i,e⟩:=I.Ue d;obtain⟨u,g,m⟩:=r.get f;have c:a.toArray[a.toArray.size - 1]? = _a u:=by
  show a.toArray[a.length - 1]? = _a u;rw[<-_w,<-i];exact g
 refine yk WI ⟨_,e,U⟩ S' (F.args_list_pop_1 _) (MeetsSeq.list_pop_last l a.toArray n u c<|by rw[bp];lia) ⟨e,?_⟩;refine⟨y,_,I.fP (its':=a.dropLast) d e ?_ r.dropLast ?_,m,q⟩
 .show a.toArray.eraseIdxIfInBounds (a.toArray.size - 1)=a.dropLast.toArray;rw[bp,kG,Us]
 .rw[List.length_dropLast];lia
inductive Yn(x:V)(vs:_b V)(H:Hp)(Q:VK):Prop
 | mk(l xs i k y:_):x=.ref l->vs=[.int i]->H l=_a (.lst xs)->-(2 ^ 63)<=i->i<2 ^ 63->seqIndex? i xs.length=_a k->xs[k]? = _a y->Q y (upd H l (.lst (xs.eraseIdx k)))->Yn x vs H Q
theorem Zy:yU X "list.pop" Yn:=by
 intro E s σ H x G v D Q I m g h;obtain⟨l,C,i,k,y,rfl,rfl,b,o,f,B,c,q⟩:=h
 cases m;obtain⟨u,rfl,A⟩:=g.one;obtain⟨t,rfl⟩:=A;obtain⟨z,a,n,r,d,e⟩:=I.Ue b;obtain⟨w,j,p⟩:=r.get c;refine yk WI ⟨_,e,U⟩ S' (F.args_list_pop_2 _ _)
  (MeetsSeq.list_pop_at l a.toArray n i t k w (fitsIndex_both o f) (by rw[bp,<-d];exact B) (by rw[<-_w];exact j)<|by rw[bp];lia) ⟨e,?_⟩
 refine⟨y,_,I.fP (its':=a.eraseIdx k) b e ?_ (r.eraseIdx k) ?_,p,q⟩
 .show a.toArray.eraseIdxIfInBounds k=(a.eraseIdx k).toArray;rw[kG]
 .have:=Pu C k;lia
inductive tL(x:V)(y:V)(H:Hp)(Q:VK):Prop
|mk(l b xs zs:_)(_:x=.ref l)(_:y=.ref b)(_:H l=_a (.lst xs))(_:H b=_a (.lst zs))(_:xs.length+zs.length<=sizeLine)(_:∀p,H p=_n->Q (.ref p) (upd H p (.lst (xs++zs))))
theorem PJ:Ga X (binaryOp .Add) tL:=by
 intro B s σ H x y v u Q I m o h;obtain⟨l,b,D,C,rfl,rfl,j,f,p,q⟩:=h
 cases m
 cases o;obtain⟨z,a,n,r,w,e⟩:=I.Ue j;obtain⟨t,c,A,i,d,k⟩:=I.Ue f;refine PySem.P.add_list e k ?_<|by rw[bp,bp];lia
 have g:a.toArray++c.toArray=(a++c).toArray:=by simp
 rw[g];exact⟨.ref _,_,I.vL (t':=s.toks) (r.append i)<|by rw[av];lia,U,q _ I.fresh⟩
end L2
namespace Att
open PySem PySem.W PySem.Calls PyProof.Rows
theorem Mm{P:ň}:∀(ns:_b _i)(vs:_b _j),WellAll P h vs (ns.map WData.int)->Υ vs ns:=by
 intro ns
 induction ns with
 |nil =>
  intro vs w;rw[nB] at w
  cases w;exact .nil
 |cons n ns c =>
  intro vs w;rw[df] at w
  cases w with
  |cons a b =>
   cases a;exact .cons _ _<|c _ b
theorem X4{l:OpenLaw}(o:l.most=_a n){P:ň}{args:_b WData}{k:_b _j}
  (i:l.row.toRowW.claim.pre args=_h) (g:WellAll P h k args) :
  ∃a vs ns,k=[_Q a]/\args=[WData.list (ns.map WData.int)]/\h.get? a=_a { cls:=.type "list",data:=.seq vs.toArray }/\Υ vs ns/\ns.length<=n:=by
 have f:WShape.hasAll [] args [.list .int]=true:=(pre_splitW i).1;have j:l.pre.holds [] { args:=args }=true:=(pre_splitW i).2;obtain⟨d,r,rfl,u,s⟩:=hasAllW_cons f;obtain rfl:=hasAllW_nil s;obtain⟨y,rfl,t⟩:=hasW_list u;obtain⟨ns,rfl⟩:=items_int t;have b:ns.length<=n:=by
  unfold OpenLaw.pre at j;have e:(WTm.not<|.lt (.lit<|.int (n:_i))<|.len<|.arg 0).holds [] { args:=[.list (ns.map .int)] }=true:=by
   have e:=(holds_andW j).1;rw[o] at e;exact e
  have c:=condW_of e<|w_not<|w_lt w_lit<|w_len_list<|w_arg U
  rw[ah] at c;refine lh λq=>?_;have w:(n:_i)<((ns.length:_d):_i):=by lia
  first
   | (rw[_v w] at c;exact _D c (by decide))
   | (simp at c;lia)
 cases g with
 |cons m x =>
  cases x
  cases m with
  |list v p=>exact⟨_,_,ns,U,U,v,Mm ns _ p,b⟩
theorem Xi(l:OpenLaw)(args:_b WData):l.row.toRowW.claim.post args (.bool _h) args=true :=
 postW_of (r:=l.row.toRowW) (X:=(_h == _h))
  (show WShape.has [] (.bool _h) .bool=_h by first | rfl | decide | simp[WShape.has,WShape.arms,WShape.armsAll])
  (show (WTm.eq .res<|.lit<|.bool _h).value [] { args:=args,res:=_a<|.bool _h,after:=args }=_a (.bool<|true == _h) from w_eq_bool (w_res U) w_lit) U
theorem TF{l:OpenLaw}{q:Ð}{x:_b _A}{p:(_A->_t _j)->Θ->Prop}{u:_O->Θ->Prop}{d:DefRec}
  (B:l.most=_a n)(z:d.params.defaults=[])
  (call:∀(w:_O)(k b:_C)(mg m:_A->_t _j)(c:_g)(o:ü)(h g j:_j)(a:_g)(vs:_b _j)(ns:_b _i),
   Ground q x [] p w k mg m b.heap->u w b.heap ->
   b.heap.get? c=_a o->o.data=.func (docDef d.name d.params d.body d.scope h g j)->b.heap.CodeRec g d.name->mg d.name=_a (.ref c) ->
   b.heap.get? a=_a { cls:=.type "list",data:=.seq vs.toArray }->Υ vs ns->ns.length<=n->b.gens = #[] ->
   codeAny (_z l.prog w) callerA (.call (.ref c) ⟨[.ref a],[]⟩) (λr s'=>r=.ok (.ret<|.bool _h)/\OldK b.heap s'.heap/\s'.os=b.os/\ķ s'.gens) b) :
  WalkO q x p u l.row.toRowW d [] (λf vs=>PySem.call f vs):=by
 intro w k b mg m G Y c o h g j O kV P D K s J C v Q R A t H i S;obtain rfl:O=.none:=Dflts.none s z;obtain rfl:kV=.none:=Dflts.noKw s;obtain⟨a,vs,ns,rfl,rfl,M,N,e⟩:=X4 B A i;refine enter_call<|é (call w k b mg m c o h g j a vs ns G Y P (fd_plain D) K J M N e C) λr s' I=>?_
 obtain⟨rfl,L,E,F⟩:=I;exact⟨.inl ⟨.bool _h,.bool _h,[],U,λ_=>rfl,.bool _h,Xi l _,λ_=>⟨_ah,λ_ y=>(nomatch y)⟩⟩,L,E,F⟩
end Att
namespace L2
open PySem PySem.Spec PyProof.Rows
theorem QF:∀{vs:_b _j}{ns:_b _i},Υ vs ns->Vals (ns.map V.int) vs
 |_,_,.nil=>.nil
 |_,_,.cons n t h=>.cons ⟨t,U⟩<|QF h
noncomputable def inClass(s:ĭ)(j:_d):Stmt:=match s with
 |.ClassDef _ _ _ body _ _ _ _ _ _ _=>body.getD j<|.Pass ⟨0,0,0,0⟩
 |_=>.Pass ⟨0,0,0,0⟩
noncomputable def Ei(s:ĭ):Arguments:=match s with
 |.FunctionDef _ a _ _ _ _ _ _ _ _=>a
 |_=>{ posonlyargs:=[],args:=[],vararg:=_n,kwonlyargs:=[],kw_defaults:=[],kwarg:=_n,defaults:=[] }
def DX(s:ĭ):_b Stmt:=match s with
 |.FunctionDef _ _ b _ _ _ _ _ _ _=>b
 |_=>[]
noncomputable def Ae(s:ĭ):Scope:=match s with
 |.FunctionDef _ _ _ _ _ _ sc _ _ _=>sc
 |_=>{ kind:=.function,names:=[],isGenerator:=_r,isCoroutine:=_r }
abbrev BW:YM:=λ_ _ _ _ _ _=>Χ
abbrev E0:XK:=λ_ _ _=>Χ
theorem Ni:Fg BW X E0:=λ_ _ _ _ _ _ _ h=>h.elim
structure Yb(K:_s)(x qual:_A)(st:ĭ)(f:_g)(fd:ė):Prop where
 ex:∃(oc:_j)(od:_t _g)(kV rV pm:_j)(an:_t _g)(oC ct:_j)(wb:_E<|_t _j),
  fd=Ħ x qual (Ei st) (DX st) (Ae st) .none kV rV pm an oC ct/\K.lookup f=_a ⟨oc,od,.func fd,wb⟩/\ű K oC qual=_h
 kp:Ć K (.ref f)=_h
section
variable{w:_O}{K:_s}
theorem Yb.ok{N ps:_b _A}{k:_d}(F:Yb K x qual st f fd)(S:Aq N ps<|Ae st)(len:∀vs H Q E,sp vs H Q E->vs.length=ps.length)
  (c:∀(b:_j)(A:ù)(a:_b ŧ)(s:_C)(H:Hp)(vs:_b V)(Q:VK)(E:XK),Df k (A.deeper<|envOfC qual (Ae st) s.heap.objs.size f b)->sp vs H Q E ->
   ∃t,Ra (Mp BW P w K mg base N qual (Ae st) f b A a s H E).m7 (DX st) t/\t { nx:=λ_ H'=>Q .non H',rt:=Q } (start N vs) H):Gu P w K mg base BW (k+1) f fd ps sp:=by
 obtain⟨n,p,kV,r,m,j,b,o,l,rfl,i,e⟩:=F.ex;refine ZK i e S len λA a s H vs Q E d g=>?_;obtain⟨t,h,q⟩:=c b A a s H vs Q E d g;exact⟨t,h.m7,q⟩
theorem Yb.Dl{N ps:_b _A}{k:_d}(F:Yb K x qual st f fd)(S:Aq N ps<|Ae st)
  (c:∀{b:_j}{A:ù}{a:_b ŧ}{s:_C}(H:Hp)(vs:_b V)(Q:VK)(E:XK),Df k (A.deeper<|envOfC qual (Ae st) s.heap.objs.size f b)->sp vs H Q E ->
   ∃t,Ra (Mp BW P w K mg base N qual (Ae st) f b A a s H E).m7 (DX st) t/\t { nx:=λ_ H'=>Q .non H',rt:=Q } (start N vs) H)
  (len:∀vs H Q E,sp vs H Q E->vs.length=ps.length:=by intro _ _ _ _ h;cases h;subst_vars;rfl):Gu P w K mg base BW (k+1) f fd ps sp:=F.ok S len λ_ _ _ _ H vs Q E=>c H vs Q E
theorem b7{g:_j}{od b:_t _g}{h:_E (_t _j)}{kV e d a ct:_j}(l:K.lookup f=_a ⟨g,od,.func<|Ħ x qual (Ei st) (DX st) (Ae st) .none kV e d b a ct,h⟩)
  (c:ű K a qual=_h)(k:Ć K (.ref f)=_h):Yb K x qual st f<|Ħ x qual (Ei st) (DX st) (Ae st) .none kV e d b a ct:=⟨⟨g,od,kV,e,d,b,a,ct,h,U,l,c⟩,k⟩
end
theorem Fi{k:_d}(a:Df k A):A.units+1<cLine:=bg (gi (by decide:1<=64) _) a.units
theorem Aw(h:n<=1000):n<sizeLine:=bg h<|by decide
theorem pv(i:_d)(a:X.N[i]? = _a x:=by rfl)(b:Vis X.env.scope x:=by first | exact Or.inl rfl | exact Or.inr (Or.inl rfl) | exact Or.inr<|Or.inr rfl)(c:(x == ("__debug__" : _A))=false:=by decide)
  (d:(x == ("__classdict__" : _A))=false:=by decide):PE X (.Name x pos)<|Pb i:=ph a b c d
theorem PQ{c:_V}{A B:Prop}(h:B)(e:c=false:=by rfl):if c=_h then A else B:=by
 subst e;exact h
theorem Mq{c:_V}{A B:Prop}(h:A)(e:c=true:=by rfl):if c=_h then A else B:=by
 subst e;exact h
theorem ib{c:_V}{A B:Prop}(h:if c=_h then A else B):if c=_h then A else B:=h
theorem Ed{c:_V}{A B:Prop}(b:c=_h->A)(a:¬ c=_h->B):if c=_h then A else B:=by
 by_cases h:c=_h
 .rw[_o h];exact b h
 .rw[_l h];exact a h
theorem V3{c A B:Prop}[sv c](a:c)(h:B):if (!decide c)=_h then A else B:=by
 rw[_v a];exact h
def Al(H H':Hp):Prop:=∀b o,H b=_a o->H' b=_a o
theorem Al.refl(H:Hp):Al H H:=λ_ _ h=>h
theorem Al.trans(a:Al H H1)(b:Al H1 H2):Al H H2:=λc o h=>b c o<|a c o h
theorem Al.free(e:Al H H')(h:H' l=Option.none):H l=_t.none:=by
 cases q:H l with
 |none=>rfl
 |some o =>
  rw[e l o q] at h
  cases h
theorem Al.seq{K:_s}(e:Al H H')(h:Cp K H a xs):Cp K H' a xs:=by
 rcases h with (h | ⟨o,h⟩) | h
 .exact .inl<|.inl<|e _ _ h
 .exact .inl<|.inr ⟨o,e _ _ h⟩
 .exact .inr h
section
variable{κ:Type}[Ķ κ]
theorem eO{kvs:_b (κ×V)}{k:κ}{v:V}(h:Cv kvs k=_a v):k∈kvs.map (·.1):=by
 have q:(kvs.any λb=>decide (b.1=k))=true:=by
  rw[Fw,h]
  all_goals rfl
 obtain⟨p,a,e⟩:=gE.mp q;exact ay.mpr ⟨p,a,_G e⟩
theorem Wl:∀{l:_b κ}{k:κ},l.Nodup->¬ k∈l->(l++[k]).Nodup
 |[],k,_,_=>by simp
 |a::r,k,h,b=>by
  obtain⟨c,d⟩:=fR.mp h;show (a::(r++[k])).Nodup;refine fR.mpr ⟨λm=>?_,Wl d λm=>b<|bq.mpr<|Or.inr m⟩;rcases aE.mp m with q | q
  .exact c q
  .exact b<|bq.mpr<|Or.inl (al.mp q).symm
end
section
variable{w:_O}{E:vSP}
theorem PK{b:_E _j}{x:_j}(j:s.heap.IsTupleIter it a i)(g:s.heap.IsTuple a b)(k:b[i]? = _a x)
  (q:∀h',h'.IsTupleIter it a (i+1)->Á it s.heap h'->Q x { s with heap:=h' }):wpAny (_z prog w) A (ψ<|.ref it) Q E s:=by
 have f:=j;obtain⟨o,e,c,d⟩:=j;obtain⟨m,h,_,n,l⟩:=g;unfold ψ;refine _c<|Ξ (name:=Ø "__next__") f.typeIs ö<|Α ö f.typeIs uj ?_<|sx _
 refine (show wpAny _ _ (field (.ref it) 0 >>= _) _ _ s from _c<|υ e d (x:=.ref a) U ?_);refine (show wpAny _ _ (if (_Q a == _J)=_h then _ else _) _ _ s from ?_);rw[_l (by exact et)];refine (show wpAny _ _ (field (.ref it) 1 >>= _) _ _ s from _c<|υ e d (x:=.int i 0) U ?_);refine (show wpAny _ _ (seqItems? (.ref a) >>= _) _ _ s from _c<|Ò h l ?_);simp only[I3,k];exact _c<|ω e d (by simp)<|_k ⟨x,U,_k<|q _ ⟨_,_W _ e<|ĕ<|á d _,(Obj.cls_mapFields ..).trans c,by rw[á d];simp[rawInt]⟩<|ο ..⟩
theorem Nq{b:_E _j}(g:A.handled=_n)(j:s.heap.IsTupleIter it a i)(h:s.heap.IsTuple a b)(l:b[i]? = _n)
  (q:∀h' e,_ai it s.heap h'->(∃o,h'.get? e=_a o/\o.cls=.type "StopIteration")->E (.ref e) { s with heap:=h' }):wpAny (_z prog w) A (ψ<|.ref it) Q E s:=by
 have f:=j;obtain⟨o,e,c,d⟩:=j;obtain⟨r,k,_,n,p⟩:=h;unfold ψ;refine _c<|Ξ (name:=Ø "__next__") f.typeIs ö<|Α ö f.typeIs uj ?_<|sx _
 refine (show wpAny _ _ (field (.ref it) 0 >>= _) _ _ s from _c<|υ e d (x:=.ref a) U ?_);refine (show wpAny _ _ (if (_Q a == _J)=_h then _ else _) _ _ s from ?_);rw[_l (by exact et)];refine (show wpAny _ _ (field (.ref it) 1 >>= _) _ _ s from _c<|υ e d (x:=.int i 0) U ?_);refine (show wpAny _ _ (seqItems? (.ref a) >>= _) _ _ s from _c<|Ò k p ?_);simp only[I3,l];refine _c<|Ç<|_c<|ω e d (by simp) (show wpAny _ _ (newExc (.type "StopIteration") [] >>= _) _ _ _ from _c ?_)
 simp only[newExc,newTuple];refine _c<|_X (_c (m:=firstArgMember _ _)<|uA (a:=_J) (by first | rfl | (simp only[firstArgMember];rfl))<|_X ?_<|by size_fits)<|by size_fits
 simp only[raiseNew];refine _c<|_bk ?_
 first | rw[show A.in1.handled=_n from g] | rw[g]
 exact _c<|_k<|wpAny_throw<|q _ _ (((ο ..).extBut.push _).push _) ⟨_,_p _ U,U⟩
theorem YT{z TI TO g f n m:_g}{k:_d}{xs ys:_E _j}{x y a b:_j}(D:_aT z TI TO g f n m)
  (hz:ū s.heap z TI TO .none)(hI:Ĝ s.heap TI (.ref g)<|.ref f)(W:Ĝ s.heap TO a b)
  (j1:s.heap.IsTupleIter g n k)(S:s.heap.IsTupleIter f m k)(t1:s.heap.IsTuple n xs)(t2:s.heap.IsTuple m ys)(hx:xs[k]? = _a x)(R:ys[k]? = _a y)
  (q:∀h',ū h' z TI TO (rawInt s.heap.objs.size)->Ĝ h' TO x y->h'.IsTupleIter g n (k+1)->h'.IsTupleIter f m (k+1)->Ĝ h' s.heap.objs.size x y->h'.objs.size=s.heap.objs.size+1 ->
   (∀c o,c≠z->c≠TO->c≠g->c≠f->s.heap.get? c=_a o->h'.get? c=_a o)->Q (.ref s.heap.objs.size) { s with heap:=h' }) :
  wpAny (_z prog w) A (É.«zip.__next__» ⟨[.ref z],[]⟩) (λfin s'=>∃v,fin=.done (.ret v)/\Q v s') E s:=by
 refine (show wpAny _ _ (field (.ref z) 2 >>= _) _ _ _ from _c<|υ hz U (x:=.bool _r) U (show wpAny _ _ (field (.ref z) 3 >>= _) _ _ _ from _c<|υ hz U (x:=.ref TI) U<|_c<|Ò hI U ?_));refine (show wpAny _ _ (Φ (.ref z) >>= _) _ _ _ from _c ?_);unfold Φ;refine _c<|υ hz U (x:=.none) U<|_k ?_
 simp only[ÿ];refine _c<|Ç<|_c<|υ hz U (x:=.ref TO) U<|_c<|č hz (by simp) λh1 V h=>?_
 have y1:ū h1 z TI TO .ellipsis:=V;refine _c ?_;simp only[Ŭ,ME,Ŷ,OR];refine _c<|_c<|A4 (show wpAny _ _ (ψ (.ref g) >>= _) _ _ _ from _c<|PK (j1.at λo e=>h.extBut _ _ D.i1z e) (t1.at λo e=>h.extBut _ _ D.l1z e) hx λh2 T j=>_k ?_)
 have L:Ĝ h2 TO a b:=j.extBut _ _ D.TOi1<|h.extBut _ _ D.TOz W
 refine _c<|Ò L U<|_c<|ML L λh3 p3 l=>?_
 have Y:Ĝ h3 TO x b:=p3;refine _c<|MV<|_k ?_
 refine _c (_c (A4 (show wpAny _ _ (ψ (.ref f) >>= _) _ _ _ from _c (PK (S.at λo e=>l.extBut _ _ D.TOi2.symm<|j.extBut _ _ D.i12.symm<|h.extBut _ _ D.i2z e)
  (t2.at λo e=>l.extBut _ _ D.l2TO<|j.extBut _ _ D.l2i1<|h.extBut _ _ D.l2z e) R λh4 n2 p=>_k ?_))))
 have M:Ĝ h4 TO x b:=p.extBut _ _ D.TOi2 Y;refine _c<|Ò M U<|_c<|ML M λd p5 t=>?_
 have O:Ĝ d TO x y:=p5;refine _c<|MV<|_k<|_k<|_c<|Ò O U<|_c<|yA ?_
 have J:d.objs.size=s.heap.objs.size:=by rw[t.1,p.1,l.1,j.1,h.1]
 have K:ū d z TI TO .ellipsis:=t.extBut _ _ D.TOz.symm<|p.extBut _ _ D.i2z.symm<|l.extBut _ _ D.TOz.symm<|j.extBut _ _ D.i1z.symm y1
 have k5:∀c o,c≠z->c≠TO->c≠g->c≠f->s.heap.get? c=_a o->d.get? c=_a o:=λc o i u C B e=>t.extBut _ _ u<|p.extBut _ _ B<|l.extBut _ _ u<|j.extBut _ _ C<|h.extBut _ _ i e
 have Z:d.IsTupleIter g n<|k+1:=T.at λo e=>t.extBut _ _ D.TOi1.symm<|p.extBut _ _ D.i12<|l.extBut _ _ D.TOi1.symm e
 have m2:d.IsTupleIter f m<|k+1:=n2.at λo e=>t.extBut _ _ D.TOi2.symm e
 have I:z<d.objs.size:=_q K;refine (show wpAny _ _ (ĩ (.ref z) (.ref d.objs.size) >>= _) _ _ _ from _c ?_);unfold ĩ;have y6:ū (d.push { cls:=.type "tuple",data:=.seq #[x,y] }) z TI TO .ellipsis:=_e _ K;refine _c<|č y6 (by simp) λh7 p7 G=>?_
 have X:ū h7 z TI TO<|rawInt d.objs.size:=p7
 refine č X (by simp) λr p8 F=>?_;have N:ū r z TI TO<|rawInt d.objs.size:=p8
 have up:∀c o,c≠z->d.get? c=_a o->r.get? c=_a o:=λc o i e=>F.extBut _ _ i<|G.extBut _ _ i<|_e _ e
 have P:Ĝ r d.objs.size x y:=F.extBut _ _ (gg I)<|G.extBut _ _ (gg I)<|_p _ U
 have H:r.objs.size=d.objs.size+1:=by rw[F.1,G.1,ε]
 rw[J] at N P H;refine _k ⟨_,U,?_⟩;show Q (.ref d.objs.size) _;rw[J];exact q r N (up _ _ D.TOz O) (Z.at λo e=>up _ o D.i1z e) (m2.at λo e=>up _ o D.i2z e) P H λc o i u C B e=>up c o i<|k5 c o i u C B e
theorem Y9{z TI TO d i h y:_g}{k:_d}{xs:_E _j}{a b:_j}{Q:Fin->_C->Prop}(B:A.handled=_n)(D:_aT z TI TO d i h y)
  (hz:ū s.heap z TI TO .none)(K:Ĝ s.heap TI (.ref d)<|.ref i)(N:Ĝ s.heap TO a b)
  (j1:s.heap.IsTupleIter d h k)(F:s.heap.IsTuple h xs)(I:xs[k]? = _n)
  (q:∀h' e,(∀c o,c≠z->c≠TO->c≠d->c≠i->s.heap.get? c=_a o->h'.get? c=_a o)->(∃o,h'.get? e=_a o/\o.cls=.type "StopIteration")->E (.ref e) { s with heap:=h' }) :
  wpAny (_z prog w) A (É.«zip.__next__» ⟨[.ref z],[]⟩) Q E s:=by
 refine (show wpAny _ _ (field (.ref z) 2 >>= _) _ _ _ from _c<|υ hz U (x:=.bool _r) U (show wpAny _ _ (field (.ref z) 3 >>= _) _ _ _ from _c<|υ hz U (x:=.ref TI) U<|_c<|Ò K U ?_));refine (show wpAny _ _ (Φ (.ref z) >>= _) _ _ _ from _c ?_);unfold Φ;refine _c<|υ hz U (x:=.none) U<|_k ?_
 simp only[ÿ];refine _c<|Ç<|_c<|υ hz U (x:=.ref TO) U<|_c<|č hz (by simp) λL v g=>?_
 have M:ū L z TI TO .ellipsis:=v;refine _c ?_;simp only[Ŭ,ME,Ŷ,OR];refine _c<|_c<|A4 (show wpAny _ _ (ψ (.ref d) >>= _) _ _ _ from _c<|Nq B (j1.at λo e=>g.extBut _ _ D.i1z e) (F.at λo e=>g.extBut _ _ D.l1z e) I λJ x p j=>?_)
 obtain⟨t,f,n⟩:=j;have l:ū J z TI TO .ellipsis:=p _ _ D.i1z.symm M;have H:x≠z:=λu=>by subst u;rw[l] at f;cases f;simp at n
 exact č l (by simp) λC _ r=>q C x (λc o m _ G _ e=>r.extBut _ _ m<|p _ _ G<|g.extBut _ _ m e) ⟨t,r.extBut _ _ H f,n⟩
end
abbrev yV(h:Θ)(a1:_g):Heap:=h.push { cls:=.type "tuple_iterator",data:=.fields #[.ref a1,.int 0 0] }
abbrev yJ(h:Θ)(a1 a2:_g):Heap:=(yV h a1).push { cls:=.type "tuple_iterator",data:=.fields #[.ref a2,.int 0 0] }
abbrev yh(h:Θ)(a1 a2:_g):Heap:=(yJ h a1 a2).push { cls:=.type "tuple",data:=.seq #[.ref h.objs.size,.ref (yV h a1).objs.size] }
abbrev yM(h:Θ)(a1 a2:_g):Heap:=(yh h a1 a2).push { cls:=.type "tuple",data:=.seq #[.none,.none] }
abbrev qg(h:Θ)(a1 a2:_g):Heap:=(yM h a1 a2).push { cls:=.type "zip",data:=.fields #[.none,.bool _r,.bool _r,.ref (yJ h a1 a2).objs.size,.ref (yh h a1 a2).objs.size] }
theorem cB(a b:_g)(xs ys:_E _j):Meets (É.«zip.__new__» ⟨[.type "zip",.ref a,.ref b],[]⟩) (λ_ R s=>s.heap.IsTuple a xs/\s.heap.IsTuple b ys /\
   R (.ok<|.ret<|.ref (yM s.heap a b).objs.size) { s with heap:=qg s.heap a b }) :=
 .of_wp λf w A R s h=>by
  obtain⟨c,g,d,tk,os⟩:=s;obtain⟨m,l,h⟩:=h;have i:=sub_zip;have j:xh (TH ⟨c,g,d,tk,os⟩) a xs:=m;have k:xh (TH ⟨c.push { cls:=.type "tuple_iterator",data:=.fields #[.ref a,.int 0 0] },g,d,tk,os⟩) b ys:=Heap.IsTuple.at l λo e=>_e _ e
  wp_walk using ů j,ů k
  exact⟨_,U,h⟩
section
variable{w:_O}{E:vSP}
theorem Xw{a b:_g}{xs ys:_E _j}(r:s.heap.IsTuple a xs)(u:s.heap.IsTuple b ys)
  (q:∀h' n,n=s.heap.objs.size->ū h' (n+4) (n+2) (n+3) .none->Ĝ h' (n+2) (.ref n) (.ref<|n+1)->Ĝ h' (n+3) .none .none->h'.IsTupleIter n a 0->h'.IsTupleIter (n+1) b 0->h'.objs.size=n+5 ->
   (∀c o,s.heap.get? c=_a o->h'.get? c=_a o)->Q (.ref<|n+4) { s with heap:=h' }):wpAny (_z prog w) A (call (.type "zip") [.ref a,.ref b]) Q E s:=by
 refine callType_new F.called_zip (by decide) (F.typeCall_zip_2 _ _) (F.newCall_zip_2 _ _) (λd=>F.args_object_init_3 d _ _) F.entry_zip_new (cB a b xs ys) ⟨r,u,?_⟩;have f:(yV s.heap a).objs.size=s.heap.objs.size+1:=ε ..;have g:(yJ s.heap a b).objs.size=s.heap.objs.size+2:=by rw[ε,f]
 have j:(yh s.heap a b).objs.size=s.heap.objs.size+3:=by rw[ε,g]
 have h:(yM s.heap a b).objs.size=s.heap.objs.size+4:=by rw[ε,j]
 have t:(qg s.heap a b).objs.size=s.heap.objs.size+5:=by rw[ε,h]
 have i:(qg s.heap a b).get? (yM s.heap a b).objs.size=_a _:=_p _ U;have l:(qg s.heap a b).get? (yh s.heap a b).objs.size=_a _:=_e _<|_p _ U
 have m:(qg s.heap a b).get? (yJ s.heap a b).objs.size=_a _:=_e _<|_e _<|_p _ U
 have k:(qg s.heap a b).get? (yV s.heap a).objs.size=_a _:=_e _<|_e _<|_e _<|_p _ U
 have p:(qg s.heap a b).get? s.heap.objs.size=_a _:=_e _<|_e _<|_e _<|_e _<|_p _ U
 refine (show _/\_ from ?_);rw[g,j,h] at i;rw[f,g] at m;rw[j] at l;rw[f] at k;rw[h];exact⟨⟨_,i,U⟩,q _ _ U i m l ⟨_,p,U,U⟩ ⟨_,k,U,U⟩ t λc o e=>_e _<|_e _<|_e _<|_e _<|_e _ e⟩
end
noncomputable def Eu(env:ŧ):_b (_A×ę)->_b (_A×_g)->_b (_A×_g)
 |[],i7=>i7
 |(n,k)::r,i7=>if k == .free then (match env.cells.lookup n with | some a=>Eu env r ((n,a)::i7) | none=>Eu env r i7) else Eu env r i7
theorem NT{b:ŧ}(h:∀y∈scope.names,y.2=.free->∃c,b.cells.lookup y.1=_a c):closureFor scope b=pure (Eu b scope.names []):=by
 unfold closureFor;have o:∀(l:_b<|_A × ę)(f:_b<|_A × _g),(∀y∈l,y.2=.free->∃c,b.cells.lookup y.1=_a c) ->
   (forIn l f λ(x:_A×ę) (p:_b (_A×_g))=>(match x with | (name,kind)=>if (kind == Γ)=_h then (do let a <-cellOf b name;pure (Ý<|(name,a)::p)) else pure (Ý p):ww<|ForInStep<|_b<|_A×_g))=(pure (Eu b l f):ww _):=by
  intro l
  induction l with
  |nil=>intro f _;rfl
  |cons x r q =>
   intro f j;obtain⟨n,k⟩:=x;rw[Ŷ];unfold Eu;by_cases i:(k == Γ)=_h
   .obtain⟨c,s⟩:=j (n,k) Î<|by simpa using i
    have d:b.cells.lookup n=_a c:=s;have e:cellOf b n=pure c:=by unfold cellOf;rw[d]
    simp only[i,ÿ,e,d];exact q _ λy g=>j y<|aT _ g
   .simp only[i];exact q _ λy g=>j y<|aT _ g
 have:=o scope.names [] h;exact (congrArg (λ(m:ww (_b (_A×_g)))=>m >>= λz=>pure z) this).trans U
theorem JP(b:ŧ):∀(l:_b<|_A × ę)(i7:_b<|_A × _g)(y:_A)(c:_g),(Eu b l i7).lookup y=_a c->i7.lookup y=_a c \/ b.cells.lookup y=_a c
 |[],_,_,_,h=>.inl h
 |(n,k)::r,i7,y,c,h=>by
  unfold Eu at h;split at h
  .split at h
   .rename_i a d;rcases JP b r _ y c h with z | z
    .rw[iA] at z;split at z
     .rename_i e
      cases z;have f:y=n:=by simpa using e
      subst f;exact .inr d
     .exact .inl z
    .exact .inr z
   .exact JP b r _ y c h
  .exact JP b r _ y c h
theorem JM(a:ŧ):∀(l:_b<|_A × ę)(i7:_b<|_A × _g)(y:_A),(i7.lookup y).isSome=_h->((Eu a l i7).lookup y).isSome=_h
 |[],_,_,h=>h
 |(n,k)::r,i7,y,h=>by
  unfold Eu;split
  .split
   .refine JM a r _ y ?_;rw[iA];split
    .rfl
    .exact h
   .exact JM a r _ y h
  .exact JM a r _ y h
theorem Gv(a:ŧ):∀(l:_b<|_A × ę)(i7:_b<|_A × _g)(y:_A),(y,Γ)∈l->(a.cells.lookup y).isSome=_h->((Eu a l i7).lookup y).isSome=_h
 |[],_,_,h,_=>nomatch h
 |(n,k)::r,i7,y,h,b=>by
  unfold Eu;rcases bq.mp h with e | h
  .obtain⟨d,c⟩:=Prod.mk.inj e;subst d;subst c;rw[_o (by decide)];split
   .refine JM a r _ y ?_;rw[iA];simp
   .rename_i e;rw[e] at b
    cases b
  .split
   .split
    .exact Gv a r _ y h b
    .exact Gv a r _ y h b
   .exact Gv a r _ y h b
def dO(x:_A)(N:_b _A):_b Str:=N.map λy=>if y=x then "" else y
def JT(X:Cx)(ns N':_b _A)(scope:Scope)(C:_g)(s₀:_C)(H₀:Hp)(fp:_b _g):Cx where
 prog:=X.prog
 w:=X.w
 K:=X.K
 mg:=X.mg
 base:=X.base
 A:=X.A
 N:=ns++N'
 s₀:=s₀
 H₀:=H₀
 env:=compEnvC scope (Eu X.env scope.names []) C X.env
 outer:=X.stack
 stack:=X.stack
 ex:=fp
 fn:=λ_=>_r
 calm:=X.calm
 pn:=[]
 xe:=λ_ _=>Χ
theorem Iv(a:ŧ)(y:_A):∀names:_b<|_A×ę,
  (names.map λ(n,k)=>if (k == Γ && a.scope.kind == .function && a.kindOf n == _a .cell) then (n,ò) else (n,k)).lookup y =
   (names.lookup y).map λk=>if (k == Γ && a.scope.kind == .function && a.kindOf y == _a .cell) then ò else k
 |[]=>rfl
 |(n,k)::r=>by
  have b:=Iv a y r;rw[df];show ą y ((if (k == Γ && a.scope.kind == .function && a.kindOf n == _a .cell)=_h then (n,ò) else (n,k))::_)=_;have c:(if (k == Γ && a.scope.kind == .function && a.kindOf n == _a .cell)=_h then (n,ò) else (n,k))=(n,if (k == Γ && a.scope.kind == .function && a.kindOf n == _a .cell)=_h then ò else k):=by split <;> rfl
  rw[c,iA,iA]
  cases hx:y == n with
  |true =>
   have e:y=n:=by simpa using hx
   subst e;rfl
  |false=>exact b
structure Dd(X:Cx)(ns N':_b _A)(scope:Scope):Prop where
 kind:scope.kind=.function
 nocell:∀y∈scope.names,y.2≠.cell
 names:∀y∈scope.names,y.2=.local->scope.names.lookup y.1=_a .local
 loc:∀y∈ns,scope.names.lookup y=_a .local
 free:∀y∈scope.names,y.2=.free->X.env.kindOf y.1=_a .cell \/ X.env.kindOf y.1=_a .free
 nd:(ns++N').Nodup
 len:N'.length=X.N.length
 sub:∀(i:_d) y k,N'[i]? = _a y->scope.names.lookup y=_a k->X.N[i]? = _a y/\k≠.local
def aW(ns N':_b _A)(scope osc:Scope)(N:_b _A):Bool :=
 (scope.kind == .function) && scope.names.all (λy=>y.2 != .cell && (y.2 != .local || scope.names.lookup y.1 == _a .local) && (y.2 != .free || osc.names.lookup y.1 == _a .cell || osc.names.lookup y.1 == _a .free)) && ns.all (λy=>scope.names.lookup y == _a .local) &&
 decide ((ns++N').Nodup) && (N'.length == N.length) && (N'.zip N).all (λp=>scope.names.lookup p.1 == _n || scope.names.lookup p.1 != _a .local && p.1 == p.2)
theorem Nv{ns N':_b _A}{osc:Scope}{N:_b _A}(n:X.env.scope=osc)(e:X.N=N)(h:aW ns N' scope osc N=_h):Dd X ns N' scope:=by
 unfold aW at h;simp only[Ω] at h;obtain⟨⟨⟨⟨⟨q,c⟩,j⟩,o⟩,m⟩,g⟩:=h;rw[eM] at c j g;have b:∀y,X.env.kindOf y=osc.names.lookup y:=λy=>by show X.env.scope.names.lookup y=_;rw[n]
 refine⟨by simpa using q,λy a=>?_,λy a d=>?_,λy a=>by simpa using j y a,λy a d=>?_,_G o,by rw[e];simpa using m,λi y k l p=>?_⟩
 .have:=c y a;simp only[Ω,bne_iff_ne] at this;exact this.1.1
 .have:=c y a;simp only[Ω] at this;simpa [d] using this.1.2
 .have:=c y a;simp only[Ω] at this;rw[b];simpa [d] using this.2
 .have s:N'.length=N.length:=by simpa using m
  have r:=(ag.mp l).1;obtain⟨z,f⟩:∃z,N[i]? = _a z:=⟨_,af<|by lia⟩;have:=g (y,z)<|am (i:=i)<|by rw[List.getElem?_zip_eq_some];exact⟨l,f⟩
  simp only[p] at this;simp at this;exact⟨by rw[e,f,this.2],this.1⟩
section
variable{ns N':_b _A}
theorem Tc{tk:_d}{m:_A->_t _j}(I:Inv X b9 σ H s)(S:Dd X ns N' scope)(L:∀b∈fp,K4 X b9 H b)(K:∀b∈fp,b<s.heap.objs.size)(O:s.heap.objs.size<=C)(Y:h'.Ns C m)
  (G:∀b o,s.heap.get? b=_a o->h'.get? b=_a o):Inv (JT X ns N' scope C s H fp) [] (ns.map (λ_=>_n)++σ) H { s with heap:=h',toks:=tk }:=by
 have t:∀y c,(Eu X.env scope.names []).lookup y=_a c->X.env.cells.lookup y=_a c:=λy c e=>by
  rcases JP X.env scope.names [] y c e with z | z
  .cases z
  .exact z
 have g:∀c v,s.heap.IsCell c v->h'.IsCell c v:=λc v ⟨o,ho,Z⟩=>⟨o,G c o ho,Z⟩;have look:∀y,(JT X ns N' scope C s H fp).env.scope.names.lookup y=(scope.names.lookup y).map λk=>if (k == Γ && X.env.scope.kind == .function && X.env.kindOf y == _a .cell) then ò else k:=λy=>Iv X.env y scope.names
 refine⟨⟨I.ok.mod,S.kind,I.ok.glob,I.ok.blt,O,λy z c e1 e2=>I.ok.inj y z c (t y c e1)<|t z c e2,λy W=>?_,λy c e _=>(by cases e),λh=>I.ok.hd h,I.ok.frames,.inl U,λb q=>?_,I.bs,bo I.ok.bsz I.sz,λb o e q=>?_,λb q J=>?_,I.stack,I.Ko⟩,
  rfl,I.bare,Un.kept G,⟨m,Y,λi y v N w h3=>?_⟩,λy c e=>?_,I.hok.fresh O,λy c e=>I.freeC y c<|t y c e,λp hp=>_D (show p∈([]:_b<|_g×ü) from hp) (by simp),I.hok.kept G,?_⟩
 .have f:(JT X ns N' scope C s H fp).env.scope.names.lookup y=_a .cell \/ (JT X ns N' scope C s H fp).env.scope.names.lookup y=_a .free:=W;rw[look y] at f
  cases e:scope.names.lookup y with
  |none=>rw[e] at f;rcases f with z | z <;> cases z
  |some k =>
   have n:=PySem.mem_of_lookup e;have a:k=.free:=by
    rw[e] at f
    cases k with
    |free=>rfl
    |cell=>exact _D U<|S.nocell _ n
    |_=>rcases f with z | z <;> simp at z
   subst a;obtain⟨c,B⟩:=I.ok.has y<|S.free _ n U;exact hX.mp<|Gv X.env scope.names [] y n (by rw[B];rfl)
 .obtain⟨R,E,D,P,M,Q⟩:=L b q;exact⟨cf<|ba (K b q) O,λy c e=>M y c<|t y c e⟩
 .obtain⟨R,E,D,P,M,Q⟩:=L b q;rcases P with z | z
  .exact I.ok.noex b o e z
  .exact _D (ba (_q e)<|bo I.ok.bsz z)<|fI _
 .obtain⟨R,E,D,P,M,Q⟩:=L b q;rcases bq.mp (I.Uz b J) with e | e
  .exact E e
  .exact D e
 .have N:(ns++N')[i]? = _a y:=N;have V:ns.length<=i:=by
   rcases kR i ns.length with z | z
   .rw[õ (by simpa using z),ċ] at w
    cases e:ns[i]? with
    |none=>rw[e] at w;cases w
    |some _=>rw[e] at w;cases w
   .exact z
  have A:N'[i - ns.length]? = _a y:=by rw[<-N];exact (ci V).symm
  have F:σ[i - ns.length]? = _a (_a v):=by rw[<-w,Ĩ<|by simpa using V,Ι]
  have d:(JT X ns N' scope C s H fp).env.scope.names.lookup y=_a .local \/ (JT X ns N' scope C s H fp).env.scope.names.lookup y=_a .cell \/ (JT X ns N' scope C s H fp).env.scope.names.lookup y=_a .free:=h3;rw[look y] at d
  cases e:scope.names.lookup y with
  |none=>rw[e] at d;rcases d with z | z | z <;> cases z
  |some k =>
   have n:=PySem.mem_of_lookup e;have a:k=.free:=by
    rw[e] at d
    cases k with
    |free=>rfl
    |cell=>exact _D U<|S.nocell _ n
    | «local»=>exact _D U (S.sub _ _ _ A e).2
    |_=>rcases d with z | z | z <;> simp at z
   subst a;have T:=S.free _ n U;obtain⟨m0,aa,AU⟩:=I.loc;obtain⟨u,r,l⟩:=AU _ y v (S.sub _ _ _ A e).1 F<|by rcases T with z | z;exact .inr<|.inl z;exact .inr<|.inr z
   refine⟨u,r,.inr ⟨?_,?_⟩⟩
   .have j:(JT X ns N' scope C s H fp).env.scope.names.lookup y=_a (if (Γ == Γ && X.env.scope.kind == .function && X.env.kindOf y == _a .cell) then ò else Γ):=by
     rw[look y,e];rfl
    by_cases c:(Γ == Γ && X.env.scope.kind == .function && X.env.kindOf y == _a .cell)=_h
    .rw[_o c] at j;exact .inl j
    .rw[_l c] at j;exact .inr j
   .rcases l with⟨lk,_⟩ | ⟨_,c,B,rX⟩
    .exfalso;rcases T with z | z <;> (rw[show X.env.kindOf y=_a NameKind.local from lk] at z;cases z)
    .obtain⟨c',x⟩:=hX.mp<|Gv X.env scope.names [] y n (by rw[B];rfl);have:=t y c' x;rw[B] at this
     cases this;exact⟨c,x,g c _ rX⟩
 .obtain⟨v,z⟩:=I.cell y c<|t y c e;exact⟨v,g c v z⟩
 .show (ns.map (λ_=>_n)++σ).length=(ns++N').length;simp[I.len,S.len]
end
def Pk(X:Cx)(qc:_b Expr)(t:TT):Prop :=
 ∀(b9:_b<|_g × ü)(s:_C)(σ:St)(H:Hp)(Q:_V->Hp->Prop),Inv X b9 σ H s->t σ H Q ->
  wpAny (_z X.prog X.w) X.A (forIn qc _h λc r=>if r=_h then do let ok <-isTrue c X.env (eval c X.env);pure (Ý ok) else pure (Ý r)) (TP X b9 σ Q) X.xe s
abbrev gU:TT:=λ_ H Q=>Q _h H
theorem CJ:Pk X [] gU:=λ_ _ _ H _ I h=>wpAny_tests_nil ⟨H,I,h⟩
theorem HF{c:Expr}{t:TT}(h:PT X c t):Pk X [c] t:=λa s σ H Q I q=>wpAny_tests_one<|h a s σ H Q I q
def JH(F:St->Prop)(J:It)(H1:Hp)(Q:VK)(g:TG)(tt:TT)(te:TE):Prop:=∀D,H1 D=_n->∃W:_d->_d->_b V->Hp->Prop,(∃m,W 0 m [] (upd H1 D<|.lst []))/\∀i m ys H2,W i m ys H2 ->
 (J.stop i H2/\Q (.ref D) H2) \/ (J.go i H2/\∀x H3,J.yld i H2 x H3->∀τ,F τ->g x τ H3 λσ' JJ=>F σ'/\tt σ' JJ λb H4 =>
  if b=_h then te σ' H4 λy H5=>H5 D=_a (.lst ys)/\ys.length<sizeLine/\∃m',m'<m/\W (i+1) m' (ys++[y]) (upd H5 D<|.lst<|ys++[y])
  else ∃m',m'<m/\W (i+1) m' ys H4)
def FJ(J:It)(σ:St)(H1:Hp)(Q:VK)(tt:TT)(te:TE):Prop:=∀D,H1 D=_n->∃W:_d->_d->_b V->Hp->Prop,(∃m,W 0 m [] (upd H1 D<|.lst []))/\∀i m ys H2,W i m ys H2 ->
 (J.stop i H2/\Q (.ref D) H2) \/ (J.go i H2/\∀x H3,J.yld i H2 x H3->tt (_a x::σ) H3 λb H4 =>
  if b=_h then te (_a x::σ) H4 λy H5=>H5 D=_a (.lst ys)/\ys.length<sizeLine/\∃m',m'<m/\W (i+1) m' (ys++[y]) (upd H5 D<|.lst<|ys++[y])
  else ∃m',m'<m/\W (i+1) m' ys H4)
abbrev jz(wi:TI)(tt:TT)(te:TE):TE:=λσ H Q=>wi σ H λJ H1=>FJ J σ H1 Q tt te
theorem di{α:Type}{t:ww α}{Q b:α->_C->Prop}{M:xB}{E:vSP}(h:wpAny M A t Q (λ_ _=>Χ) s)(c:∀a s,Q a s->b a s):wpAny M A t b E s:=ν h c λ_ _ x=>x.elim
theorem Inv.sameBut(I:Inv X b9 σ H s)(f:K4 X b9 H C)(a:Á C s.heap h'):Inv X b9 σ H { s with heap:=h' } :=
 I.turned (t':=s.toks) (λb o c e=>(a.2 b c).trans e) f.1 f.2.1 f.2.2.2.1 f.2.2.2.2.1 f.2.2.2.2.2
theorem eY{w:_O}{R:r_->_C->Prop}{it b:_j}{a:ŧ}(J:_d->_C->Prop){E:vSP}(k:E=notedBy (_z prog w) A a λe s'=>R (.error e) s')
  (p:∀n s,J n s->wpAny (_z prog w) A (pyNext it) (λr s1=>match r with
   |none=>R (.ok .next) s1
   |some v=>wpAny (_z prog w) A (letOwnedTupleGo tg it v) (λ_ s2=>wpAny (_z prog w) A (assign tg a v) (λ_ s3 =>
     wpAny (_z prog w) A (forIn qc _h λc r=>if r=_h then do let ok <-isTrue c a (eval c a);pure (Ý ok) else pure (Ý r)) (λok s4 =>
      if ok=_h then wpAny (_z prog w) A (eval qA a) (λx s5=>wpAny (_z prog w) A (call (.builtin "list.append") [b,x]) (λ_ s6=>∃m,m<n/\J m s6) E s5) E s4
      else ∃m,m<n/\J m s4) E s3) E s2) E s1) E s) (n:_d) (h:J n s) :
  codeAny (_z prog w) A (.compLoop (.ListComp qA [⟨tg,iter,qc,0⟩] scope pos) 0 it b a) R s:=by
 subst k;refine codeAny_loop U J (λn s o=>(show wpAny _ A ((compTurn (.ListComp qA [⟨tg,iter,qc,0⟩] scope pos) 0 it b a).onRaise (λx=>do noteFrame x a;theTreesLotGoes x)) _ _ s from wpAny_noted ?_)) n h;rw[compTurn_list];refine _c<|Bn<|_c<|ν (p n s o) (λr s1 f=>?_) λ_ _ q=>q
 cases r with
 |none=>exact _k f
 |some v =>
  refine _c<|ν f (λ_ s2 j=>_c<|ν j (λ_ s3 l=>_c<|ν l (λok s4 d=>?_) λ_ _ q=>q) λ_ _ q=>q) λ_ _ q=>q
  cases ok with
  |false=>exact _k ⟨U,d⟩
  |true=>exact _c<|_c<|ν d (λx s5 i=>_c<|ν i (λ_ s6 g=>_k<|_k ⟨U,g⟩) λ_ _ q=>q) λ_ _ q=>q
section
variable{ns N':_b _A}
theorem MN{g:TG}{c:_C}{B:_d->Θ->Prop}{J:It}{E:vSP}
  {F:St->Prop}{RR:_j->_g->r_->_C->Prop}{Q:VK}
  (hc:X.calm=_h)(S:Dd X ns N' scope)(hg:∀C s₀ H₀ fp,PG (JT X ns N' scope C s₀ H₀ fp) tg g)(ht:∀C s₀ H₀ fp,Pk (JT X ns N' scope C s₀ H₀ fp) qc tt)(he:∀C s₀ H₀ fp,PE (JT X ns N' scope C s₀ H₀ fp) qA te)
  (I2:Inv X b9 σ H2 c)(T:Turn X.prog X.w X.K tg J fp it B)(z:B 0 c.heap)(f2:∀b∈fp,K4 X b9 H2 b)(hF:F<|ns.map (λ_=>_n)++σ)(q:JH F J H2 Q g tt te)
  (XU:∀D C s' H' m,s'.heap.Ns C m->K4 X b9 H' C->Inv X b9 σ H' s'->Q (.ref D) H'->RR (.ref D) C (.ok .next) s') :
  wpAny (_z X.prog X.w) X.A (newList []) (λi7 s₃=>wpAny (_z X.prog X.w) X.A (newFunctionEnv scope X.env.globals (Eu X.env scope.names []) [] X.env.qual _n .none (_a X.env)) (λI0 s₄ =>
   codeAny (_z X.prog X.w) X.A (.compStart (.ListComp qA [⟨tg,iter,qc,0⟩] scope pos) 0 (.ref it) i7 { I0 with scope:=relabel scope X.env }) (RR i7 I0.locals) s₄) E s₃) E c:=by
 refine _X<|M4 S.nocell (by intro y hy;simp at hy) (λs NU NM=>?_) S.kind
 have O:=I2.vL (its:=[]) (ys:=[]) (t':=c.toks) .nil<|cK _
 have as:H2 c.heap.objs.size=none:=I2.fresh;obtain⟨W,⟨m0,w0⟩,va⟩:=q _ as;generalize K:({ c with heap:=c.heap.push { cls:=.type "list",data:=.seq ([]:_b _j).toArray },toks:=c.toks }:_C)=a at O;have P:a.heap=c.heap.push { cls:=.type "list",data:=.seq ([]:_b _j).toArray }:=by rw[<-K]
 have M:∀b∈fp,b<c.heap.objs.size:=λb f=>let ⟨_,e,_⟩:=T.obj _ _ z b f;_q e;have G:∀b∈fp,b<a.heap.objs.size:=λb f=>by rw[P,ε];exact gX<|M b f
 have f3:∀b∈fp,K4 X b9 (upd H2 c.heap.objs.size<|.lst []) b:=λb f=>⟨by rw[An (cf<|M b f)];exact (f2 b f).1,(f2 b f).2⟩;have v:∀b o,a.heap.get? b=_a o->s.get? b=_a o:=λb o e=>by
  have w:b≠a.heap.objs.size:=cf<|_q e
  rw[P] at e w;exact NM.extBut b o w<|_e _ e
 have hC:a.heap.objs.size=(c.heap.push { cls:=.type "list",data:=.seq ([]:_b _j).toArray }).objs.size:=by rw[P]
 have aw:s.Ns a.heap.objs.size<|λx=>([]:_b<|_A×_j).reverse.lookup x:=by rw[hC];exact NU
 have A:B 0 s:=T.keep _ _ _ z λb f o e=>v b o<|by rw[P];exact _e _ e
 have start:∀tk,Inv (JT X ns N' scope a.heap.objs.size a (upd H2 c.heap.objs.size<|.lst []) fp) [] (ns.map (λ_=>_n)++σ) (upd H2 c.heap.objs.size<|.lst []) { a with heap:=s,toks:=tk }:=λtk =>
  Tc O S f3 G (ai _) aw v
 have j:∀tk,codeAny (_z X.prog X.w) X.A (.compLoop (.ListComp qA [⟨tg,iter,qc,0⟩] scope pos) 0 (.ref it) (.ref c.heap.objs.size)<|compEnvC scope (Eu X.env scope.names []) a.heap.objs.size X.env)
   (RR (.ref c.heap.objs.size) a.heap.objs.size) { a with heap:=s,toks:=tk }:=by
  intro tk;refine eY (λn s'=>∃i ys τ H',F τ/\Inv (JT X ns N' scope a.heap.objs.size a (upd H2 c.heap.objs.size<|.lst []) fp) [] τ H' s'/\B i s'.heap/\(∀b∈fp,H' b=_n)/\W i n ys H') U ?_ m0
   ⟨0,[],_,_,hF,start tk,A,λb f=>(f3 b f).1,w0⟩
  rintro n s4 ⟨i,ys,τ,Y,fτ,H,vS,TU,w4⟩;have h:∀{H':Hp},(∀b∈fp,H' b=_n)->∀b∈fp,K4 (JT X ns N' scope a.heap.objs.size a (upd H2 c.heap.objs.size<|.lst []) fp) [] H' b:=λhn b f=>by
   refine⟨hn b f,(H.ok.exf b f).1,H.ok.exfs b f,.inl f,(H.ok.exf b f).2,λp hp=>_D (show p∈([]:_b<|_g×ü) from hp)<|by simp⟩
  rcases va i n ys Y w4 with⟨stop,qn⟩ | ⟨go,step⟩
  .refine CP (T.done (JT X ns N' scope a.heap.objs.size a (upd H2 c.heap.objs.size<|.lst []) fp) U U U hc i [] s4 τ Y _ H (h TU) vS stop) λr s5 ⟨hr,k⟩=>?_;subst hr;obtain⟨m,hn,_⟩:=k.loc;refine XU _ _ s5 Y m hn (O.Td (ai _) k.free) (O.call' (s':=s5) (ch:=fp) k.os k.base k.hok k.bare<|λb f=>?_) qn;obtain⟨_,g1,_,g3,g4,g5⟩:=f3 b f;exact⟨g3,g1,g4,g5⟩
  .refine CP (T.item (JT X ns N' scope a.heap.objs.size a (upd H2 c.heap.objs.size<|.lst []) fp) U U U hc i [] s4 τ Y _ H (h TU) vS go) λr s5 ⟨u,hr,h5⟩=>?_;subst hr;refine CP h5 λ_ s6 h6=>?_;obtain⟨xv,H6,I6,r6,y6,MB,ap⟩:=h6;have YR:=I6.pinned (h ap)<|T.obj _ _ MB
   have again:∀{l:_C}{t:Hp}{L8:_b V}{τ:St},F τ->Inv (JT X ns N' scope a.heap.objs.size a (upd H2 c.heap.objs.size<|.lst []) fp) ([]++Oh fp s6.heap) τ t l->(∃Z,Z<n/\W (i+1) Z L8 t) ->
     ∃m,m<n/\∃i ys τ H',F τ/\Inv (JT X ns N' scope a.heap.objs.size a (upd H2 c.heap.objs.size<|.lst []) fp) [] τ H' l/\B i l.heap/\(∀b∈fp,H' b=_n)/\W i m ys H':=λ{l t L8 τ} N L hw=>by
    obtain⟨Z,hm,w7⟩:=hw;refine⟨Z,hm,i+1,L8,τ,t,N,L.KQ,T.keep _ _ _ MB λb f o e=>(L.pin (b,o)<|db _<|db _<|HY f e).1,λb f=>?_,w7⟩;obtain⟨o,e,d⟩:=T.obj _ _ MB b f;exact (L.pin (b,o)<|db _<|db _<|HY f e).2.1
   refine di (hg _ _ _ _ _ s6 τ H6 xv u _ YR r6<|step xv H6 y6 τ fτ) λ_ l I=>?_;obtain⟨τ,t,L,N,q7⟩:=I;refine di (ht _ _ _ _ _ l τ t _ L q7) λb s8 I=>?_;obtain⟨H8,I8,q8⟩:=I
   cases b with
   |false =>
    rw[_l et] at q8 |-;exact again N I8 q8
   |true =>
    rw[_o U] at q8 |-;refine di (he _ _ _ _ _ s8 τ H8 _ I8 q8) λy s9 I=>?_;obtain⟨yv,H9,I9,r9,U2,ac,q9⟩:=I;refine di (CZ (X:=JT X ns N' scope a.heap.objs.size a (upd H2 c.heap.objs.size<|.lst []) fp) _ s9 τ H9 (.ref c.heap.objs.size) [yv] (.ref c.heap.objs.size) [y] (λ_ H'=>H'=upd H9 c.heap.objs.size (.lst<|ys++[yv])) I9 U (.cons r9 .nil)
     ⟨ys,U2,ac,U⟩) λ_ aD ⟨_,zS,aa,_,an⟩=>?_
    subst an;exact again N aa q9
 have aB:=λtk=>codeAny_compStart_list (R:=RR (.ref c.heap.objs.size) a.heap.objs.size) (j tk)<|T.self X.A 0 { a with heap:=s,toks:=tk } (λab s'=>codeAny (_z X.prog X.w) X.A (.compLoop (.ListComp qA [⟨tg,iter,qc,0⟩] scope pos) 0 ab (.ref c.heap.objs.size)<|compEnvC scope (Eu X.env scope.names []) a.heap.objs.size X.env) (RR (.ref c.heap.objs.size) a.heap.objs.size) s') _ A (j tk)
 subst K;exact aB _
theorem J7{F:St->St->Prop}{c:It->St->Hp->VK->Prop}{f:TI}{g:TG}(z:∀σ,F σ<|ns.map (λ_=>_n)++σ)(b:∀J σ H Q,c J σ H Q->JH (F σ) J H Q g tt te)(A:X.calm=_h)(S:Dd X ns N' scope)(hi:PI X tg iter f)(l:∀C s₀ H₀ fp,PG (JT X ns N' scope C s₀ H₀ fp) tg g)
  (t:∀C s₀ H₀ fp,Pk (JT X ns N' scope C s₀ H₀ fp) qc tt) (k:∀C s₀ H₀ fp,PE (JT X ns N' scope C s₀ H₀ fp) qA te) (u:∀x,foldedSetIterable iter X.env x=pure x) :
  PE X (.ListComp qA [⟨tg,iter,qc,0⟩] scope pos) (λσ H Q=>f σ H λJ H1=>c J σ H1 Q):=by
 intro d s σ H Q I h;rw[eval_ListComp];refine Bz (use:=_n) (cl:=Eu X.env scope.names []) U u (NT λy j b=>I.ok.has y.1<|S.free y j b) S.kind S.names<|CP (hi d s σ H _ I h) λv M G=>CP G λY V B=>?_
 obtain⟨W,fp,R,J,P,e,p,T,a,i,q⟩:=B;subst e;refine MN (RR:=λL C=>compPost (_z X.prog X.w) X.A X.xe _n (EP X d σ Q) L C) (Q:=Q) A S l t k p T a i (z σ) (b _ _ _ _ q) ?_;intro D C N r m n E K w;exact⟨m,n,λO o=>⟨.ref D,r,K.sameBut E o,U,w⟩⟩
theorem ZP{F:St->St->Prop}{u:It->St->Hp->VK->Prop}{y:_A}{b A:ĵ}{w:TI}{g:TG}(Z:∀σ,F σ<|ns.map (λ_=>_n)++σ)(n:∀J σ H Q,u J σ H Q->JH (F σ) J H Q g tt te)(Y:X.N.Nodup)(r:X.N[i]? = _a y)(d:X.env.scope.names.lookup y=_a .local)(hc:X.calm=_h)(S:Dd X ns N' scope)(hi:PI X tg iter w)(K:∀C s₀ H₀ fp,PG (JT X ns N' scope C s₀ H₀ fp) tg g)
  (V:∀C s₀ H₀ fp,Pk (JT X ns N' scope C s₀ H₀ fp) qc tt) (G:∀C s₀ H₀ fp,PE (JT X ns N' scope C s₀ H₀ fp) qA te) (B:swapsWith (.ListComp qA [⟨tg,iter,qc,0⟩] scope pos) (_a<|.Name y b) A.line X.env=pure _h) (W:∀x,foldedSetIterable iter X.env x=pure x) :
  PS X (.Assign [.Name y b] (.ListComp qA [⟨tg,iter,qc,0⟩] scope pos) A) (Xr (λσ H Q=>w σ H λJ H1=>u J σ H1 Q)<|Ci i):=by
 intro k s σ H t I h;rw[exec_Assign_Name_used _ _ _ _ B];refine _c<|Bn<|_c ?_
 show wpAny _ X.A (do let _ <-comprehension (.ListComp qA [⟨tg,iter,qc,0⟩] scope pos) scope X.env _ (newList []) _r (eval iter X.env) (_a<|assign (.Name y b) X.env)) _ _ s;refine _c (ν (Bz (use:=_a<|assign (.Name y b) X.env) (cl:=Eu X.env scope.names []) (Q:=λ_ c=>SP X k t .next c) U W (NT λy d n=>I.ok.has y.1<|S.free y d n) S.kind S.names
  (CP (hi k s σ H _ I h) λv s1 h1=>CP h1 λHV s2 h2=>?_)) (λ_ c o=>_k<|_k o) λ_ _ e=>e)
 obtain⟨it,fp,tn,J,H2,e,M,T,f,E,q⟩:=h2;subst e;refine MN (RR:=λi7 C=>compPost (_z X.prog X.w) X.A X.xe (_a<|assign (.Name y b) X.env) (λ_ c=>SP X k t .next c) i7 C) (Q:=λx H1=>Ci i x σ H1 t.nx) hc S K V G M T f E (Z σ) (n _ _ _ _ q) ?_;intro D C c O m L p hI o;show wpAny _ X.A (assign (.Name y b) X.env<|.ref D) _ _ _;refine VO<|Lg hI Y r (.inl d) (v:=.ref D) U (λs6 I6 P=>?_)<|.inr d
 obtain⟨a,N,R⟩:=P;have l:C≠a:=by
  rcases R with z | z
  .rw[z];exact p.2.1
  .exact _T<|p.2.2.2.2.1 y a z
 exact⟨m,L.sameBut N l,λh' j=>⟨_,O,I6.sameBut p j,o⟩⟩
theorem Ph{b:_C}{a:Hp}(S:Dd X ns N' scope)(hi:ns[i]? = _a x):PG (JT X ns N' scope C b a fp) (.Name x px) (Ci i) :=
 have l:(JT X ns N' scope C b a fp).env.scope.names.lookup x=_a .local:=lookup_relabel_local<|S.loc x<|am hi
 Bg (X:=JT X ns N' scope C b a fp) S.nd (by show (ns++N')[i]? = _a x;rw[õ (sC.mp hi).1];exact hi) (.inl l) (.inr l)
end
abbrev Q8(X:Cx)(x:_A)(scope:Scope):=JT X [x] (dO x X.N) scope
abbrev Lk(X:Cx)(x:_A)(scope:Scope):Prop:=Dd X [x] (dO x X.N) scope
theorem FJ.g{J:It}{Q:VK}(h:FJ J σ H Q tt te):JH (λτ=>∃v,τ=v::σ) J H Q (Ci 0) tt te:=λD g =>
 let ⟨W,a,b⟩:=h D g
 ⟨W,a,λi m f c w=>(b i m f c w).imp id λq=>⟨q.1,λx d y _ e=>by obtain⟨v,rfl⟩:=e;exact⟨⟨_,U⟩,q.2 x d y⟩⟩⟩
theorem Bm{a:TI}(c:X.calm=_h)(S:Lk X x scope)(hi:PI X (.Name x px) iter a)
  (d:∀C s₀ H₀ fp,Pk (Q8 X x scope C s₀ H₀ fp) qc tt) (b:∀C s₀ H₀ fp,PE (Q8 X x scope C s₀ H₀ fp) qA te) (e:∀x,foldedSetIterable iter X.env x=pure x:=by intro _;rfl) :
  PE X (.ListComp qA [⟨.Name x px,iter,qc,0⟩] scope pos) (jz a tt te):=J7 (F:=λσ τ=>∃v,τ=v::σ) (λ_=>⟨_,U⟩) (λ_ _ _ _ q=>q.g) c S hi (λ_ _ _ _=>Ph S U) d b e
theorem Q3{y:_A}{b d:ĵ}{c:TI}(e:X.N.Nodup)(a:X.N[i]? = _a y)(g:X.env.scope.names.lookup y=_a .local)(j:X.calm=_h)(S:Lk X x scope)(hi:PI X (.Name x px) iter c)
  (k:∀C s₀ H₀ fp,Pk (Q8 X x scope C s₀ H₀ fp) qc tt) (h:∀C s₀ H₀ fp,PE (Q8 X x scope C s₀ H₀ fp) qA te) (f:swapsWith (.ListComp qA [⟨.Name x px,iter,qc,0⟩] scope pos) (_a<|.Name y b) d.line X.env=pure true:=by rfl) (l:∀x,foldedSetIterable iter X.env x=pure x:=by intro _;rfl) :
  PS X (.Assign [.Name y b] (.ListComp qA [⟨.Name x px,iter,qc,0⟩] scope pos) d) (Xr (jz c tt te)<|Ci i):=ZP (F:=λσ τ=>∃v,τ=v::σ) (λ_=>⟨_,U⟩) (λ_ _ _ _ q=>q.g) e a g j S hi (λ_ _ _ _=>Ph S U) k h f l
section
variable{Q:VK}
theorem KY{J:It}(p:V->_V)(f:V->V)(hz:xs.length<sizeLine)
  (A:∀i H x,Al H1 H->xs[i]? = _a x->J.go i H)(B:∀i H y H',Al H1 H->i<xs.length->J.yld i H y H'->H'=H/\xs[i]? = _a y)(C:∀H,Al H1 H->J.stop xs.length H)
  (F:∀x∈xs,∀H,Al H1 H->∀R:_V->Hp->Prop,(∀H',Al H H'->R (p x) H')->tt (_a x::σ) H R)
  (t:∀x∈xs,p x=_h->∀H,Al H1 H->∀R:VK,(∀H',Al H H'->R (f x) H')->te (_a x::σ) H R)
  (z:∀D H,H1 D=_n->Al H1 H->H D=_a (.lst<|(xs.filter p).map f)->Q (.ref D) H):FJ J σ H1 Q tt te:=by
 intro D n;have w:Al H1<|upd H1 D<|.lst []:=λb o e=>by rw[An (Ak e n)];exact e
 refine⟨λi m q H=>m=xs.length - i/\i<=xs.length/\q=((xs.take i).filter p).map f/\H D=_a (.lst q)/\Al H1 H,⟨xs.length,by simp,Ε _,by simp,Ai,w⟩,?_⟩;rintro i m q H ⟨rfl,I,rfl,l,c⟩;by_cases a:i<xs.length
 .obtain⟨x,g⟩:∃x,xs[i]? = _a x:=⟨xs[i],by simp[a]⟩;refine .inr ⟨A i H x c g,λy v u=>?_⟩;obtain⟨rfl,h⟩:=B i H y v c a u;rw[g] at h
  cases h;have r:x∈xs:=am g;have j:(((xs.take i).filter p).map f).length<sizeLine:=by
   rw[ah];refine bg (dE _ _)<|bg ?_ hz
   rw[cE];lia
  refine F x r _ c _ λE d=>?_;by_cases k:p x=_h
  .rw[_o k];refine t x r k E (c.trans d) _ λG s=>?_;refine⟨s _ _<|d _ _ l,j,xs.length - (i+1),by lia,U,a,?_,Ai,λb o e=>?_⟩
   .rw[Ā p xs i x g,_o k,ee];rfl
   .rw[An (Ak e n)];exact s _ _<|d _ _<|c _ _ e
  .rw[_l k];refine⟨xs.length - (i+1),by lia,U,a,?_,d _ _ l,c.trans d⟩;rw[Ā p xs i x g,_l k,fN]
 .have e:i=xs.length:=by lia
  subst e;rw[eW] at l;exact .inl ⟨C H c,z D H n c l⟩
theorem Fz{lo:_i}(p:_i->_V)(f:_i->V)(hz:n<sizeLine)
  (o:∀i:_d,i<n->∀H,Al H1 H->∀R:_V->Hp->Prop,(∀H',Al H H'->R (p<|lo+i) H')->tt (_a (.int<|lo+i)::σ) H R)
  (h:∀i:_d,i<n->p (lo+i)=_h->∀H,Al H1 H->∀R:VK,(∀H',Al H H'->R (f<|lo+i) H')->te (_a (.int<|lo+i)::σ) H R)
  (j:∀D H,H1 D=_n->Al H1 H->H D=_a (.lst<|(((_B n).map λ(i:_d)=>lo+(i:_i)).filter p).map f)->Q (.ref D) H):FJ (jn lo n) σ H1 Q tt te:=by
 let g:V->Int:=λv=>match v with | .int i=>i | _=>0
 have c:∀i:_d,i<n->((_B n).map λ(i:_d)=>V.int<|lo+(i:_i))[i]? = _a (.int<|lo+i):=λi a=>by simp[a]
 refine KY (xs:=(_B n).map λ(i:_d)=>V.int<|lo+(i:_i)) (λv=>p<|g v) (λv=>f<|g v) (by simpa using hz) (λi H x _ b=>?_) (λi H y H' _ a e=>?_) (λH _=>?_) (λx b=>?_) (λx b=>?_)<|λD H r k l=>?_
 .have:i<((_B n).map λ(i:_d)=>V.int<|lo+(i:_i)).length:=(ag.mp b).1;show i<n;simpa using this
 .have d:i<n:=by simpa using a
  obtain⟨q,m⟩:=e;subst m;exact⟨q,c i d⟩
 .show n<=_;simp
 .obtain⟨i,a,rfl⟩:=ay.mp b;exact o i<|dL.mp a
 .obtain⟨i,a,rfl⟩:=ay.mp b;exact h i<|dL.mp a
 .refine j D H r k ?_;rw[l,fm,bi,fm,bi];rfl
def yg(z:_A):It:=⟨λi _=>i<z.cps.size,λi H x H'=>H'=H/\∃c,z.cps[i]? = _a c/\x=.str ⟨#[c]⟩,λi _=>z.cps.size<=i⟩
theorem ZQ{w:_O}{K:_s}{z:_A}{t0:LB}{l:è}(t:l = "str_ascii_iterator" \/ l = "str_iterator"):Turn P w K tg (yg z) [it] it (λi h=>h.IsStrIter it l z t0 i) where
 mem:=by simp
 obj:=λi h st b a=>by
  have e:b=it:=by simpa using a
  subst e;obtain⟨o,R,y,Z⟩:=st;exact⟨o,R,λv q=>by rw[Z] at q;cases q⟩
 keep:=λi h f st k=>let ⟨o,R,r⟩:=st;⟨o,k it (by simp) o R,r⟩
 item:=by
  intro X F O M y i N s σ H E I B st G;subst F O M;obtain⟨p,m,V,D,C,n⟩:=B it<|by simp
  have g:i<z.cps.size:=G;have j:z.cps[i]? = _a z.cps[i]:=_u g;have fin:∀f,f.IsStrIter it l z t0 (i+1)->Á it s.heap f->∃u,_a (į ⟨#[z.cps[i]]⟩ s.toks)=_a u /\
    wpAny (_z X.prog X.w) X.A (letOwnedTupleGo tg (.ref it) u) (λ_ T=>∃x J,Inv X N σ J T/\RelV x u/\(yg z).yld i H x J/\T.heap.IsStrIter it l z t0 (i+1)/\∀b∈[it],J b=_n) E { s with heap:=f,toks:=s.toks+1 }:=λf S Y=>by
   have I1:Inv X N σ H { s with heap:=f,toks:=s.toks+1 }:=I.turned (λb o a e=>(Y.2 b a).trans e) p m D C n;obtain⟨o,e,c,d⟩:=id S;refine⟨_,U,Ry (s:={ s with heap:=f,toks:=s.toks+1 }) e c d (by rcases t with rfl | rfl <;> decide) ⟨.str ⟨#[z.cps[i]]⟩,H,I1,⟨_,rfl⟩,⟨rfl,_,j,rfl⟩,S,λb a=>(B b a).1⟩⟩
  rcases t with rfl | rfl
  .exact wpAny_pyNext_ascii_item st j fin
  .exact wpAny_pyNext_wide_item st j fin
 done:=by
  intro X F O M y i N s σ H E I B st G;subst F O M;obtain⟨p,m,V,D,C,n⟩:=B it<|by simp
  have j:z.cps[i]? = none:=by
   have g:z.cps.size<=i:=G;simpa using g
  rcases t with rfl | rfl
  .exact wpAny_pyNext_ascii_end (I.ok.hd y) st j λf L=>⟨U,I.turned (t':=s.toks) (λb o a e=>L b o a e) p m D C n⟩
  .exact wpAny_pyNext_wide_end (I.ok.hd y) st j λf L=>⟨U,I.turned (t':=s.toks) (λb o a e=>L b o a e) p m D C n⟩
 self:=λA i s Q E st h=>by
  rcases t with rfl | rfl
  .exact wpAny_pyIter_striter_ascii st h
  .exact wpAny_pyIter_striter_wide st h
end
inductive jm(R:It->Hp->Prop)(x:V)(H1:Hp):Prop
|mk(z:_)(_:x=.str z)(_:R (yg z) H1)
abbrev yo(tl:TE):TI:=λσ H R=>tl σ H λx H1=>jm R x H1
theorem mH{l:Expr}{f:TE}(n:PE X l f):PI X tg l<|yo f:=by
 intro g s σ H R I h;refine CP (n g s σ H _ I h) λv a k=>?_;obtain⟨x,r,d,i,m⟩:=k;obtain⟨z,e,q⟩:=m;subst e;obtain⟨t,rfl⟩:=i;have fin:∀c,(c = "str_ascii_iterator" \/ c = "str_iterator")->PIE X g σ tg R (.ref a.heap.objs.size) { a with heap:=a.heap.push { cls:=.type c,data:=.fields #[.str z t,.int 0 0] } }:=λc p=>by
  refine⟨a.heap.objs.size,[a.heap.objs.size],_,_,r,U,d.kept (t':=a.toks) λb o e=>_e _ e,ZQ (z:=z) (t0:=t) p,⟨_,_p _ U,U,U⟩,λb j=>?_,q⟩;have e:b=a.heap.objs.size:=by simpa using j
  subst e;exact d.Td (ai _)<|d.hok.fresh<|ai _
 cases ha:z.cps.all (· < 128)
 .exact wpAny_pyIter_wide ha<|fin _<|.inr U
 .exact wpAny_pyIter_ascii ha<|fin _<|.inl U
section
variable{Q:VK}
def sgn(c:_d):V:=.str ⟨#[c]⟩
theorem Z8{z:_A}(p:_d->_V)(f:_d->V)(hz:z.length<sizeLine)
  (l:∀c∈z.cps.toList,∀H,Al H1 H->∀R:_V->Hp->Prop,(∀H',Al H H'->R (p c) H')->tt (_a (sgn c)::σ) H R)
  (e:∀c∈z.cps.toList,p c=_h->∀H,Al H1 H->∀R:VK,(∀H',Al H H'->R (f c) H')->te (_a (sgn c)::σ) H R)
  (h:∀D H,H1 D=_n->Al H1 H->H D=_a (.lst<|(z.cps.toList.filter p).map f)->Q (.ref D) H):FJ (yg z) σ H1 Q tt te:=by
 let g:V->Nat:=λv=>match v with | .str y=>y.cps.getD 0 0 | _=>0
 refine KY (xs:=z.cps.toList.map sgn) (λv=>p<|g v) (λv=>f<|g v) (by simpa [ě] using hz) (λi H x _ b=>?_) (λi H y H' _ o d=>?_) (λH _=>?_) (λx b=>?_) (λx b=>?_)<|λD H n j k=>?_
 .have:i<(z.cps.toList.map sgn).length:=(ag.mp b).1;show i<z.cps.size;simpa using this
 .obtain⟨m,c,a,rfl⟩:=d;refine⟨m,?_⟩;rw[ar,_w,a];rfl
 .show z.cps.size<=_;simp
 .obtain⟨c,a,rfl⟩:=ay.mp b;exact l c a
 .obtain⟨c,a,rfl⟩:=ay.mp b;exact e c a
 .refine h D H n j ?_;rw[k,fm,bi];rfl
end
theorem range_all(bs:_b _V):((_B bs.length).all λi=>(bs[i]?).getD _h)=bs.all id:=by
 rw[dA,eM,eM];constructor
 .intro h b d;obtain⟨i,c,e⟩:=hV.mp d;have:=h i<|dL.mpr c
  rw[af c,e] at this;exact this
 .intro h i c;have a:=dL.mp c;rw[af a];exact h _<|de a
theorem Kd(B:X.calm=_h):Eo X (.builtin "all") (λxs H Q=>∃(p:_g)(bs:_b _V),xs=[V.ref p]/\Cp X.K H p (bs.map V.bl)/\Q (.bl<|bs.all id) H):=by
 intro L s σ H xs E Q I r h;obtain⟨p,bs,rfl,D,q⟩:=h;obtain⟨u,rfl,k⟩:=vals1 r
 cases k;obtain⟨a,t,j,M⟩:=I.list D;have c:bs.length=a.length:=by have:=t.length;rw[ah] at this;exact this
 have g:p<s.heap.objs.size:=by obtain⟨_,e,_⟩:=j.isList;exact _q e
 refine call_all_walk<|Ę j.isList ?_
 refine⟨s.heap.objs.size,[s.heap.objs.size,p],[s.heap.objs.size],a.toArray.size,_,_,λi=>(bs[i]?).getD _h,U,Walks.list (A:=X.A.in1) (I.ok.hd B) _ p (cf g) a.toArray,
  ⟨⟨_,_p _ U,U,U⟩,j.isList.push _⟩,λi v F G J w d=>?_,λK tk z=>?_⟩
 .have n:a[i]? = _a v:=by simpa using w
  have C:i<a.length:=(ag.mp n).1;have l:bs[i]? = _a bs[i]:=by simp[c,C]
  obtain⟨u,m,k⟩:=t.get (i:=i) (x:=.bl bs[i])<|by rw[ar,l];rfl
  rw[n] at m
  cases m
  cases k;dsimp only at d;rw[l] at d;exact η d
 .have e:((_B a.toArray.size).all λi=>(bs[i]?).getD _h)=bs.all id:=by rw[bp,<-c];exact range_all bs
  rw[e];refine⟨.bl<|bs.all id,H,I.kept (t':=tk) λb o f=>z b o (λy=>?_)<|_e _ f,U,q⟩;rw[al.mp y] at f;exact fI _<|_q f
theorem Di:Eo X (.builtin "isinstance") (λxs H Q=>∃x T t b,xs=[x,V.ty T]/\LR X.K H x t/\Ú X.K t (.type T)=_a b/\Q (.bl b) H):=by
 intro g s σ H xs f Q I r h;obtain⟨x,T,t,b,rfl,a,e,q⟩:=h;obtain⟨u,v,rfl,d,c⟩:=Vals.two r
 cases c;exact Xl I d a e λtk=>⟨.bl b,H,I.tok _,U,q⟩
theorem cD:yl X (λx lo hi H Q=>∃z,x=.str z/\z.length<=sizeLine/\Q (.str<|Txt.slice z lo hi) H):=by
 intro m s σ H x v o r lo hi p Q I g b n d h;obtain⟨z,rfl,a,q⟩:=h;obtain⟨t,rfl⟩:=g;refine⟨"str",_,F.slot_str_getitem.lookup,RA _ _ _,?_⟩;have fin:∀f k,EP X m σ Q (.str (Txt.slice z lo hi) f) { s with toks:=k }:=λf k=>⟨.str _,H,I.tok _,⟨_,U⟩,q⟩
 cases n with
 |none =>
  cases d with
  |none=>exact ď (l:=_n) (u:=_n) (st:=_n) b U<|ŋ ⟨bo (Txt.slice_le z _ _) a,fin⟩
  |int j c=>exact ď (l:=_n) (u:=_a (j,c)) (st:=_n) b U<|ŋ ⟨bo (Txt.slice_le z _ _) a,fin⟩
 |int i e =>
  cases d with
  |none=>exact ď (l:=_a (i,e)) (u:=_n) (st:=_n) b U<|ŋ ⟨bo (Txt.slice_le z _ _) a,fin⟩
  |int j c=>exact ď (l:=_a (i,e)) (u:=_a (j,c)) (st:=_n) b U<|ŋ ⟨bo (Txt.slice_le z _ _) a,fin⟩
theorem BR{osc:Scope}{N:_b _A}(b:X.env.scope=osc)(a:X.N=N)(h:aW [x] (dO x N) scope osc N=_h):Lk X x scope:=by
 subst a;exact Nv b U h
theorem RG{α:Type}{xs:_b α}{i:_i}(b:0<=i)(c:i<xs.length):∃v,TQ xs i=_a v/\v∈xs:=by
 have a:i.toNat<xs.length:=by lia
 refine⟨xs[i.toNat],?_,de a⟩;have:=Aj (xs:=xs) (j:=i.toNat) (v:=xs[i.toNat])<|by simp[a]
 have e:((i.toNat:_d):_i)=i:=by lia
 rw[e] at this;exact this
theorem Inv.SM{ch:_b _g}{t':_d}(I:Inv X b9 σ H s)(h:∀b∈ch,K4 X b9 H b)(k:∀b u,b ∉ ch->s.heap.get? b=_a u->h'.get? b=_a u)(j:s.heap.objs.size<=a)
  (i:Cd X.prog X.w (upd H a o) h' a o):Inv X b9 σ (upd H a o) { s with heap:=h',toks:=t' }:=by
 have w:H a=none:=I.hok.fresh j;have up:∀b u,H b=_a u->upd H a o b=_a u:=λb u e=>by rw[An (Ak e w)];exact e
 refine I.step (g':=s.gens) (d':=s.drawn) (ch:=ch) (λb g=>?_) (λb u _ _ d e _=>k b u d e) (λb u _ _ d e _=>⟨u.slots,k b u d e⟩) (λb u _ e n=>?_)
  (λb u d e=>⟨u,k b u d e⟩) (λb G e=>up _ _ e) (λb u x e=>up _ _ e) (λb ps e=>⟨#[],by rw[up _ _ e];simp⟩) (λm l=>?_) (λb u e=>?_) I.bare
 .obtain⟨F,p,E,D,B,A⟩:=h b g;exact⟨D,p,B,A⟩
 .rw[An (cf<|ba (_q e) j)];exact n
 .obtain⟨u,y,t,C,r⟩:=l;exact⟨u,y,t,k _ u (λz=>(h _ z).2.1 rfl) C,r⟩
 .by_cases g:b=a
  .subst g;rw[Ai] at e
   cases e;exact i
  .rw[An g] at e;refine (I.hok b u e).stay (λc v d q=>k c v (λz=>?_) q) (λ_ q=>up _ _ q) λ_ _ q=>up _ _ q;have f:=(h c z).1;rcases d with d | d
   .rw[d,e] at f
    cases f
   .rw[d] at f
    cases f
theorem Inv.V1{ch:_b _g}{t':_d}(I:Inv X b9 σ H s)(f:∀b∈ch,K4 X b9 H b)(k:∀b u,b ∉ ch->s.heap.get? b=_a u->h'.get? b=_a u):Inv X b9 σ H { s with heap:=h',toks:=t' }:=by
 refine I.step (g':=s.gens) (d':=s.drawn) (ch:=ch) (λb j=>?_) (λb u _ _ a e _=>k b u a e) (λb u _ _ a e _=>⟨u.slots,k b u a e⟩) (λb u _ e n=>n)
  (λb u a e=>⟨u,k b u a e⟩) (λb B e=>e) (λb u x e=>e) (λb ps e=>⟨#[],by rw[e];simp⟩) (λm g=>?_) (λb u e=>?_) I.bare
 .obtain⟨A,h,y,w,p,o⟩:=f b j;exact⟨w,h,p,o⟩
 .obtain⟨u,l,i,t,r⟩:=g;exact⟨u,l,i,k _ u (λz=>(f _ z).2.1 rfl) t,r⟩
 .refine (I.hok b u e).stay (λc v a q=>k c v (λz=>?_) q) (λ_ q=>q) λ_ _ q=>q;have d:=(f c z).1;rcases a with a | a
  .rw[a,e] at d
   cases d
  .rw[a] at d
   cases d
def sI(K:_s)(a:_g):It :=
 ⟨λi H=>∃xs x,Cp K H a xs/\xs[i]? = _a x,λi H v H'=>∃T,H T=_n/\v=.ref T/\∀xs,Cp K H a xs->∃x,xs[i]? = _a x/\H'=upd H T (.tup [.int (i:_i),x]),λi H=>∃xs,Cp K H a xs/\xs.length<=i⟩
def Itz(K:_s)(a b:_g):It :=
 ⟨λi H=>∃xs ys x y,Fd K H a xs/\Fd K H b ys/\xs[i]? = _a x/\ys[i]? = _a y,λi H v H'=>∃T,H T=_n/\v=.ref T/\∀xs ys,Fd K H a xs->Fd K H b ys->∃x y,xs[i]? = _a x/\ys[i]? = _a y/\H'=upd H T (.tup [x,y]),
  λi H=>∃xs,Fd K H a xs/\xs.length<=i⟩
theorem YW{w:_O}{K:_s}{k1:_d}(a e it:_g)(l:e≠it) :
  Turn P w K (.Tuple es k1 pos) (sI K a) [e,it] e (λi h=>(∃old,IsEnum h e it i old)/\h.IsListIter it a i) where
 mem:=by simp
 obj:=λi h st b f=>by
  obtain⟨⟨old,g⟩,o,ho,c,d⟩:=st;rcases bq.mp f with rfl | f
  .exact⟨_,g,λv z=>by
    have z':Ap _=Ū v:=z
    cases z'⟩
  .have q:b=it:=by simpa using f
   subst q;exact⟨o,ho,λv z=>by rw[d] at z;cases z⟩
 keep:=λi h h' st k=>by
  obtain⟨⟨old,g⟩,j⟩:=st;exact⟨⟨old,k e (by simp) _ g⟩,j.at λo q=>k it (by simp) o q⟩
 item:=by
  intro X t C B L i b9 s σ H E I n st y;subst t C B;obtain⟨xs,x,r,F⟩:=y;obtain⟨A,G,p,hz⟩:=I.list r;obtain⟨u,R,ru⟩:=G.get F;obtain⟨⟨old,g⟩,j⟩:=st;refine wpAny_pyNext_enum_item g j p.isList (x:=u) (by simpa using R) l λM O n2 V n4 T=>?_;refine⟨_,U,wpAny_letOwnedTupleGo_enum (s:={ s with heap:=M,toks:=s.toks+1 }) O λh2 S D=>?_⟩;have J:s.heap.objs.size≠e:=gg<|_q g
  have hI:s.heap.objs.size≠it:=by obtain⟨_,q,_⟩:=j;exact gg<|_q q
  have Q:H s.heap.objs.size=none:=I.hok.fresh<|ai _
  have nw:Cd X.prog X.w (upd H s.heap.objs.size<|.tup [.int (i:_i),x]) h2 s.heap.objs.size (.tup [.int (i:_i),x]) :=
   ⟨by show 2<=sizeLine;decide,[.int i s.toks,u],.cons ⟨_,U⟩<|.cons ru .nil,_,D.extBut _ _ J V,U,_,U⟩
  refine⟨.ref s.heap.objs.size,_,I.SM (t':=s.toks+1) (ch:=[e,it]) n (λb o f q=>?_) (ai _) nw,U,⟨_,Q,U,λys N=>⟨x,by rw[I.Ri N r];exact F,U⟩⟩,⟨⟨u,?_⟩,n2.at λo q=>D.extBut _ _ (_T l) q⟩,λb f=>?_⟩
  .exact D.extBut _ _ (λz=>f<|by simp[z])<|T b o (λz=>f<|by simp[z]) (λz=>f<|by simp[z]) q
  .have Z:((i:_i)+1)=((i+1:_d):_i):=by lia
   rw[<-Z];exact S
  .have m:=f;rcases bq.mp f with rfl | f
   .rw[An (_T J)];exact (n _ m).1
   .have q:b=it:=by simpa using f
    subst q;rw[An (_T hI)];exact (n _ m).1
 done:=by
  intro X t C B L i b9 s σ H E I n st y;subst t C B;obtain⟨xs,r,F⟩:=y;obtain⟨A,G,p,hz⟩:=I.list r;obtain⟨⟨old,g⟩,j⟩:=st;have hl:=G.length;exact wpAny_pyNext_enum_end (I.ok.hd L) g j p.isList (by simp;lia) λM Y=>⟨U,I.V1 (t':=s.toks) (ch:=[e,it]) n λb o f q=>Y b o (λz=>f<|by simp[z]) q⟩
 self:=λ_ _ _ _ _ st h=>by
  obtain⟨⟨old,g⟩,_⟩:=st;exact WJ g h
theorem Y0{a b:_d}(d:a<n)(c:b<n):_aT (n+4) (n+2) (n+3) n (n+1) a b:=by
 constructor <;> (refine (show @Ne _d _ _ from ?_);lia)
theorem oZ{b:_d}{P:_d->Prop}(e:P n)(f:P<|n+1)(g:P<|n+2)(c:P<|n+3)(d:P<|n+4)(a:b∈[n,n+1,n+2,n+3,n+4]):P b:=by
 simp at a;rcases a with rfl | rfl | rfl | rfl | rfl <;> assumption
theorem Xb{w:_O}{K:_s}{k1:_d}(a b n:_d)(ha:a<n)(hb:b<n) :
  Turn P w K (.Tuple es k1 pos) (Itz K a b) [n,n+1,n+2,n+3,n+4] (n+4) (λi h=>ū h (n+4) (n+2) (n+3) .none/\Ĝ h (n+2) (.ref n) (.ref<|n+1)/\(∃x y,Ĝ h (n+3) x y)/\h.IsTupleIter n a i/\h.IsTupleIter (n+1) b i) where
 mem:=by simp
 obj:=λi h st c e=>by
  obtain⟨f,g,⟨x,y,j⟩,⟨o1,e1,_,d1⟩,⟨o2,e2,_,d2⟩⟩:=st;refine oZ (P:=λc=>∃o,h.get? c=_a o/\∀v,o.data≠.cell v) ⟨_,e1,λv z=>?_⟩ ⟨_,e2,λv z=>?_⟩ ⟨_,g,λv z=>?_⟩ ⟨_,j,λv z=>?_⟩ ⟨_,f,λv z=>?_⟩ e
  .rw[d1] at z;cases z
  .rw[d2] at z;cases z
  .have p:OS _ _=Ū v:=z
   cases p
  .have p:OS _ _=Ū v:=z
   cases p
  .have p:Ap _=Ū v:=z
   cases p
 keep:=λi h h' st k=>by
  obtain⟨f,g,⟨x,y,j⟩,r,A⟩:=st;exact⟨k _ (by simp) _ f,k _ (by simp) _ g,⟨x,y,k _ (by simp) _ j⟩,r.at λo q=>k _ (by simp) o q,A.at λo q=>k _ (by simp) o q⟩
 item:=by
  intro X R M S e i b9 s σ H E I B st G;subst R M S;obtain⟨xs,ys,x,y,C,q2,N,hy⟩:=G;obtain⟨Y,Z,L,_⟩:=I.tuple C;obtain⟨OO,r2,p2,_⟩:=I.tuple q2;obtain⟨u,hu,ru⟩:=Z.get N;obtain⟨v,hv,rv⟩:=r2.get hy;obtain⟨f,g,⟨x0,y0,j⟩,r,A⟩:=st;have D:=Y0 ha hb;have m:s.TypeIs (.ref<|n+4) "zip":=⟨_,f,U⟩;have sz:n+4<s.heap.objs.size:=_q f;unfold pyNext;refine _c (ð (Ξ (name:=Ø "__next__") m ņ (Α ņ m TL
   (YT D f g j r A (show s.heap.IsTuple a Y.toArray from L) (show s.heap.IsTuple b OO.toArray from p2) (x:=u) (y:=v) (by simpa using hu) (by simpa using hv) λt n1 n2 n3 n4 n5 n6 n7=>_k ?_) (OT _))))
  refine⟨_,U,wpAny_letOwnedTupleGo_zip (s:={ s with heap:=t }) n1 λO m1 l=>?_⟩;have fr:H s.heap.objs.size=none:=I.hok.fresh<|ai _
  have nw:Cd X.prog X.w (upd H s.heap.objs.size<|.tup [x,y]) O s.heap.objs.size (.tup [x,y]) :=
   ⟨by show 2<=sizeLine;decide,[u,v],.cons ru<|.cons rv .nil,_,l.extBut _ _ (Nat.ne_of_gt sz) n5,U,_,U⟩
  have Q:Ĝ t (n+2) (.ref n)<|.ref<|n+1:=n7 _ _ D.TIz D.TITO D.TIi1 D.TIi2 g
  refine⟨.ref s.heap.objs.size,_,I.SM (t':=s.toks) (ch:=[n,n+1,n+2,n+3,n+4]) B (λc o e q=>?_) (ai _) nw,U,⟨_,fr,U,λaa L8 t O=>⟨x,y,by rw[I.K_ t C];exact N,by rw[I.K_ O q2];exact hy,U⟩⟩,
   ⟨m1,l.extBut _ _ D.TIz Q,⟨u,v,l.extBut _ _ D.TOz n2⟩,n3.at λo q=>l.extBut _ _ D.i1z q,n4.at λo q=>l.extBut _ _ D.i2z q⟩,λc e=>?_⟩
  .have z:∀d,d∈[n,n+1,n+2,n+3,n+4]->c≠d:=λd J q=>e<|q ▸ J
   exact l.extBut _ _ (z _<|by simp)<|n7 c o (z _<|by simp) (z _<|by simp) (z _<|by simp) (z _<|by simp) q
  .rw[An ?_]
   .exact (B c e).1
   .have lt:c<=n+4:=oZ (P:=λc=>c<=n+4) (by lia) (by lia) (by lia) (by lia) (ai _) e;exact cf<|bg lt sz
 done:=by
  intro X R M S e i b9 s σ H E I B st G;subst R M S;obtain⟨xs,C,N⟩:=G;obtain⟨Y,Z,L,_⟩:=I.tuple C;obtain⟨f,g,⟨x0,y0,j⟩,r,A⟩:=st;have D:=Y0 ha hb;have m:s.TypeIs (.ref<|n+4) "zip":=⟨_,f,U⟩;have hl:=Z.length;unfold pyNext;refine _c (ð (Ξ (name:=Ø "__next__") m ņ (Α ņ m TL
   (Y9 (I.ok.hd e) D f g j r (show s.heap.IsTuple a Y.toArray from L) (by simp;lia) λt x k1 V=>?_) (OT _))))
  obtain⟨o,ho,IY⟩:=V;refine _c<|sK (T:="StopIteration") (b:=_h) ⟨o,ho,IY⟩ _aU<|_k ?_
  refine⟨U,I.V1 (t':=s.toks) (ch:=[n,n+1,n+2,n+3,n+4]) B λc o e q=>?_⟩;have z:∀d,d∈[n,n+1,n+2,n+3,n+4]->c≠d:=λd J q=>e<|q ▸ J
  exact k1 c o (z _<|by simp) (z _<|by simp) (z _<|by simp) (z _<|by simp) q
 self:=λ_ _ _ _ _ st h=>_aj st.1 h
section
variable{k1:_d}{rf:ĵ}
inductive cC(K:_s)(R:It->Hp->Prop)(vs:_b V)(H1:Hp):Prop
|mk(a:_)(_:vs=[.ref a])(_:∃xs,Cp K H1 a xs)(_:R (sI K a) H1)
abbrev tQ(K:_s)(ta:TA):TI:=λσ H R=>ta σ H λvs H1=>cC K R vs H1
inductive jg(K:_s)(R:It->Hp->Prop)(vs:_b V)(H1:Hp):Prop
|mk(a b:_)(_:vs=[.ref a,.ref b])(_:∃xs,Fd K H1 a xs)(_:∃ys,Fd K H1 b ys)(_:R (Itz K a b) H1)
abbrev iZip(K:_s)(ta:TA):TI:=λσ H R=>ta σ H λvs H1=>jg K R vs H1
theorem Kw{l:Expr}{i:TA}{p:ĵ}(k:Gl X "enumerate")(j:X.mg "enumerate" = _n)(n:PA X [l] i)(t:starEach [l] X.env=[(_r,eval l X.env)]:=by rfl) :
  PI X (.Tuple es k1 rf) (.Call (.Name "enumerate" p) [l] [] pos) (tQ X.K i):=by
 intro o s σ H R I h;refine Call_<|H_ I k j boot_enumerate<|Å (CP (n pos o s σ H _ I h) λD c ⟨F,z,d,v,A⟩=>?_) t U
 obtain⟨a,e,⟨J,w⟩,q⟩:=A;subst e;obtain⟨u,rfl,C⟩:=vals1 v
 cases C;obtain⟨m,K,B,G⟩:=d.list w;refine call_enumerate_list B.isList λy g x E r=>?_;refine WJ (s:={ c with heap:=y }) g ?_;refine⟨_,[c.heap.objs.size+1,c.heap.objs.size],_,_,z,U,d.kept (t':=c.toks) r,YW a _ _<|M' _,⟨⟨_,g⟩,x⟩,λb f=>?_,q⟩;have lt:c.heap.objs.size<=b:=by
  rcases bq.mp f with rfl | f
  .exact kc _
  .exact ke<|(al.mp f).symm
 exact d.Td lt<|d.hok.fresh lt
theorem jC{x y:Expr}{r:TA}{p:ĵ}(A:Gl X "zip")(t:X.mg "zip" = _n)(D:PA X [x,y] r)(K:starEach [x,y] X.env=[(_r,eval x X.env),(_r,eval y X.env)]:=by rfl)(m:starEach [y] X.env=[(_r,eval y X.env)]:=by rfl) :
  PI X (.Tuple es k1 rf) (.Call (.Name "zip" p) [x,y] [] pos) (iZip X.K r):=by
 intro F s σ H R I h;refine Call_<|H_ I A t boot_zip<|Å (CP (D pos F s σ H _ I h) λW d ⟨Z,T,f,o,i⟩=>?_) (by rw[K,m])<|by rw[m];rfl
 obtain⟨a,b,e,⟨xs,i⟩,⟨ys,w⟩,q⟩:=i;subst e;obtain⟨u,v,rfl,V,O⟩:=Vals.two o
 cases V
 cases O;obtain⟨G,o,k,_⟩:=f.tuple i;obtain⟨N,Y,l,_⟩:=f.tuple w;refine Xw (show d.heap.IsTuple a G.toArray from k) (show d.heap.IsTuple b N.toArray from l) λS n g j Q E J C n6 B=>?_;refine _aj (s:={ d with heap:=S }) j ?_;have L:a<n:=by rw[g];exact k.lt
 have z:b<n:=by rw[g];exact l.lt
 refine⟨_,[n,n+1,n+2,n+3,n+4],_,_,T,U,f.kept (t':=d.toks) B,Xb a b n L z,⟨j,Q,⟨_,_,E⟩,J,C⟩,λc M=>?_,q⟩;have lt:d.heap.objs.size<=c:=by
  rw[<-g];exact oZ (P:=λc=>n<=c) (by lia) (by lia) (by lia) (by lia) (by lia) M
 exact f.Td lt<|f.hok.fresh lt
end
abbrev Qi(X:Cx)(x z:_A)(scope:Scope):=JT X [x,z] X.N scope
abbrev Ju(X:Cx)(x z:_A)(scope:Scope):Prop:=Dd X [x,z] X.N scope
def Kg(J:It)(σ:St)(H1:Hp)(Q:VK)(g:TG)(tt:TT)(te:TE):Prop:=∀D,H1 D=_n->∃W:_d->_d->_b V->Hp->Prop,(∃m,W 0 m [] (upd H1 D<|.lst []))/\∀i m ys H2,W i m ys H2 ->
 (J.stop i H2/\Q (.ref D) H2) \/ (J.go i H2/\∀x H3,J.yld i H2 x H3->∀v0 v1,g x (v0::v1::σ) H3 λσ' JJ=>(∃w0 w1,σ'=w0::w1::σ)/\tt σ' JJ λb H4 =>
  if b=_h then te σ' H4 λy H5=>H5 D=_a (.lst ys)/\ys.length<sizeLine/\∃m',m'<m/\W (i+1) m' (ys++[y]) (upd H5 D<|.lst<|ys++[y])
  else ∃m',m'<m/\W (i+1) m' ys H4)
abbrev pO(wi:TI)(g:TG)(tt:TT)(te:TE):TE:=λσ H Q=>wi σ H λJ H1=>Kg J σ H1 Q g tt te
theorem Kg.g{J:It}{Q:VK}{g:TG}(h:Kg J σ H Q g tt te):JH (λτ=>∃v0 v1,τ=v0::v1::σ) J H Q g tt te:=λD j =>
 let ⟨W,a,b⟩:=h D j
 ⟨W,a,λi m f c w=>(b i m f c w).imp id λq=>⟨q.1,λx d y _ e=>by obtain⟨v0,v1,rfl⟩:=e;exact q.2 x d y v0 v1⟩⟩
open PySem PySem.Spec PySem.Calls PyProof.Rows
theorem Al.tup{K:_s}(e:Al H H')(h:Fd K H a xs):Fd K H' a xs:=by
 rcases h with (h | ⟨o,h⟩) | h
 .exact .inl<|.inl<|e _ _ h
 .exact .inl<|.inr ⟨o,e _ _ h⟩
 .exact .inr h
inductive TupAt(H:Hp)(zs:_b V)(y:V):Prop
|mk(T:_)(_:y=.ref T)(_:H T=_a (.tup zs))
theorem TupAt.mono{a:_b V}(s:Al H H')(h:TupAt H a y):TupAt H' a y:=let ⟨T,e,q⟩:=h;⟨T,e,s _ _ q⟩
theorem TupAt.upd{a ws:_b V}(h:TupAt H a y)(b:H D=_a (.lst ys)):TupAt (upd H D<|.lst ws) a y:=by
 obtain⟨T,e,q⟩:=h;refine⟨T,e,?_⟩;rw[An λz=>by rw[z,b] at q;cases q];exact q
theorem Bv{α:Type}{f:α->_b V}{l:_b α}{ws:_b V}(h:Paired (λa y=>TupAt H (f a) y) l vs)(b:H D=_a (.lst ys)):Paired (λa y=>TupAt (upd H D<|.lst ws) (f a) y) l vs:=Paired.Em h λ_ _ q=>q.upd b
theorem Ao{α:Type}{f:α->_b V}{l:_b α}(s:Al H H')(h:Paired (λa y=>TupAt H (f a) y) l vs):Paired (λa y=>TupAt H' (f a) y) l vs:=Paired.Em h λ_ _ q=>q.mono s
theorem Nt{z:_A}{osc:Scope}{N:_b _A}(b:X.env.scope=osc)(a:X.N=N)(h:aW [x,z] (N) scope osc N=_h):Ju X x z scope:=by
 subst a;exact Nv b U h
section
variable{z:_A}
theorem iC{a:ĵ}{k:_d}{d:_C}{c:Hp}(b:X.calm=_h)(S:Ju X x z scope) :
  PG (Qi X x z scope C d c fp) (.Tuple [.Name x px,.Name z a] k pos) (Qo X.K 2<|Eh (Ci 0)<|Eh (Ci 1) Q6):=HS (n:=2) b<|Bq (Ph S U)<|Bq (Ph S U) FP
theorem WR{b d:ĵ}{k:_d}{c:TI}(a:X.calm=_h)(S:Ju X x z scope)(hi:PI X (.Tuple [.Name x px,.Name z b] k d) iter c)
  (g:∀C s₀ H₀ fp,Pk (Qi X x z scope C s₀ H₀ fp) qc tt) (e:∀C s₀ H₀ fp,PE (Qi X x z scope C s₀ H₀ fp) qA te) (h:∀x,foldedSetIterable iter X.env x=pure x:=by intro _;rfl) :
  PE X (.ListComp qA [⟨.Tuple [.Name x px,.Name z b] k d,iter,qc,0⟩] scope pos) (pO c (Qo X.K 2<|Eh (Ci 0)<|Eh (Ci 1) Q6) tt te):=J7 (F:=λσ τ=>∃v0 f,τ=v0::f::σ) (λ_=>⟨_,_,U⟩) (λ_ _ _ _ q=>q.g) a S hi (λ_ _ _ _=>iC a S) g e h
end
section
variable{Q:VK}
theorem DG{K:_s}(p:V->_V)(f:V->V)(c:Cp K H1 a xs)(hz:xs.length<sizeLine)
  (j:∀x∈xs,∀H,Al H1 H->∀R:_V->Hp->Prop,(∀H',Al H H'->R (p x) H')->tt (_a x::σ) H R)
  (e:∀x∈xs,p x=_h->∀H,Al H1 H->∀R:VK,(∀H',Al H H'->R (f x) H')->te (_a x::σ) H R)
  (g:∀D H,H1 D=_n->Al H1 H->H D=_a (.lst<|(xs.filter p).map f)->Q (.ref D) H):FJ (dG K a) σ H1 Q tt te :=
 KY p f hz (λi H x b h=>⟨xs,x,b.seq c,h⟩) (λi H y H' b _ d=>⟨d.1,d.2 xs<|b.seq c⟩) (λH b=>⟨xs,b.seq c,ai _⟩) j e g
theorem QM{J:It}(p:V->_V)(f:V->_b V)(hz:xs.length<sizeLine)
  (F:∀i H x,Al H1 H->xs[i]? = _a x->J.go i H)(t:∀i H y H',Al H1 H->i<xs.length->J.yld i H y H'->H'=H/\xs[i]? = _a y)(z:∀H,Al H1 H->J.stop xs.length H)
  (B:∀x∈xs,∀H,Al H1 H->∀R:_V->Hp->Prop,(∀H',Al H H'->R (p x) H')->tt (_a x::σ) H R)
  (u:∀x∈xs,p x=_h->∀H,Al H1 H->∀R:VK,(∀y H',Al H H'->TupAt H' (f x) y->R y H')->te (_a x::σ) H R)
  (E:∀D H ys,H1 D=_n->Al H1 H->H D=_a (.lst ys)->Paired (λx y=>TupAt H (f x) y) (xs.filter p) ys->Q (.ref D) H):FJ J σ H1 Q tt te:=by
 intro D r;have C:Al H1<|upd H1 D<|.lst []:=λb o e=>by rw[An (Ak e r)];exact e
 refine⟨λi m ys H=>m=xs.length - i/\i<=xs.length/\H D=_a (.lst ys)/\Paired (λx y=>TupAt H (f x) y) ((xs.take i).filter p) ys/\Al H1 H,⟨xs.length,by simp,Ε _,Ai,by simpa using Paired.nil,C⟩,?_⟩;rintro i m ys H ⟨rfl,K,h,l,g⟩;by_cases d:i<xs.length
 .obtain⟨x,j⟩:∃x,xs[i]? = _a x:=⟨xs[i],by simp[d]⟩;refine .inr ⟨F i H x g j,λy w v=>?_⟩;obtain⟨rfl,k⟩:=t i H y w g d v;rw[j] at k
  cases k;have s:x∈xs:=am j;have q:ys.length<sizeLine:=by
   rw[<-l.length];refine bg (dE _ _)<|bg ?_ hz
   rw[cE];lia
  refine B x s _ g _ λA c=>?_;by_cases a:p x=_h
  .rw[_o a];refine u x s a A (g.trans c) _ λy I n G=>?_;refine⟨n _ _<|c _ _ h,q,xs.length - (i+1),by lia,U,d,Ai,?_,λb o e=>?_⟩
   .rw[Ā p xs i x j,_o a];exact (Bv (Ao (c.trans n) l)<|n _ _<|c _ _ h).snoc<|G.upd<|n _ _<|c _ _ h
   .rw[An (Ak e r)];exact n _ _<|c _ _<|g _ _ e
  .rw[_l a];refine⟨xs.length - (i+1),by lia,U,d,c _ _ h,?_,g.trans c⟩;rw[Ā p xs i x j,_l a,fN];exact Ao c l
 .have e:i=xs.length:=by lia
  subst e;rw[eW] at l;exact .inl ⟨z H g,E D H ys r g h l⟩
theorem O3{K:_s}(p:V->_V)(f:V->_b V)(c:Cp K H1 a xs)(hz:xs.length<sizeLine)
  (j:∀x∈xs,∀H,Al H1 H->∀R:_V->Hp->Prop,(∀H',Al H H'->R (p x) H')->tt (_a x::σ) H R)
  (e:∀x∈xs,p x=_h->∀H,Al H1 H->∀R:VK,(∀y H',Al H H'->TupAt H' (f x) y->R y H')->te (_a x::σ) H R)
  (g:∀D H ys,H1 D=_n->Al H1 H->H D=_a (.lst ys)->Paired (λx y=>TupAt H (f x) y) (xs.filter p) ys->Q (.ref D) H):FJ (dG K a) σ H1 Q tt te :=
 QM p f hz (λi H x b h=>⟨xs,x,b.seq c,h⟩) (λi H y H' b _ d=>⟨d.1,d.2 xs<|b.seq c⟩) (λH b=>⟨xs,b.seq c,ai _⟩) j e g
theorem Q7{α β:Type}{F:α->β->Prop}(g:_d->α):∀{n:_d}{l:_b α}{ys:_b β},Paired F l ys->l=(_B n).map g->Paired (λi y=>F (g i) y) (_B n) ys:=by
 intro n;have c:∀(js:_b _d)(ys:_b β),Paired F (js.map g) ys->Paired (λi y=>F (g i) y) js ys:=by
  intro js
  induction js with
  |nil=>intro ys h;cases h;exact .nil
  |cons j js d =>
   intro ys h
   cases h with
   |cons a b=>exact .cons a<|d _ b
 intro l ys h e;subst e;exact c _ _ h
theorem Pz(f:_d->_b V)(hz:n<sizeLine)
  (l:∀i:_d,i<n->∀H,Al H1 H->∀R:VK,(∀y H',Al H H'->TupAt H' (f i) y->R y H')->te (_a (.int (i:_i))::σ) H R)
  (m:∀D H ys,H1 D=_n->Al H1 H->H D=_a (.lst ys)->Paired (λi y=>TupAt H (f i) y) (_B n) ys->Q (.ref D) H):FJ (jn 0 n) σ H1 Q gU te:=by
 let g:V->Nat:=λv=>match v with | .int i=>i.toNat | _=>0
 have c:∀i:_d,i<n->((_B n).map λ(i:_d)=>V.int (i:_i))[i]? = _a (.int i):=λi a=>by simp[a]
 refine QM (xs:=(_B n).map λ(i:_d)=>V.int (i:_i)) (λ_=>_h) (λv=>f<|g v) (by simpa using hz) (λi H x _ b=>?_) (λi H y H' _ a j=>?_) (λH _=>?_) (λx b H e R k=>k H<|Al.refl H) (λx b _ H e R k=>?_)<|λD H ys s o p h=>?_
 .have:i<((_B n).map λ(i:_d)=>V.int (i:_i)).length:=(ag.mp b).1;show i<n;simpa using this
 .obtain⟨r,q⟩:=j;have d:i<n:=by simpa using a
  refine⟨r,?_⟩;rw[c i d,q,kg]
 .show n<=_;simp
 .obtain⟨i,a,rfl⟩:=ay.mp b;exact l i (dL.mp a) H e R k
 .rw[bX.mpr (λ_ _=>rfl)] at h;exact m D H ys s o p<|Q7 (F:=λx y=>TupAt H (f<|g x) y) (λi=>V.int (i:_i)) h U
theorem ZC{K:_s}(f:V->V->V)(l:Fd K H1 a xs)(q:Fd K H1 b ys)(C:xs.length=ys.length)(hz:xs.length<sizeLine)
  (u:∀(i:_d) x y,xs[i]? = _a x->ys[i]? = _a y->∀H,Al H1 H->∀R:VK,(∀H',Al H H'->R (f x y) H')->te (_a x::_a y::σ) H R)
  (B:∀D H,H1 D=_n->Al H1 H->H D=_a (.lst<|š f xs ys)->Q (.ref D) H):Kg (Itz K a b) σ H1 Q (Qo K 2<|Eh (Ci 0)<|Eh (Ci 1) Q6) gU te:=by
 intro D j;have A:Al H1<|upd H1 D<|.lst []:=λb o e=>by rw[An (Ak e j)];exact e
 refine⟨λi m k H=>m=xs.length - i/\i<=xs.length/\k=(š f xs ys).take i/\H D=_a (.lst k)/\Al H1 H,⟨xs.length,by simp,Ε _,by simp,Ai,A⟩,?_⟩;rintro i m k H ⟨rfl,J,rfl,h,c⟩;have g:(š f xs ys).length=xs.length:=by rw[List.length_zipWith];lia
 by_cases d:i<xs.length
 .have w:xs[i]? = _a xs[i]:=af d;have E:ys[i]? = _a ys[i]:=af<|C ▸ d
  refine .inr ⟨⟨xs,ys,_,_,c.tup l,c.tup q,w,E⟩,λv G p v0 I=>?_⟩;obtain⟨T,z,rfl,p⟩:=p;obtain⟨x,y,s,r,rfl⟩:=p xs ys (c.tup l)<|c.tup q;have n:Al H<|upd H T<|.tup [x,y]:=λb o e=>by rw[An (Ak e z)];exact e
  refine⟨[x,y],oz Ai,U,U,⟨_,_,U⟩,?_⟩;unfold gU;dsimp only;rw[_o U];refine u i x y s r _ (c.trans n) _ λF t=>?_;refine⟨t _ _<|n _ _ h,?_,xs.length - (i+1),by lia,U,d,?_,Ai,λb o e=>?_⟩
  .rw[cE,g];lia
  .rw[ck,yB,s,r];rfl
  .rw[An (Ak e j)];exact t _ _<|n _ _<|c _ _ e
 .have e:i=xs.length:=by lia
  subst e;rw[<-g,eW] at h;exact .inl ⟨⟨xs,c.tup l,ai _⟩,B D H j c h⟩
theorem Xd{K:_s}(p:_d->V->_V)(f:_d->V->V)(s:Cp K H1 a xs)(hz:xs.length<sizeLine)
  (B:∀(i:_d) x,xs[i]? = _a x->∀H,Al H1 H->∀R:_V->Hp->Prop,(∀H',Al H H'->R (p i x) H')->tt (_a (.int (i:_i))::_a x::σ) H R)
  (z:∀(i:_d) x,xs[i]? = _a x->p i x=_h->∀H,Al H1 H->∀R:VK,(∀H',Al H H'->R (f i x) H')->te (_a (.int (i:_i))::_a x::σ) H R)
  (F:∀D H,H1 D=_n->Al H1 H->H D=_a (.lst<|(xs.zipIdx.filter λq=>p q.2 q.1).map λq=>f q.2 q.1)->Q (.ref D) H):Kg (sI K a) σ H1 Q (Qo K 2<|Eh (Ci 0)<|Eh (Ci 1) Q6) tt te:=by
 intro D n;have E:Al H1<|upd H1 D<|.lst []:=λb o e=>by rw[An (Ak e n)];exact e
 refine⟨λi m r H=>m=xs.length - i/\i<=xs.length/\r=(((xs.zipIdx.take i).filter λq=>p q.2 q.1).map λq=>f q.2 q.1)/\H D=_a (.lst r)/\Al H1 H,⟨xs.length,by simp,Ε _,by simp,Ai,E⟩,?_⟩;rintro i m r H ⟨rfl,M,rfl,l,c⟩;by_cases d:i<xs.length
 .have A:xs[i]? = _a xs[i]:=af d;refine .inr ⟨⟨xs,_,c.seq s,A⟩,λv I u v0 L=>?_⟩;obtain⟨T,C,rfl,u⟩:=u;obtain⟨x,t,rfl⟩:=u xs<|c.seq s;have g:Al H<|upd H T<|.tup [.int (i:_i),x]:=λb o e=>by rw[An (Ak e C)];exact e
  have w:xs.zipIdx[i]? = _a (x,i):=by rw[List.getElem?_zipIdx,t];simp
  have k:(((xs.zipIdx.take i).filter λq=>p q.2 q.1).map λq=>f q.2 q.1).length<sizeLine:=by
   rw[ah];refine bg (dE _ _)<|bg ?_ hz
   rw[cE,ŗ];lia
  refine⟨[.int (i:_i),x],oz Ai,U,U,⟨_,_,U⟩,?_⟩;refine B i x t _ (c.trans g) _ λJ h=>?_;by_cases j:p i x=_h
  .rw[_o j];refine z i x t j _ (c.trans<|g.trans h) _ λG y=>?_;refine⟨y _ _<|h _ _<|g _ _ l,k,xs.length - (i+1),by lia,U,d,?_,Ai,λb o e=>?_⟩
   .rw[Ā (λq:V×_d=>p q.2 q.1) xs.zipIdx i (x,i) w,_o j,ee];rfl
   .rw[An (Ak e n)];exact y _ _<|h _ _<|g _ _<|c _ _ e
  .rw[_l j];refine⟨xs.length - (i+1),by lia,U,d,?_,h _ _<|g _ _ l,c.trans<|g.trans h⟩;rw[Ā (λq:V×_d=>p q.2 q.1) xs.zipIdx i (x,i) w,_l j,fN]
 .have e:i=xs.length:=by lia
  subst e;rw[Č (by simp)] at l;exact .inl ⟨⟨xs,c.seq s,ai _⟩,F D H n c l⟩
end
theorem Kr{K:_s}{g:TG}{tb:TS}{D:Ends}(b:_d->St->Hp->Prop)(p:b 0 σ H)(j:∀i σ H,i<=xs.length->b i σ H->Cp K H a xs)
  (l:∀(i:_d) x σ H T,xs[i]? = _a x->b i σ H->H T=_n->g (.ref T) σ (upd H T<|.tup [.int (i:_i),x]) λσ' H'=>tb { D with nx:=b<|i+1,ct:=b<|i+1,bk:=D.nx } σ' H')
  (n:∀σ H,b xs.length σ H->D.nx σ H):∃W:_d->_d->St->Hp->Prop,(∃m,W 0 m σ H)/\∀i m σ H,W i m σ H ->
   ((sI K a).stop i H/\D.nx σ H) \/ ((sI K a).go i H/\∃N:St->Hp->Prop,(∀σ H,N σ H->∃m',m'<m/\W (i+1) m' σ H)/\∀x H',(sI K a).yld i H x H'->g x σ H' λσ' Qr=>tb { D with nx:=N,ct:=N,bk:=D.nx } σ' Qr):=by
 refine⟨λi m σ H=>m=xs.length - i/\i<=xs.length/\b i σ H,⟨_,U,cK _,p⟩,?_⟩;rintro i m σ H ⟨rfl,f,d⟩;by_cases c:i<xs.length
 .refine .inr ⟨⟨xs,_,j i σ H f d,af c⟩,b<|i+1,λσ' H' h=>⟨xs.length - (i+1),by lia,U,c,h⟩,λv H' k=>?_⟩;obtain⟨T,q,rfl,k⟩:=k;obtain⟨x,o,rfl⟩:=k xs<|j i σ H f d;exact l i x σ H T o d q
 .have e:i=xs.length:=by lia
  subst e;exact .inl ⟨⟨xs,j _ σ H f d,ai _⟩,n σ H d⟩
structure Qq(K:_s)(C:_g):Prop where
 ga:Ù K (.ref C) "__getattribute__" = _a (_a<|.builtin "BaseException.__getattribute__")
 gt:Ù K (.ref C) "__getattr__" = _a _n
 mb:ĳ K C (.type "BaseException")=_a _h
 hd:Œ K C=_h
 ca:Ù K (.ref C) "__class__" = _a (_a<|.builtin "object.__class__")
 cg:EA K (.builtin "object.__class__") "__get__" = _a (_a<|.builtin "getset_descriptor.__get__")
 ct:P4 K (.builtin "object.__class__")=_a _h
 mo:ĳ K C (.type "object")=_a _h
section
variable{w:_O}{E:vSP}{K:_s}{x:_g}{ox:ü}{od:_t ü}{name:_A}{tk:LB}{R:r_->_C->Prop}
theorem dI:builtinKind "BaseException.__getattribute__" = _a .slot:=by decide
theorem Xj:splitId "BaseException.__getattribute__" = _a ("BaseException","__getattribute__"):=by decide
theorem XM(X:K.In s.heap)(I:ő s.heap x ox C od)(c:Qq K C)
  (h:wpAny (_z prog w) A.in1 (É.«object.__getattribute__» ⟨[.ref x,.str name tk],[]⟩) (λfin s'=>match fin with | Fin.done f=>R (.ok f) s' | Fin.again c'=>c'.quiet=_h/\codeAny (_z prog w) A c' R s') (λe s'=>R (.error e) s') s) :
  codeAny (_z prog w) A (.call (.builtin "BaseException.__getattribute__") ⟨[.ref x,.str name tk],[]⟩) R s:=by
 have sub:W.Looks (_z prog w) s.heap (isInstance (.ref x)<|.type "BaseException") true:=I.type.andThen<|_av X c.mb
 exact Nl PySem.F.attrBase_ValueError.ga.plain PySem.F.entry_bexc_ga<|@W.check_slot (_z prog w) _ _ s "BaseException.__getattribute__" "BaseException" "__getattribute__" (.ref x) [.str name tk] [] _ dI Xj sub (PySem.F.args_bexc_ga _ _) h
theorem YX(X:K.In s.heap)(I:ő s.heap x ox C od)(c:Qq K C)(h:R (.ok<|.ret<|.ref C) s) :
  codeAny (_z prog w) A (.call (.builtin "BaseException.__getattribute__") ⟨[.ref x,.str "__class__" tk],[]⟩) R s:=by
 have f:W.findObj K C od "__class__" = _a (.bind (.builtin "getset_descriptor.__get__")<|.builtin "object.__class__"):=by
  obtain⟨i,e,_⟩:=vT c.hd;unfold W.findObj;rw[e,DB,c.ca,DB];simp[c.cg,c.ct]
 refine XM X I c ?_;obtain⟨j,g,d,t,os⟩:=s;have a:=I.type (M:=_z prog w);have b:=W.looks_find (M:=_z prog w) X I f;unfold É.«object.__getattribute__»;refine _c<|_k<|_c<|_k<|_c<|a.at<|_c<|b.at ?_
 show wpAny _ _ (holding [Ė "object.__class__"] (call (.builtin "getset_descriptor.__get__") [.builtin "object.__class__",.ref x,.ref C]) >>= ret) _ _ _;exact _c<|π<|ı<|W.class_get (ox:=ox) (od:=od) X I c.mo<|_k h
theorem xby{fill e:_V}{v:_j}(X:K.In s.heap)(I:ő s.heap x ox C od)(c:Qq K C)(f:L1 v=_h)
  (j:∀(A:ù)(R:r_->_C->Prop),R (.ok<|.ret v) s->codeAny (_z prog w) A (.call (.builtin "BaseException.__getattribute__") ⟨[.ref x,.str name tk],[]⟩) R s) (h:Q v s) :
  wpAny (_z prog w) A (getAttrBy (.ref x) (.str name tk) fill e) Q E s:=by
 have i:=I.type (M:=_z prog w);have k:=we (M:=_z prog w) X c.ga;have L2:=we (M:=_z prog w) X c.gt;have b:(Ė "BaseException.__getattribute__" == Ė "object.__getattribute__")=false:=by decide
 have a:(e && onTheHeap (Ė "BaseException.__getattribute__"))=false:=by cases e <;> rfl
 obtain⟨l,g,d,t,os⟩:=s;unfold getAttrBy;refine π<|_c<|i.at<|_c<|k.at ?_
 show wpAny _ _ (if (onTheHeap (_Q C) && Ė "BaseException.__getattribute__" == Ė "object.__getattribute__")=_h then _ else _) _ _ _;rw[_l (by rw[b,kL];exact et)];unfold getAttrByItsOwn hookBefore;rw[_o (show onTheHeap (_Q C)=_h from rfl)];refine _c<|L2.at<|_c<|ð<|π ?_
 unfold callGetattribute;rw[_l (by rw[a];exact et)];unfold boundAndCalled;refine _c<|uA (PySem.F.attrBase_ValueError.ga.bind<|.ref x) ?_
 refine ı<|j _ _ ?_
 show wpAny _ _ (handedOut v) _ _ _;rw[W.handedOut_of f];exact _k h
theorem m_{Q:_t _j->_C->Prop}(X:K.In s.heap)(I:ő s.heap x ox C od)(c:Qq K C)(h:Q (_a<|.ref C) { s with toks:=s.toks+1 }) :
  wpAny (_z prog w) A (getAttr? (.ref x) "__class__") Q E s:=by
 unfold getAttr? getAttrBy?;exact _c<|wpAny_mkText<|_c<|ð<|xby (s:={ s with toks:=s.toks+1 }) X I c U (λA R q=>YX (s:={ s with toks:=s.toks+1 }) X I c q)<|_k h
theorem Zc(c:Qq K C):W.KitX K (.ref x) (.ref C) (λh=>ő h x ox C od) where
 ty:=λ_ _ _ I=>I.type
 it:=λ_ _ X _=>by
  obtain⟨d,a,_⟩:=vT c.hd;unfold W.clsIn at a;split at a
  .rename_i m o b i f;intro v s t p k q;unfold isType loadHead;exact _c<|_aP (k _ _<|X _ _ f)<|_k q
  .cases a
 ne:=λh g u j n r X l=>by
  obtain⟨d,a,_⟩:=vT c.hd;refine ES.mpr λq=>?_;have e:C=g:=Value.ref.inj<|_H.mp q
  subst e;unfold W.clsIn at a;split at a
  .rename_i m o b i f;have z:=(X _ _ f).symm.trans l
   cases z
  .cases a
 ca:=λX I k=>m_ X I c k
end
abbrev jK:_b Value:=[.type "ValueError",.type "Exception",.type "BaseException",.type "object"]
def Lh(x C:_g)(od:_t _g):HO:=.ext λh=>∃(d:Data)(sl:_E<|_t _j),h.get? x=_a ⟨.ref C,od,d,sl⟩/\W.notCls ⟨.ref C,od,d,sl⟩=_h
def XdO(dx:_g)(fs:_b<|_A×V):HO:=.ext λh=>∃mA,h.Ns1 dx mA/\∀f,Gw (fs.lookup f)<|mA f
section
variable{w:_O}{x:_g}{od:_t _g}{fs:_b (_A×V)}
theorem dw{d:Data}{a:_E (_t _j)}(e:h.get? x=_a ⟨.ref C,od,d,a⟩)(n:W.notCls ⟨.ref C,od,d,a⟩=_h):Cd P w H h x (Lh x C od) :=
 ⟨⟨d,a,e,n⟩,⟨_,e⟩,λ_ _ ⟨d,a,e,n⟩ k=>⟨d,a,k _ e,n⟩⟩
inductive S8(H:Hp)(x C:_g):_b (_A×V)->Prop where
 | bare(e:H x=_a (Lh x C _n)):S8 H x C []
 | full{dx:_g}{fs:_b (_A×V)}(e:H x=_a (Lh x C (_a dx)))(d:H dx=_a (XdO dx fs)):S8 H x C fs
theorem dD(a:Fe P w H h)(i:S8 H x C fs):∃ox od,ő h x ox C od/\∀f v,fs.lookup f=_a v->∃o u,od=_a o/\vt f o=_a (_a u)/\RelV v u:=by
 cases i with
 |bare e =>
  obtain⟨⟨d,l,c,n⟩,_,_⟩:=(show Cd P w H h x (Lh x C _n) from a x _ e);exact⟨_,_n,⟨c,U,n,trivial⟩,λf v q=>by simp at q⟩
 | @full b fs e d =>
  obtain⟨⟨t,l,c,n⟩,_,_⟩:=(show Cd P w H h x (Lh x C<|some b) from a x _ e);obtain⟨⟨g,m,r⟩,_,_⟩:=(show Cd P w H h b (XdO b fs) from a b _ d);obtain⟨o,p,k⟩:=Px m;refine⟨_,_a o,⟨c,U,n,p⟩,λf v q=>?_⟩;obtain⟨u,j,s⟩:=Gw.some_of (v:=v) (o:=g f)<|by rw[<-q];exact r f
  exact⟨o,u,U,by rw[k,j],s⟩
end
section
variable{w:_O}
theorem Fe.uh(x:Fe P w H h)(k:∀b u,h.get? b=_a u->h'.get? b=_a u)(g:H a=_n)(d:Cd P w (upd H a o) h' a o):Fe P w (upd H a o) h':=λb u e=>by
 by_cases f:b=a
 .subst f;rw[Ai] at e;cases e;exact d
 .rw[An f] at e;exact (x b u e).stay (λc v _ q=>k c v q) (λc q=>by rw[An (Ak q g)];exact q) λc i q=>by rw[An (Ak q g)];exact q
theorem Fe.none_of(x:Fe P w H h)(e:h.get? a=_n):H a=none:=by
 cases q:H a with
 |none=>rfl
 |some u =>
  exfalso;obtain⟨o,c⟩:∃o,h.get? a=_a o:=by
   have z:=x a u q
   cases u with
   |lst d=>obtain⟨_,_,_,_,e⟩:=z;exact⟨_,e⟩
   |tup d=>obtain⟨_,_,_,o,e,_⟩:=z;exact⟨_,e⟩
   |dK b=>obtain⟨_,_,_,_,o,_,_,e,_⟩:=z;exact⟨_,e⟩
   |dT b=>obtain⟨_,_,_,_,o,_,_,e,_⟩:=z;exact⟨_,e⟩
   |set S n=>obtain⟨o,_,_,_,e,_⟩:=z;exact⟨_,e⟩
   |ins C i fs=>obtain⟨_,_,_,e,_⟩:=z;exact⟨_,e⟩
   |own y=>obtain⟨_,e⟩:=z;exact⟨_,e⟩
   |xd fs=>obtain⟨_,⟨_,_,_,e,_⟩,_⟩:=z;exact⟨_,e⟩
   |rng lo g=>obtain⟨_,_,_,e⟩:=z;exact⟨_,e⟩
   |frz j u=>obtain⟨e,_⟩:=z;exact⟨_,e⟩
   |tbl ps=>exact⟨_,(show h.get? a=_a _ from z)⟩
   |met f y=>exact⟨_,(show h.get? a=_a _ from z)⟩
   |ext φ=>obtain⟨_,⟨_,e⟩,_⟩:=z;exact⟨_,e⟩
  rw[e] at c;cases c
end
theorem Wt{K:_s}(X:K.In h)(q:ł K C jK "ValueError.__new__" = _h) :
  ∃bm N nm qn bs hdct sn sub ab col dd k0 k1 k2 k3 k5 mN,h.get? C=_a (excClassObj nm qn C N bs bm hdct sn sub ab col dd k0 k1 k2 k3 k5 "ValueError.__new__")/\h.Ns N mN/\mN "__init__" = _n/\OwnTail h jK bm:=by
 unfold ł at q;split at q
 .rename_i dd o e p;split at q
  .rename_i r bm k0 k1 k2 k3 n k5 c f;simp only[Ω,_H,Bool.not_eq_true'] at q;obtain⟨⟨⟨⟨⟨rfl,rfl⟩,g⟩,m⟩,a⟩,d⟩:=q;obtain⟨nm,bs,i,k,qn,j,sn,sub,ab,col,del⟩:=o;dsimp only at c g a d;subst c g;have b:e = #[k0,k1,k2,k3,_a<|.builtin "ValueError.__new__",k5]:=by
    obtain⟨l⟩:=e;simp only at f;rw[f]
   subst b;exact⟨bm,k,nm,qn,bs,j,sn,sub,ab,col,dd,k0,k1,k2,k3,k5,_,X _ _ p,.of_isNs<|W.isNs_of_in X a,W.nsMap_none_of_in X a d,W.tail_of_in X m⟩
  .cases q
 .cases q
def rK:V->_t _j
 |.ref a=>_a<|.ref a
 |.ty n=>_a<|.type n
 |_=>_n
theorem Vp:Eo X (.builtin "isinstance") (λxs H Q=>∃x C fs c cv b,xs=[V.ref x,c]/\S8 H x C fs/\Qq X.K C/\rK c=_a cv/\Ú X.K (.ref C) cv=_a b/\Q (.bl b) H):=by
 intro p s σ H xs l Q I r h;obtain⟨x,C,fs,c,cv,b,rfl,i,j,d,e,q⟩:=h;obtain⟨u,v,rfl,k,f⟩:=Vals.two r
 cases k;have g:v=cv:=by
  cases c with
  |ref a=>cases d;exact f
  |ty n=>cases d;exact f
  |_=>simp[rK] at d
 subst g;obtain⟨m,o,J,_⟩:=dD I.hok i;exact í (Zc j) I.JX J e (λz=>nomatch z) λtk=>⟨.bl b,H,I.tok _,U,q⟩
def j8:_b V->_b V->_V
 |[],[]=>_h
 |x::xs,y::ys=>QZ x y && j8 xs ys
 |_,_=>_r
theorem QL:∀(xs ys:_b V),xs.length=ys.length->((_B xs.length).all λj=>QZ (xs.getD j .non)<|ys.getD j .non)=j8 xs ys
 |[],[],_=>rfl
 |x::xs,y::ys,h=>by
  have a:=QL xs ys<|by simpa using h
  rw[zdl,List.range_succ_eq_map,oj,XO];show (QZ x y && _)=(QZ x y && j8 xs ys);rw[<-a];rfl
 |[],_::_,h=>by simp at h
 |_::_,[],h=>by simp at h
theorem V7:∀(xs ys:_b V),xs.length≠ys.length->j8 xs ys=_r
 |[],[],h=>_D U h
 |x::xs,y::ys,h=>by
  show (QZ x y && j8 xs ys)=_r;rw[V7 xs ys (λe=>h<|by simp[e]),Bool.and_false]
 |[],_::_,_=>rfl
 |_::_,[],_=>rfl
theorem N6{x:V}(h:Fj x=_h):QZ x x=true:=by
 cases x with
 |non=>rfl
 |bl b=>simp[QZ]
 |int i=>simp[QZ]
 |str z=>simp[QZ]
 |_=>exact _D (show _r=_h from h) _P
theorem S7:∀{xs:_b V},xs.all Fj=_h->j8 xs xs=_h
 |[],_=>rfl
 |x::xs,h=>by
  rw[oj,eI] at h;show (QZ x x && j8 xs xs)=_h;rw[N6 h.1,S7 h.2];rfl
theorem WT(h:xs.all Fj=_h)(a:j<xs.length):Fj (xs.getD j .non)=true:=by
 have e:xs.getD j .non=xs[j]:=by simp[a]
 rw[e];exact eM.mp h _<|de a
theorem Gd(r:Vals xs us)(a:j<us.length):RelV (xs.getD j .non) us[j]:=by
 have c:=r.length;have d:xs[j]? = _a xs[j]:=by simp[c,a]
 obtain⟨u,b,f⟩:=r.get d;rw[af a] at b
 cases b;have e:xs.getD j .non=xs[j]:=by simp[c,a]
 rw[e];exact f
end L2
namespace Wd
def mk(l:_b _d):Nat:=l.foldl (λs n=>s ||| 2 ^ n) 0
theorem XX(l:_b _d):∀(s i:_d),(l.foldl (λs n=>s ||| 2 ^ n) s).testBit i=(s.testBit i || decide (i∈l)):=by
 induction l with
 |nil=>intro s i;simp
 |cons n l a =>
  intro s i;rw[mI,a,sT,Nat.testBit_two_pow];by_cases h:n=i
  .subst h;simp
  .have b:¬ i=n:=λe=>h e.symm;simp[h,b]
theorem Ft(l:_b _d)(i:_d):(mk l).testBit i=decide (i∈l):=by
 unfold mk;rw[XX];simp
def len(n:_d):Nat:=if n=0 then 0 else n.log2+1
theorem Zd(h:n.testBit i=_h):i<len n:=by
 unfold len;have a:n≠0:=by intro e;subst e;simp at h
 rw[_l a];have b:2 ^ i<=n:=Nat.ge_two_pow_of_testBit h;have c:i<=n.log2:=(Nat.le_log2 a).mpr b;lia
def mem(n:_d):_b Nat:=(_B<|len n).filter n.testBit
theorem mem_iff:i∈mem n ↔ n.testBit i=true:=by
 unfold mem;rw[cy,dL];exact⟨λh=>h.2,λh=>⟨Zd h,h⟩⟩
theorem Fy(n:_d):(mem n).Pairwise (· < ·):=ć _ ĸ
theorem Ip{k:_d}(h:n<2 ^ k):len n<=k:=by
 unfold len;split
 .lia
 .rename_i a;have:n.log2<k:=(Nat.log2_lt a).mpr h;lia
theorem O8:∀{a b:_b _d},a.Pairwise (· < ·)->b.Pairwise (· < ·)->(∀i,i∈a ↔ i∈b)->a=b
 |[],[],_,_,_=>rfl
 |[],y::b,_,_,h=>_D ((h y).mpr Î)<|by simp
 |x::a,[],_,_,h=>_D ((h x).mp Î)<|by simp
 |x::a,y::b,d,f,h=>by
  rw[fF] at d f;have j:x=y:=by
   have k:=(h x).mp be;have l:=(h y).mpr be;rcases bq.mp k with e | e
   .exact e
   .rcases bq.mp l with g | g
    .exact g.symm
    .have:=f.1 x e;have:=d.1 y g;lia
  subst j;congr 1;refine O8 d.2 f.2 λi=>⟨λc=>?_,λc=>?_⟩
  .rcases bq.mp ((h i).mp (aT _ c)) with e | e
   .have:=d.1 i c;lia
   .exact e
  .rcases bq.mp ((h i).mpr (aT _ c)) with e | e
   .have:=f.1 i c;lia
   .exact e
theorem Zr{l:_b _d}(h:l.Pairwise (· < ·)):mem (mk l)=l :=
 O8 (Fy _) h λi=>by rw[mem_iff,Ft];simp
noncomputable def mv(n:_d)(k:_i)(c:_d):Nat:=(if 0<k then n * 2 ^ k.toNat else n / 2 ^ (-k).toNat) % 2 ^ c
theorem O6(n:_d)(k:_i)(c i:_d):(mv n k c).testBit i=(decide (i<c) && (decide (0<=(i:_i) - k) && n.testBit ((i:_i) - k).toNat)):=by
 unfold mv;rw[Nat.testBit_mod_two_pow];congr 1;split
 .rename_i h;rw[Nat.testBit_mul_two_pow];by_cases b:k.toNat<=i
  .have e:((i:_i) - k).toNat=i - k.toNat:=by lia
   have a:(0:_i)<=i - k:=by lia
   rw[_v a,e];simp[b]
  .have a:¬ (0:_i)<=i - k:=by lia
   rw[_L a];simp[b]
 .rename_i h;rw[Nat.testBit_div_two_pow];have e:((i:_i) - k).toNat=i+(-k).toNat:=by lia
  have a:(0:_i)<=i - k:=by lia
  rw[_v a,e];simp
def stay(l:_b _d)(k:_i)(c:_d):_b Nat:=l.filter λn=>decide (0<=(n:_i)+k) && decide ((n:_i)+k<c)
theorem uP{l:_b _d}(a:∀n∈l,n<1200):mk l<2 ^ 1200:=by
 refine ja _ λi b=>?_;rw[Ft];exact _L λh=>_D (a i h)<|by lia
theorem gq(l:_b _d)(n:_d):mk (l++[n])=mk l ||| 2 ^ n:=by
 unfold mk;rw[List.foldl_append];rfl
end Wd
namespace L2
open PySem PySem.Spec PySem.Calls PyProof.Rows
theorem RM:∀{xs:_b V}{us:_b _j},xs.length=us.length->(∀(j:_d) x u,xs[j]? = _a x->us[j]? = _a u->RelV x u)->Vals xs us
 |[],[],_,_=>.nil
 |[],_::_,h,_=>by simp at h
 |_::_,[],h,_=>by simp at h
 |x::xs,u::us,h,f=>.cons (f 0 x u U U)<|RM (by simpa using h) λj y v a b=>f (j+1) y v (by simpa using a)<|by simpa using b
section
variable{k1:_d}{rf:ĵ}
theorem Fv(Y:X.calm=_h):Eo X (.type "list") (λxs H Q=>∃(a:_g)(kvs:_b<|Key × V)(js:_b _i),xs=[V.ref a]/\H a=_a (.dK kvs)/\kvs.map (·.1)=js.map _R/\∀l,H l=_n->Q (.ref l) (upd H l<|.lst<|js.map V.int)):=by
 intro b9 s σ H xs us Q I r h;obtain⟨a,kvs,js,rfl,N,E,q⟩:=h;obtain⟨u,rfl,ru⟩:=vals1 r
 cases ru;obtain⟨hz,lo,n,F,o,L,ep,g,v,C,e4,T,O⟩:=I.hok a _ N;have hl:kvs.length=n.length:=Paired.length F;have z:s.heap.DictAt (CN X.prog X.w) a n ep:=⟨o,L,g,v,C,e4,T,O⟩;refine W.kdl_call (W.kdl_dict (knd:=CN X.prog X.w) (kvs:=n) (ep:=ep) lo) (I.ok.hd Y) z (by lia) ?_;intro h' tk f P R M G;have K:js.length=n.length:=by
  have:=congrArg Ρ E;rw[ah,ah] at this;lia
 have hv:Vals (js.map V.int) f.toList:=by
  refine RM (by have h1:f.toList.length=f.size:=_I;have h2:=G.1;rw[ah];lia) λj x u J D=>?_;rw[_w] at D;obtain⟨k,y,w,S⟩:=G.2 j u D;rw[ar] at J;obtain⟨i,Z,rfl⟩:=aS.mp J;have g:(kvs.map (·.1))[j]? = _a (_R i):=by rw[E,ar,Z];rfl
  rw[ar] at g;obtain⟨kv,A,QO⟩:=aS.mp g;have d:∀{l:_b (Key × V)}{m:_b (Key × _j)},KV l m->∀{j:_d} {p q},l[j]? = _a p->m[j]? = _a q->p.1=q.1:=by
   intro l m h;unfold KV at h
   induction h with
   |nil=>intro j p q c;simp at c
   |cons a b ih =>
    intro j p q c B
    cases j with
    |zero =>
     simp at c B;subst c B;exact a.1
    |succ j=>exact ih (by simpa using c)<|by simpa using B
  have v:=d F A w;rw[QO] at v;have C:k=_R i:=v.symm;subst C;rcases Cm (show MP (_R i) u=_h from S) with⟨i',t,e,rfl⟩ | ⟨x,t,e,_⟩
  .cases e;exact⟨t,U⟩
  .cases e
 refine⟨.ref s.heap.objs.size,_,I.laid (t':=tk) (o:=.lst<|js.map V.int) R (Τ _) ⟨by rw[Ι];lia,f.toList,P,hv,by simpa using M⟩,U,q _<|I.hok.fresh<|Τ _⟩
theorem UG:yQ X "int.bit_length" (λx xs H Q=>∃i,x=V.int i/\xs=[]/\Q (.int<|Đ i) H):=by
 intro c s σ H x xs v b Q I a r h;obtain⟨i,rfl,rfl,q⟩:=h;obtain⟨t,rfl⟩:=a
 cases r;exact _aw ⟨.int _,H,I.tok _,⟨_,U⟩,q⟩
end
theorem Qp(a b:_d):Ī (a:_i) (b:_i)=((a ||| b:_d):_i):=by
 have d:¬ 0<=À (a:_i):=by unfold À;lia
 have e:¬ 0<=À (b:_i):=by unfold À;lia
 have c:∀x:_i,À (À x)=x:=λx=>by unfold À;lia
 unfold Ī;rw[bitAnd_nn d e,c,c,c];simp
theorem Tf(a b:_d):Ą (a:_i) (b:_i)=((a &&& b:_d):_i):=by
 rw[bitAnd_pp (ny a) (ny b)];simp
theorem La(n:_d):Đ (n:_i)=Wd.len n:=by
 unfold Đ Wd.len;by_cases h:n=0
 .subst h;rfl
 .have a:((n:_i) == 0)=false:=by simpa using h
  rw[a,_l h];simp
theorem Hn(k:_d):(2:_i) ^ k=((2 ^ k:_d):_i):=by simp
end L2
namespace Wd
open PySem
abbrev ZR(xs:_E _d):Prop:=xs.toList.Pairwise (· < ·)
theorem Qd{xs:_E _d}(r:ZR xs){k:_d}(h:i<k)(a:k<xs.size):xs.getD i 0<xs.getD k 0:=by
 have b:i<xs.size:=iE h a;have:=(List.pairwise_iff_getElem.mp r) i k (by simpa using b) (by simpa using a) h;simpa [ā,b,a] using this
structure Cut(xs:_E _d)(j p:_d):Prop where
 le:p<=xs.size
 lo:∀i,i<p->xs.getD i 0<j
 hi:∀i,p<=i->i<xs.size->j<=xs.getD i 0
theorem Nj{xs:_E _d}(r:ZR xs)(j:_d):∀(fuel lo hi:_d),hi<=xs.size->hi - lo<=fuel->lo<=hi->(∀i,i<lo->xs.getD i 0<j)->(∀i,hi<=i->i<xs.size->j<=xs.getD i 0)->Cut xs j (SetTable.below.go xs j fuel lo hi)
 |0,lo,hi,c,l,m,a,b=>by
  have e:lo=hi:=by lia
  subst e;exact⟨c,a,b⟩
 |fuel+1,lo,hi,c,l,m,a,b=>by
  unfold SetTable.below.go;split
  .rename_i h;have g:(lo+hi) / 2<xs.size:=by lia
   have e:xs.getD ((lo+hi) / 2) j=xs.getD ((lo+hi) / 2) 0:=by simp[ā,g]
   dsimp only;rw[e];by_cases d:xs.getD ((lo+hi) / 2) 0<j
   .rw[_o d];refine Nj r j fuel ((lo+hi) / 2+1) hi c (by lia) (by lia) (λi f=>?_) b;by_cases q:i=(lo+hi) / 2
    .rw[q];exact d
    .have:=Qd r (i:=i) (k:=(lo+hi) / 2) (by lia) g;lia
   .rw[_l d];refine Nj r j fuel lo ((lo+hi) / 2) (by lia) (by lia) (by lia) a λi f n=>?_;by_cases q:i=(lo+hi) / 2
    .rw[q];lia
    .have:=Qd r (i:=(lo+hi) / 2) (k:=i) (by lia) n;lia
  .have e:lo=hi:=by lia
   subst e;exact⟨c,a,b⟩
theorem Ld{xs:_E _d}(r:ZR xs)(j:_d):Cut xs j (_S xs j) :=
 Nj r j xs.size 0 xs.size (ai _) (by lia) (cK _) (λi h=>_D h<|iF _) (λi b a=>_D a<|by lia)
theorem Vx{xs:_E _d}(r:ZR xs)(h:xs[_S xs j]?≠_a j):j ∉ xs.toList:=λb=>by
 have c:=Ld r j;obtain⟨i,f,e⟩:=hV.mp b;have a:i<xs.size:=by simpa using f
 have m:xs.getD i 0=j:=by simpa [ā,a] using e
 have l:_S xs j<=i:=by
  rcases kR i (_S xs j) with q | q
  .have:=c.lo i q;lia
  .exact q
 have g:_S xs j<xs.size:=bg l a;have n:=c.hi _ (ai _) g;have k:_S xs j=i:=by
  rcases kR (_S xs j) i with q | q
  .have:=Qd r q a;lia
  .lia
 refine h ?_;have d:xs[i]=j:=by simpa [ā,a] using m
 rw[k,_u a,d]
theorem Ui{xs:_E _d}(r:ZR xs)(h:xs[_S xs j]?≠_a j):ZR<|y7 xs (_S xs j) j:=by
 have c:=Ld r j;have o:=Vx r h;show (y7 xs (_S xs j) j).toList.Pairwise _;rw[SetTable.toList_insertAt,fk,fF];have g:∀a∈xs.toList.take (_S xs j),a<j:=λa f=>by
  obtain⟨i,k,e⟩:=hV.mp f;rw[cE] at k;have d:i<xs.size:=by simp at k;lia
  have:=c.lo i<|by lia
  simp[ā,d] at this;rw[E1] at e;rw[<-e];simpa using this
 have UW:∀a∈xs.toList.drop (_S xs j),j<a:=λa f=>by
  obtain⟨i,k,e⟩:=hV.mp f;rw[gz] at k;have d:_S xs j+i<xs.size:=by simp at k;lia
  have:=c.hi (_S xs j+i) (oo _ _) d;simp[ā,d] at this;rw[List.getElem_drop] at e;have n:j<=a:=by rw[<-e];simpa using this
  have m:j≠a:=λz=>o<|by rw[z];exact me f
  lia
 exact⟨r.sublist<|EB _ _,⟨UW,r.sublist<|iS _ _⟩,λa f b l=>by
  rcases bq.mp l with e | l
  .rw[e];exact g a f
  .have:=g a f;have:=UW b l;lia⟩
theorem X7{t:Ä}(h:∀i,t.slot j≠.live i):t.place[_S t.place j]?≠_a j:=λe=>by
 refine h (_S t.place j) ?_;unfold SetTable.slot;dsimp only;rw[e];simp
theorem Jd(t:Ä)(p:DC):(t.advance p).dummy=p.dummy:=by
 unfold SetTable.advance;split <;> rfl
theorem Jq{t:Ä}{f:_d->_i}{h:_i}:∀(fuel:_d)(p:DC)(j:_d)(dm:_t _d),(∀d,p.dummy=_a d->t.slot d=.dummy)->Ĺ t f h fuel p=_a (.empty j dm) ->
  t.slot j=.empty/\∀d,dm=_a d->t.slot d=.dummy
 |0,p,j,dm,a,e=>by unfold Ĺ at e;cases e
 |fuel+1,p,j,dm,a,e=>by
  unfold Ĺ at e;split at e
  .rename_i b
   cases e;exact⟨b,a⟩
  .rename_i b;refine Jq fuel _ j dm (λd q=>?_) e;rw[Jd] at q
   cases q;exact b
  .split at e
   .cases e
   .refine Jq fuel _ j dm (λd q=>?_) e;rw[Jd] at q;exact a d q
theorem YD{t:Ä}{h:_i}{d:_V}(e:t.freeSlot h=_a (j,d)):∀i,t.slot j≠.live i:=by
 unfold SetTable.freeSlot at e;split at e
 .rename_i b f q;unfold SetTable.probe at q;obtain⟨c,k⟩:=Jq _ _ _ _ (λd g=>by simp[SetTable.probeStart] at g) q
  cases f with
  |none=>cases e;intro i z;rw[show (_n:_t _d).getD b=b from rfl,c] at z;cases z
  |some a =>
   cases e;intro i z;rw[show (_a a).getD b=a from rfl,k a U] at z
   cases z
 .cases e
structure Good(t:Ä)(led:_V):Prop where
 led:t.led=led
 ris:t.plain=_h->ZR t.place
theorem Vv(a:_V):Good (.fresh 0 0 a) a:=⟨U,λ_=>by simp[SetTable.fresh,ZR]⟩
theorem Hh{t:Ä}(g:Good t led)(n:_d):Good (t.standIn n) led:=⟨g.led,λh=>by simp[SetTable.standIn] at h⟩
theorem ir{t:Ä}(g:Good t led)(n:_d):Good (t.orStandIn n) led:=by
 unfold SetTable.orStandIn;split
 .exact g
 .exact Hh g n
theorem bY{t:Ä}(g:Good t led)(es:_E<|_i×_j)(h:_i)(x:_j):Good (layNew t es h x).2.1 led:=by
 unfold layNew;split
 .rename_i a c e;refine ir (t:=(t.put a).1) ⟨g.led,λb=>?_⟩ _;exact Ui (g.ris b)<|X7<|YD e
 .exact Hh g _
theorem YS{k h j:_d}{plain:_V}{g:_E _i}{t:Ä}{o:_E _d}(e:E4 k h j led plain g=_a (t,o)):Good t led/\t.plain=plain:=by
 unfold E4 at e;simp only[Option.bind_eq_bind,Option.bind_eq_some_iff] at e;obtain⟨c,_,e⟩:=e
 cases e;refine⟨⟨U,λ_=>?_⟩,U⟩;show List.Pairwise _ ((Η _ _).toArray).toList;rw[ft,List.pairwise_filterMap];refine ĸ.imp λ{a b} d x i y f=>?_;obtain⟨u,_,rfl⟩:=aS.mp i;obtain⟨v,_,rfl⟩:=aS.mp f;exact d
theorem Uy{t:Ä}(g:Good t led)(es:_E<|_i×_j)(n:_d):Good (relayAll t es n).2.1 led:=by
 unfold relayAll;split
 .rename_i b a e;dsimp only;split
  .have:=YS e;rw[g.led] at this;exact this.1
  .exact Hh g _
 .exact Hh g _
theorem We{α:Type}[Ķ α]:∀{l m:_b α},l.Nodup->(∀x∈l,x∈m)->m.length<=l.length->l.Perm m
 |[],m,_,_,h=>by
  have:m=[]:=List.eq_nil_of_length_eq_zero<|by simpa using h
  rw[this]
 |a::l,m,j,c,h=>by
  obtain⟨f,k⟩:=fR.mp j;have i:=c a be;have p:=List.perm_cons_erase i;have g:=p.length_eq;refine (_bq a<|We k (λx d=>?_) ?_).trans p.symm
  .have b:=p.mem_iff.mp<|c x<|aT _ d
   rcases bq.mp b with e | e
   .exact _D (e ▸ d) f
   .exact e
  .simp only[Ë] at g h;lia
open PySem PySem.Spec PyProof.Rows
def Hj(prog:Ð)(w:_O)(h:Θ)(a:_g)(led:_V)(σ:_b _i):Prop :=
 ∃es ep t,h.get? a=_a { cls:=.type "set",dict:=_n,data:=.set es ep t }/\ElemsOf (intKind prog w) es.toList/\(∀k,k∈σ ↔ ∃e∈es.toList,(intKind prog w).is k e.2=_h)/\es.size=σ.length/\σ.Nodup /\
  σ.length<scanBound/\t.fits es.size=_h/\Good t led
def GC(σ:_b _i)(k:_i):_b Int:=if k∈σ then σ else σ++[k]
section
variable{w:_O}{E:vSP}{σ:_b _i}{k:_i}{tk:LB}
theorem WF{es es':_E (_i×_j)}{ep:_d}{t t':Ä}(b:h.get? a=_a { cls:=.type "set",dict:=_n,data:=.set es ep t }) :
  (h.update a<|s_ es' t').get? a=_a { cls:=.type "set",dict:=_n,data:=.set es' (ep+1) t' } :=
 (_W (s_ es' t') b<|by rw[putSet_of es' t' U];rfl).trans (by rw[putSet_of es' t' U])
theorem wJ{Q:_V->_C->Prop}(hS:Hj prog w s.heap a led σ)(I:σ.length+1<scanBound)
  (h:∀b h',Á a s.heap h'->Hj prog w h' a led (GC σ k)->Q b { s with heap:=h' }):wpAny (_z prog w) A (setAddHashed a (.int k tk)<|(intKind prog w).hash k) Q E s:=by
 obtain⟨z,ep,t,P,V,qS,hn,nd,hb,hf,g⟩:=hS;have i:(intKind prog w).is k (.int k tk)=true:=intKind_is _ _ _ _;have ab:z.size<scanBound:=by rw[hn];exact hb
 unfold setAddHashed setAddHashedIn;refine π<|_c<|ó P U hf ?_
 dsimp only;rw[byScan_of U ab V,_o U];unfold setAddByScan;refine _c<|_c<|Ç<|_c<|wpAny_setScan_of i P U hf V ?_
 cases hr:List.findIdx? (λe=>(intKind prog w).is k e.2) z.toList with
 |some j =>
  obtain⟨hj,YI,_⟩:=List.findIdx?_eq_some_iff_getElem.mp hr;have Z:k∈σ:=(qS k).mpr ⟨_,de hj,YI⟩;refine _k<|_k ?_
  have:=h _r s.heap (_ax a s.heap)<|by unfold GC;rw[_o Z];exact⟨z,ep,t,P,V,qS,hn,nd,hb,hf,g⟩
  exact this
 |none =>
  have Z:k ∉ σ:=λq=>by
   obtain⟨e,G,D⟩:=(qS k).mp q;have:=ti.mp hr e G;rw[D] at this
   cases this
  dsimp only;have C:=layNew_perm t z ((intKind prog w).hash k)<|.int k tk
  have X:=layNew_fits t z ((intKind prog w).hash k)<|.int k tk
  have W:=bY g z ((intKind prog w).hash k)<|.int k tk
  generalize layNew t z ((intKind prog w).hash k) (.int k tk)=L at C X W |-;obtain⟨c,J,wd,QA⟩:=L;dsimp only at C X W |-;rw[ç] at C;have M:ElemsOf (intKind prog w) c.toList:=(V.push i U).perm C;have K:c.size=(σ++[k]).length:=by
   have:=C.length_eq;simp only[ς,_I,đ] at this;simp only[ς,đ];lia
  have N:∀n,n∈σ++[k] ↔ ∃e∈c.toList,(intKind prog w).is n e.2=true:=λn=>by
   have:=mem_push_iff (knd:=intKind prog w) (S:=λn=>decide (n∈σ)) i (λn=>by rw[_N];exact qS n) C n;rw[<-this];simp
  have aa:(σ++[k]).Nodup:=Ţ.mpr ⟨nd,by simp,λx hx y hy=>by
   rw[al.mp hy];intro q;exact Z<|q ▸ hx⟩
  have T:(σ++[k]).length<scanBound:=by simp only[ς,đ];exact I
  have u:c.size<scanBound:=by rw[K];exact T
  have fin:∀(o:_E<|_i × _j)(d:Ä)(P7:_d)(O:Θ),Á a s.heap O->O.get? a=_a { cls:=.type "set",dict:=_n,data:=.set o P7 d }->o.toList.Perm c.toList->d.fits o.size=_h->Good d led ->
    Q _h { s with heap:=O }:=λo d P7 O sb e2 Y F B=>by
   refine h _h O sb ?_;unfold GC;rw[_l Z];refine⟨o,P7,d,e2,M.perm Y,λn=>(N n).trans ⟨λ⟨e,G,q⟩=>⟨e,Y.mem_iff.mpr G,q⟩,λ⟨e,G,q⟩=>⟨e,Y.mem_iff.mp G,q⟩⟩,?_,aa,T,F,B⟩;rw[<-_I,Y.length_eq,_I,K]
  have tail:∀(d:Ä),d.fits c.size=_h->Good d led->wpAny (_z prog w) A (do
    storeSet a c d
    if (!wd && d.tooFull)=_h then do
      (match (relayAll d c<|Β c.size).2.2 with | true=>rule "set.scan.the-table-gave-way" | false=>pure ())
      storeSet a (relayAll d c<|Β c.size).1 (relayAll d c<|Β c.size).2.1
      pure (_a _h)
     else pure (_a _h)) (λr p=>match r with | some b=>Q b p | none=>Χ) E s:=λd F B=>by
   refine _c<|XP P U ?_<|ĺ u
   have SW:=ο s.heap a<|s_ c d
   have e1:=WF (es':=c) (t':=d) P;split
   .have D:=relayAll_perm d c<|Β c.size
    have hq:=relayAll_fits d c<|Β c.size
    have hg:=Uy B c<|Β c.size
    generalize relayAll d c (Β c.size)=R at D hq hg |-;obtain⟨o,t3,gv⟩:=R;dsimp only at D hq hg |-;have ac:o.size<scanBound:=by rw[<-_I,D.length_eq,_I];exact u
    have v:wpAny (_z prog w) A (do storeSet a o t3;pure (_a _h)) (λr p=>match r with | some b=>Q b p | none=>Χ) E { s with heap:=s.heap.update a (s_ c d) }:=by
     refine _c<|XP e1 U ?_<|ĺ ac
     exact _k<|fin o t3 _ _ (SW.trans<|ο _ a _) (WF e1) D hq hg
    cases gv
    .exact _c<|_k v
    .exact _c<|Ç v
   .exact _k<|fin c d _ _ SW e1 (Ă _) F B
  have m:∀(d:Ä),d.fits c.size=_h->Good d led->wpAny (_z prog w) A (do
    storeSet a c d
    if (!wd && d.tooFull)=_h then do
      (match (relayAll d c<|Β c.size).2.2 with | true=>rule "set.scan.the-table-gave-way" | false=>pure ())
      storeSet a (relayAll d c<|Β c.size).1 (relayAll d c<|Β c.size).2.1
      pure (_a _h)
     else pure (_a _h)) (λr p=>wpAny (_z prog w) A (match r with | some f=>pure f | none=>setAddHashedIn a (.int k tk) ((intKind prog w).hash k) 99999) Q E p) E s:=λd F B =>
   ν (tail d F B) (λr p q=>by
    cases r with
    |none=>exact q.elim
    |some b=>exact _k q) λ_ _ e=>e
  have H:wpAny (_z prog w) A (do
    let l <-if J.plain then hashByValue 8 (.int k tk) else pure _h
    let d:=if l=_h then J else { J with plain:=_r }
    storeSet a c d
    if (!wd && d.tooFull)=_h then do
      (match (relayAll d c<|Β c.size).2.2 with | true=>rule "set.scan.the-table-gave-way" | false=>pure ())
      storeSet a (relayAll d c<|Β c.size).1 (relayAll d c<|Β c.size).2.1
      pure (_a _h)
     else pure (_a _h)) (λr p=>wpAny (_z prog w) A (match r with | some f=>pure f | none=>setAddHashedIn a (.int k tk) ((intKind prog w).hash k) 99999) Q E p) E s:=by
   split
   .rw[hashByValue_scannable 8 U];exact _c<|_k<|m J X W
   .exact _c<|_k<|m J X W
  cases QA
  .exact _c<|_k H
  .exact _c<|Ç H
end
theorem Hj.keep{w:_O}{σ:_b _i}(g:Hj prog w h a led σ)(k:∀o,h.get? a=_a o->h'.get? a=_a o):Hj prog w h' a led σ :=
 let ⟨c,b,t,e,r⟩:=g;⟨c,b,t,k _ e,r⟩
theorem Yr(σ:_b _i)(k:_i):(GC σ k).length<=σ.length+1:=by
 unfold GC;split
 .lia
 .simp
theorem I_:∀(ns:_b _i)(σ:_b _i),(ns.foldl GC σ).length<=σ.length+ns.length
 |[],σ=>by simp
 |k::ns,σ=>by
  have a:=I_ ns<|GC σ k
  have b:=Yr σ k;simp only[List.foldl_cons,Ë];lia
theorem Pq:∀(ns:_b _i)(σ:_b _i)(x:_i),x∈ns.foldl GC σ ↔ x∈σ \/ x∈ns
 |[],σ,x=>by simp
 |k::ns,σ,x=>by
  rw[mI,Pq ns (GC σ k) x];unfold GC;split
  .rename_i h;simp only[Ê];constructor
   .rintro (q | q)
    .exact .inl q
    .exact .inr<|.inr q
   .rintro (q | q | q)
    .exact .inl q
    .exact .inl<|q ▸ h
    .exact .inr q
  .simp[_aV]
section
variable{w:_O}{R:r_->_C->Prop}{I:_g}{wr:_b _g}{G:_E LO->_E LO->Prop}{P:_d->_j->Prop}{St:_d->_C->Prop}
theorem qG(W:WalksS prog w A.in1 I fp wr G n P St)(S:_g)(f:S ∉ fp)(ns:_b _i)(K:ns.length=n)(q:∀i v,P i v->∃t,v=.int (ns.getD i 0) t)(c:n+1<scanBound) :
  ∀(k i:_d)(s:_C),n - i=k->i<=n->St i s->Hj prog w s.heap S led ((ns.take i).foldl GC []) ->
   (∀s',Moved (S::wr) G s s'->Hj prog w s'.heap S led (ns.foldl GC [])->R (.ok<|.ret .none) s')->codeAny (_z prog w) A (.builtin "set.update.loop" ⟨[.ref S,.ref I],[]⟩) R s:=by
 have j:S ∉ wr:=λz=>f<|W.sub _ z
 have up:∀b∈wr,b∈S::wr:=λb z=>aT _ z;intro k
 induction k with
 |zero =>
  intro i s C E st g d;obtain rfl:i=n:=by lia
  refine Û At ?_;rw[Â ľ _];refine _c<|W.done s _ _ st λs' m=>_k<|d s' (m.mono up) ?_
  rw[dt (by lia)] at g;exact g.keep λo e=>m.heap S o j e
 |succ k H =>
  intro i s C E st g d;have lt:i<n:=by lia
  refine Û At ?_;rw[Â ľ _];refine _c<|W.item i s _ _ lt st λv s' p u m=>?_
  obtain⟨t,rfl⟩:=q i v p;have y:=g.keep (h':=s'.heap) λo e=>m.heap S o j e;refine _c<|π<|π<|_c<|(intKind prog w).pyHash (k:=ns.getD i 0) (intKind_is _ _ _ _) ?_
  have a:((ns.take i).foldl GC []).length+1<scanBound:=by
   have:=I_ (ns.take i) [];rw[cE] at this;simp at this;lia
  have tk:ns.take (i+1)=ns.take i++[ns.getD i 0]:=by
   have l:i<ns.length:=by lia
   rw[ck,af l];simp[l]
  refine wJ (s:={ s' with toks:=s'.toks+1 }) y a λb h' h x=>?_;have J:Hj prog w h' S led<|(ns.take<|i+1).foldl GC []:=by
   rw[tk,oe];exact x
  refine _k ⟨Ģ ľ _,H (i+1) _ (by lia) lt (W.frame _ s' _ _ u (kc _) λb c o e=>?_) J λr D B=>?_⟩
  .rw[h.2 b (λz:b=S=>f<|z ▸ c)];exact e
  .refine d r (Moved.trans W.gtrans ((m.mono up).then_heap (kc _) λb o c e=>?_) D) B;rw[h.2 b (λz:b=S=>c<|by rw[z];exact be)];exact e
end
section
variable{w:_O}{E:vSP}
noncomputable abbrev Ef(w:_O):Bool:=!w.params.followText "set-order"
theorem jT(h:Θ):Hj prog w (h.push { cls:=.type "set",dict:=_n,data:=.set #[] 0 (.fresh 0 0<|Ef w) }) h.objs.size (Ef w) [] :=
 ⟨#[],0,_,_p _ U,λe a=>by simp at a,λk=>by simp,U,.nil,by decide,by rfl,Vv _⟩
theorem ug(a:_j){Q1:vSP}(h:Q1 (.ref s.heap.objs.size) { s with heap:=s.heap.push { cls:=.type "set",dict:=_n,data:=.set #[] 0 (.fresh 0 0<|Ef w) } }) :
  codeAny (_z prog w) A (.call (.builtin "set.__new__") ⟨[.type "set",a],[]⟩) (wants Q1 E) s:=by
 refine _ay ?_;show wpAny _ A.in1 (do checkBuiltinCall "set.__new__" ⟨[.type "set",a],[]⟩;again (.builtin "set.__new__" ⟨[.type "set",a],[]⟩)) _ _ s;refine _c<|uA (F.newCall_set_1 a)<|_k ⟨Ģ XW _,Û F.entry_set_new ?_⟩
 rw[Â XW _];unfold É.«set.__new__» NC;have b:=sub_set_self;obtain⟨c,g,d,tk,os⟩:=s;dsimp only
 wp_walk
 refine ă<|_k ?_
 dsimp only;simp only[newObj];exact _c<|wpAny_alloc<|_k<|_k h
set_option maxHeartbeats 4000000 in
theorem xR{f:_E _j}(S:A.handled=_n)(hl:s.heap.IsList l f)(hi:Υ f.toList ns)(M:ns.length+1<scanBound)
  (h:∀h' tk,Hj prog w h' s.heap.objs.size (Ef w) (ns.foldl GC [])->(∀b o,s.heap.get? b=_a o->h'.get? b=_a o)->Q (.ref s.heap.objs.size) { s with heap:=h',toks:=tk }) :
  wpAny (_z prog w) A (call (.type "set") [.ref l]) Q E s:=by
 obtain⟨c,tl,FK⟩:=ú.mro;have WG:=ú.made;have G:=ú.sub;have d:f.size=ns.length:=by rw[<-IntsAre.length hi];simp
 refine ı<|_ay ?_
 show wpAny _ _ (callAny (.type "set") _) _ _ _;refine _k ⟨Code.quiet_builtin _<|by decide,Û F.entry_type_call ?_⟩;rw[Around.under_plain (weight_type_call_type "set" [.ref l] []) U];have h1:=ú.notType;have h2:=ú.canCreate;have N:=F.typeCall_set_1<|.ref l
 repeat (any_goals (first | assumption | wp_step))
 refine é (ug (.ref l) (E:=E) (Q1:=λa x=>a=.ref s.heap.objs.size/\x = { s with heap:=s.heap.push { cls:=.type "set",dict:=_n,data:=.set #[] 0 (.fresh 0 0<|Ef w) } }) ⟨U,U⟩) λr x k=>?_;rcases r with e | fl
 .exact k
 obtain⟨a,rfl,k⟩:∃a,fl=.ret a/\(a=.ref s.heap.objs.size/\x = { s with heap:=s.heap.push { cls:=.type "set",dict:=_n,data:=.set #[] 0 (.fresh 0 0 (Ef w)) } }):=by
  cases fl with
  |ret v=>exact⟨v,U,k⟩
  |_=>exact k.elim
 obtain⟨rfl,rfl⟩:=k;have V:(s.heap.push { cls:=.type "set",dict:=_n,data:=.set #[] 0 (.fresh 0 0<|Ef w) }).get? s.heap.objs.size=_a { cls:=.type "set",dict:=_n,data:=.set #[] 0 (.fresh 0 0<|Ef w) }:=_p _ U;have hT:Shared.TypeIs { s with heap:=s.heap.push { cls:=.type "set",dict:=_n,data:=.set #[] 0 (.fresh 0 0<|Ef w) } } (.ref s.heap.objs.size) "set":=⟨_,V,U⟩;have QP:=ú.init.lookup;have aa:=ú.init.bind<|.ref s.heap.objs.size
 repeat (any_goals (first | assumption | wp_step))
 refine é (Nl (R:=wants (λr B=>r=.none/\∃h' tk,B = { s with heap:=h',toks:=tk }/\Hj prog w h' s.heap.objs.size (Ef w) (ns.foldl GC [])/\∀b o,s.heap.get? b=_a o->h'.get? b=_a o) E)
  ú.init.plain F.entry_set_init (check_set_init_1 hT ?_)) λP B u=>?_
 .obtain⟨ol,I,j,H,J⟩:=hl;obtain⟨XG,HE,TM,DD⟩:=ol;simp only at j J;subst j;subst J;have p:(s.heap.push { cls:=.type "set",dict:=_n,data:=.set #[] 0 (.fresh 0 0<|Ef w) }).get? l=_a { cls:=.type "list",dict:=HE,data:=.seq f H,slots:=DD }:=_e _ I;have D:=F.sub_list_set;have Z':=F.sub_list_frozenset;have L:(Ö "list" == Ö "dict")=false:=by decide
  have t:(s.heap.push { cls:=.type "set",dict:=_n,data:=.set #[] 0 (.fresh 0 0<|Ef w) }).IsList l f:=⟨_,p,U,H,U⟩;unfold É.«set.__init__» noKeywords NL;generalize y:pyIter=PI
  wp_walk
  subst y;refine Ę t<|_c<|y8 ?_
  have K:l<s.heap.objs.size:=_q I;have X:A.in1.in1.in1.handled=none:=by simp[S]
  have W:l≠(s.heap.push { cls:=.type "set",dict:=_n,data:=.set #[] 0 (.fresh 0 0<|Ef w) }).objs.size:=by
   rw[ε];exact cf<|gX K
  have nf:s.heap.objs.size ∉ [(s.heap.push { cls:=.type "set",dict:=_n,data:=.set #[] 0 (.fresh 0 0<|Ef w) }).objs.size,l]:=by
   rw[ε];intro z;rcases bq.mp z with q | q
   .exact _D q<|cf<|gy _
   .exact _D (al.mp q)<|gg K
  refine qG ((Walks.list X _ l W f).toS) s.heap.objs.size nf ns d.symm (λi v hv=>IntsAre.int_at hi i v<|by rw[_w];exact hv) (by rw[d];exact M) (f.size - 0) 0 _ U (cK _)
   ⟨⟨_,_p _ U,U,U⟩,t.push _⟩ ((jT s.heap).keep λo e=>_e _ e) λT m g=>?_
  obtain⟨h',Z,Y,O,AQ⟩:=T;obtain rfl:Z=s.gens:=m.gens;obtain rfl:Y=s.drawn:=m.drawn;obtain rfl:AQ=s.os:=m.os;show wpAny _ _ _ _ _ _;refine _k ?_;show wpAny _ _ (ret _J) _ _ _;refine _k ⟨U,h',O,U,g,λb o e=>?_⟩;have C:=_q e;refine m.heap b o (λz=>?_)<|_e _<|_e _ e
  rcases bq.mp z with q | q
  .exact _D q<|cf C
  .have:=al.mp q;rw[ε] at this;exact _D this<|cf<|gX C
 .rcases P with e | n
  .exact u
  obtain⟨r,rfl,u⟩:∃r,n=.ret r/\(r=.none/\∃h' tk,B = { s with heap:=h',toks:=tk }/\Hj prog w h' s.heap.objs.size (Ef w) (ns.foldl GC [])/\∀b o,s.heap.get? b=_a o->h'.get? b=_a o):=by
   cases n with
   |ret v=>exact⟨v,U,u⟩
   |_=>exact u.elim
  obtain⟨rfl,h',tk,rfl,g,hk⟩:=u;repeat (any_goals (first | assumption | wp_step))
  exact h _ _ g hk
end
theorem HJ:Slot "set_iterator" "__next__" "set_iterator.__next__" :=
 .of (owner:="set_iterator") (n:="__next__") (by rw[_az,I7];kernel_rfl) (by decide) (by decide) (by decide) (by first | exact .inl (by decide) | exact .inr<|by decide) (by rw[_aW];kernel_rfl)
theorem JW:entryFor table "set_iterator.__next__" = _a É.«set_iterator.__next__»:=entryFor_of_tree<|by kernel_rfl
theorem Km(a:_j):argsOk "set_iterator.__next__" ⟨[a],[]⟩:=by
 unfold argsOk
 kernel_rfl
theorem V2:Slot "set_iterator" "__iter__" "set_iterator.__iter__" :=
 .of (owner:="set_iterator") (n:="__iter__") (by rw[_az,I7];kernel_rfl) (by decide) (by decide) (by decide) (by first | exact .inl (by decide) | exact .inr<|by decide) (by rw[_aW];kernel_rfl)
theorem PP:entryFor table "set_iterator.__iter__" = _a É.«dict_keyiterator.__iter__»:=_aX (id':="dict_keyiterator.__iter__") (by kernel_rfl) U (by decide)<|by kernel_rfl
theorem RV(a:_j):argsOk "set_iterator.__iter__" ⟨[a],[]⟩:=by
 unfold argsOk
 kernel_rfl
theorem NQ:entryFor table "set.__iter__" = _a É.«frozenset.__iter__»:=_aX (id':="frozenset.__iter__") (by kernel_rfl) U (by decide)<|by kernel_rfl
section
variable{M:xB}{E:vSP}
theorem iV{b:Source}{Q:_d->_C->Prop}(a:n≠0)(h:∀i d,i<n->Q i { s with drawn:=d }):wpAny M A (choose b n) Q E s :=
 λ_ _ _=>⟨a,h _ _<|tj _<|Nat.pos_of_ne_zero a⟩
theorem Qz{α:Type}:∀{l:_b α}{i:_d}{x:α},l[i]? = _a x->(x::l.eraseIdx i).Perm l
 |[],_,_,h=>by simp at h
 |a::l,0,x,h=>by
  simp at h;subst h;exact Ă _
 |a::l,i+1,x,h=>by
  have b:=Qz (l:=l) (i:=i) (x:=x)<|by simpa using h
  exact (_bt a x _).trans<|b.cons a
theorem T7{α:Type}:∀(n:_d)(xs:_b α)(s:_C)(Q:_b α->_C->Prop),xs.length=n->(∀r d,r.Perm xs->Q r { s with drawn:=d })->wpAny M A (drawOrder n xs) Q E s
 |0,xs,s,Q,a,h=>by
  have e:xs=[]:=lI a;subst e;exact _k<|h [] s.drawn (Ă _)
 |n+1,[],s,Q,a,h=>by simp at a
 |n+1,x::xs,s,Q,a,h=>by
  unfold drawOrder;refine _c<|iV (by simp) λi d f=>?_
  have b:(x::xs)[i]? = _a (x::xs)[i]:=af f;rw[b];dsimp only;have p:=Qz b;refine _c<|T7 n ((x::xs).eraseIdx i) _ _ (by have:=p.length_eq;simp only[Ë] at this a |-;lia) λr c g=>?_
  exact _k<|h _ c<|(g.cons _).trans p
end
theorem WK{α:Type}(next:_d->_d):∀(fuel k:_d)(left:_b α)(out:_E α),left.length=fuel->(pickOrder.go next fuel k left out).toList.Perm (out.toList++left)
 |0,k,left,out,h=>by
  have e:left=[]:=lI h;subst e;unfold pickOrder.go;simp
 |fuel+1,k,left,out,h=>by
  have b:next k % left.length<left.length:=tj _<|by lia
  have a:left[next k % left.length]? = _a left[next k % left.length]:=af b;unfold pickOrder.go;rw[a];dsimp only;have p:=Qz a;refine (WK next fuel (k+1) _ _ (by have:=p.length_eq;simp only[Ë] at this;lia)).trans ?_;rw[ç,ed];exact kU _ p
theorem Pr{α:Type}(next:_d->_d)(xs:_E α):(pickOrder next xs).toList.Perm xs.toList:=by
 have:=WK next xs.size 0 xs.toList #[] (by simp)
 simpa [pickOrder] using this
def Ey(first:_j)(i:_d)(a:_g)(n ep:_d):Obj:={ cls:=.type "set_iterator",data:=.fields #[first,rawInt i,.ref a,rawInt n,rawInt ep] }
inductive Way(w:_O)(a:_g)(es:_E<|_i×_j)(ep:_d)(t:Ä)(h:Θ):(_d->_j)->_b _j->_b _g->Prop where
 |text(hb:w.params.followText "set-order" = _h):Way w a es ep t h (λ_=>rawInt 0) ((pickOrder (w.params.setOrder a ep) es).toList.map (·.2)) []
 |drawn{tp:_g}{ps:_b _d}(hb:w.params.followText "set-order" = _r)(hp:ps.Perm (_B es.size))(ht:∃n,h.get? tp=_a { cls:=.type "tuple",data:=.seq (ps.map λ(i:_d)=>rawInt i).toArray n }) :
   Way w a es ep t h (λ_=>.ref tp) (ps.map λi=>(es.getD i (0,.none)).2) [tp]
 | plain(hb:w.params.followText "set-order" = _r)(hd:(!t.plain && decide (es.size > 1))=_r)(hl:t.led=_h)(hr:ZR t.place)(hs:t.place.size=es.size) :
   Way w a es ep t h (λi=>rawInt (if i=0 then 0 else t.place.getD (i - 1) 0+1:_d)) (es.toList.map (·.2)) []
section
variable{w:_O}{E:vSP}{es:_E (_i×_j)}{ep:_d}{t:Ä}{first:_d->_j}{vs:_b _j}{more:_b _g}
theorem Xp(c:w.params.followText "set-order" = _h){Q:_E (_i×_j)->_C->Prop}(d:s.heap.get? a=_a { cls:=.type "set",dict:=_n,data:=.set es ep t })(e:t.fits es.size=_h)
  (h:Q (pickOrder (w.params.setOrder a ep) es) s):wpAny (_z prog w) A (setWalk a) Q E s:=by
 unfold setWalk setsByText;refine _c<|ó d U e<|_c<|_c<|ă<|_k ?_
 have b:(_z prog w).w.params.followText "set-order" = true:=c;dsimp only;rw[b,_o U];exact _c<|ă<|_k h
theorem QS(d:w.params.followText "set-order" = _h){b:_d}{Q:_t (_j×_d)->_C->Prop}(g:s.heap.get? a=_a { cls:=.type "set",dict:=_n,data:=.set es ep t })(f:t.fits es.size=_h)
  (h:Q (((pickOrder (w.params.setOrder a ep) es)[i]?).map λe=>(e.2,b)) s):wpAny (_z prog w) A (setNext a b i ep) Q E s:=by
 unfold setNext setsByText;refine _c<|ó g U f<|_c<|_c<|ă<|_k ?_
 have c:(_z prog w).w.params.followText "set-order" = true:=d;dsimp only;rw[c,_o U,_l<|by simp];exact _c<|Xp d g f<|_k h
theorem Ow(e:w.params.followText "set-order" = _r)(g:(!t.plain && decide (es.size > 1))=_r)(k:t.led=_h){b:_d}{Q:_t (_j×_d)->_C->Prop}(d:s.heap.get? a=_a { cls:=.type "set",dict:=_n,data:=.set es ep t })
  (l:t.fits es.size=_h)(h:Q (match es[_S t.place b]?,t.place[_S t.place b]? with | some (_,x),_a j=>_a (x,j+1) | _,_=>_n) s):wpAny (_z prog w) A (setNext a b i ep) Q E s:=by
 unfold setNext setsByText;refine _c<|ó d U l<|_c<|_c<|ă<|_k ?_
 have c:(_z prog w).w.params.followText "set-order" = false:=e;dsimp only;rw[c,_l<|by simp];refine Ō (λf=>_D (show (!t.plain && decide (es.size > 1))=_h from f)<|by rw[g];simp)<|λ_=>_c ?_
 show wpAny _ _ (if (!t.led && !es.isEmpty)=_h then unsupported _ else pure ()) _ _ _;rw[k];exact _k<|_k h
theorem Va{b:_d}{x:_i×_j}(c:s.heap.get? a=_a { cls:=.type "set",dict:=_n,data:=.set es ep t })(e:t.fits es.size=_h)(d:es[b]? = _a x)(h:Q x.2 s) :
  wpAny (_z prog w) A (setNextDrawn a b ep) Q E s:=by
 unfold setNextDrawn;refine _c<|ó c U e ?_
 dsimp only;rw[_l (by simp),d];exact _k h
theorem Yq{first':_j}(first:_j)(b:h.get? it=_a (Ey first i a n ep)) :
  ((h.update it (ξ (·.setIfInBounds 0 first'))).update it (ξ (·.setIfInBounds 1 (rawInt<|(i:_i)+1)))).get? it=_a (Ey first' (i+1) a n ep):=by
 have c:=_W (ξ (·.setIfInBounds 0 first')) b U;have d:=_W (ξ (·.setIfInBounds 1 (rawInt<|(i:_i)+1))) c U;refine d.trans ?_;unfold Ey;simp[ξ]
theorem e_{first:_j}(b:h.get? it=_a (Ey first i a n ep)) :
  (h.update it (ξ (·.setIfInBounds 1 (rawInt<|(i:_i)+1)))).get? it=_a (Ey first (i+1) a n ep):=by
 have c:=_W (ξ (·.setIfInBounds 1 (rawInt<|(i:_i)+1))) b U;refine c.trans ?_;unfold Ey;simp[ξ]
theorem below_at{xs:_E _d}(r:ZR xs)(h:i<=xs.size):_S xs (if i=0 then 0 else xs.getD (i - 1) 0+1)=i:=by
 have c:=Ld r (if i=0 then 0 else xs.getD (i - 1) 0+1);generalize _S xs (if i=0 then 0 else xs.getD (i - 1) 0+1)=p at c;by_cases a:i=0
 .rw[_o a] at c;by_cases e:p=0
  .lia
  .have:=c.lo 0<|by lia
   lia
 .rw[_l a] at c;rcases og p i with q | q | q
  .have b:=c.hi (i - 1) (by lia)<|by lia
   lia
  .exact q
  .have b:=c.lo i q;have d:=Qd r (i:=i - 1) (k:=i) (by lia) (by have:=c.le;lia);lia
theorem R_{v:_j}{Q:_t _j->_C->Prop}(W:Way w a es ep t s.heap first vs more)(b:s.heap.get? it=_a (Ey (first i) i a es.size ep))(f:s.heap.get? a=_a { cls:=.type "set",dict:=_n,data:=.set es ep t })
  (h:t.fits es.size=_h)(c:vs[i]? = _a v)(j:∀h',h'.get? it=_a (Ey (first (i+1)) (i+1) a es.size ep)->Á it s.heap h'->Q (_a v) { s with heap:=h' }):wpAny (_z prog w) A (pyNext<|.ref it) Q E s:=by
 have B:s.TypeIs (.ref it) "set_iterator":=⟨_,b,U⟩;unfold pyNext;refine _c<|ð<|Ξ (name:=Ø "__next__") B HJ<|Α HJ B JW ?_<|Km _
 unfold É.«set_iterator.__next__»;refine _c (m:=slotArgs _ _ _)<|_k<|_c ?_
 unfold fieldsOf;refine _c<|İ b<|_k ?_
 refine _c<|Ũ f U h ?_
 rw[_l (by simp)]
 cases W with
 |text d =>
  dsimp only[rawInt];rw[aI,aI];refine _c<|QS d f h ?_
  rw[ar,_w] at c;obtain⟨x,g,rfl⟩:=aS.mp c;rw[g];refine _c<|ω b U (by simp) ?_
  refine _c<|ω (_W _ b U) U (by simp) ?_
  exact _k ⟨_,U,_k<|j _ (Yq _ b)<|(ο ..).trans<|ο ..⟩
 | @drawn F ps d J l =>
  obtain⟨n,l⟩:=l;rw[ar] at c;obtain⟨p,g,rfl⟩:=aS.mp c;have e:((i:_i)).toNat=i:=aI i;have y:p<es.size:=dL.mp<|J.mem_iff.mp<|am g
  have o:es[p]? = _a (es.getD p (0,.none)):=by simp[ā,y]
  have r:((Η (λ(i:_d)=>rawInt i) ps).toArray)[i]? = _a (rawInt p):=by
   rw[ŀ,ar,g];rfl
  have sq:∀(k:_t (_E _j)->_C->Prop)(z:vSP),k (_a (Η (λ(i:_d)=>rawInt i) ps).toArray) s->wpAny (_z prog w) A.in1 (seqItems?<|.ref F) k z s:=λk z q=>by
   exact Ò l U q
  refine _c<|sq _ _ ?_
  dsimp only;rw[e,r];dsimp only[rawInt];rw[aI,aI];refine _c<|Va f h o ?_
  refine _c<|ω b U (by simp) ?_
  exact _k ⟨_,U,_k<|j _ (e_ b)<|ο ..⟩
 |plain d D H G K =>
  have C:i<es.size:=by
   have:=(ag.mp c).1;simpa using this
  rw[ar,_w,_u C] at c
  cases c;have u:_S t.place (if i=0 then 0 else t.place.getD (i - 1) 0+1)=i:=below_at G<|by lia
  dsimp only[rawInt];rw[aI,aI,aI];refine _c<|Ow d D H f h ?_
  rw[u,_u C,_u (by lia:i<t.place.size)];refine _c<|ω b U (by simp) ?_
  refine _c<|ω (_W _ b U) U (by simp) ?_
  refine _k ⟨_,U,_k<|j _ ?_<|(ο ..).trans<|ο ..⟩;have I:t.place.getD i 0=t.place[i]'(by lia):=by simp[ā,(by lia:i<t.place.size)]
  have:=Yq (first':=rawInt ((t.place[i]'(by lia):_d)+1:_d)) _ b;show _=_a (Ey (rawInt<|(if i+1=0 then 0 else t.place.getD (i+1 - 1) 0+1:_d)) (i+1) a es.size ep);rw[_l (Nat.succ_ne_zero i),Nat.add_sub_cancel,I];exact this
theorem VD{c:_C}{Q:_t _j->_C->Prop}(f:A.handled=_n)(d:∀h',(∀b o,c.heap.get? b=_a o->h'.get? b=_a o)->Q _n { c with heap:=h' }) :
  wpAny (_z prog w) A.in1 (newExc (.type "StopIteration") [] >>= λe=>(raiseNew e:ww Fin)) (λfin s'=>∃v,fin=Fin.done (Flow.ret v)/\wpAny (_z prog w) A (match (ţ (_a v):Except _j<|_t _j) with | ţ (_a v)=>pure (_a v) | ţ _n=>unsupported "iter:the-iterator's-class-has-lost-its-__next__-amid-the-walk" | uC e=>do
    if <-isInstance e (.type "StopIteration") then pure _n else throw e) Q E s')
   (λe s'=>wpAny (_z prog w) A (match (uC e:Except _j<|_t _j) with | ţ (_a v)=>pure (_a v) | ţ _n=>unsupported "iter:the-iterator's-class-has-lost-its-__next__-amid-the-walk" | uC e=>do
    if <-isInstance e (.type "StopIteration") then pure _n else throw e) Q E s') c:=by
 refine _c ?_;simp only[newExc,newTuple];refine _c<|_X ?_<|by size_fits
 refine _c (m:=firstArgMember _ _)<|uA (a:=_J) (by first | rfl | (simp only[firstArgMember];rfl)) ?_
 refine _X ?_<|by size_fits
 simp only[raiseNew];refine _c<|_bk ?_
 rw[show A.in1.handled=_n from f];refine _c<|_k<|wpAny_throw ?_
 refine _c<|sK (T:="StopIteration") (b:=_h) ⟨_,_p _ U,U⟩ _aU ?_
 exact _k<|d _ λb o e=>_e _<|_e _ e
theorem TX{Q:_t _j->_C->Prop}(l:A.handled=_n)(W:Way w a es ep t s.heap first vs more)(d:s.heap.get? it=_a (Ey (first es.size) es.size a es.size ep))(q:s.heap.get? a=_a { cls:=.type "set",dict:=_n,data:=.set es ep t })
  (p:t.fits es.size=_h)(r:∀h',(∀b o,b≠it->s.heap.get? b=_a o->h'.get? b=_a o)->Q _n { s with heap:=h' }):wpAny (_z prog w) A (pyNext<|.ref it) Q E s:=by
 have x:s.TypeIs (.ref it) "set_iterator":=⟨_,d,U⟩;unfold pyNext;refine _c<|ð<|Ξ (name:=Ø "__next__") x HJ<|Α HJ x JW ?_<|Km _
 unfold É.«set_iterator.__next__»;refine _c (m:=slotArgs _ _ _)<|_k<|_c ?_
 unfold fieldsOf;refine _c<|İ d<|_k ?_
 refine _c<|Ũ q U p ?_
 rw[_l (by simp)];have fin:∀{f g:_E _j->_E _j}(b:_g)(o:ü),b≠it->s.heap.get? b=_a o->(s.heap.update it<|ξ f).get? b=_a o:=λb o c e=>(_F _ _<|_T c).trans e
 cases W with
 |text c =>
  dsimp only[rawInt];rw[aI,aI];refine _c<|QS c q p ?_
  have y:(pickOrder (w.params.setOrder a ep) es)[es.size]? = none:=by
   have:=(Pr (w.params.setOrder a ep) es).length_eq;simp only[_I] at this;rw[wm (by lia)]
  rw[y];refine _c<|ω d U (by simp)<|VD l λh' k=>r h' λb o c e=>k b o ?_
  exact (_F _ _<|_T c).trans e
 | @drawn F ps c D u =>
  obtain⟨n,u⟩:=u;have v:ps.length=es.size:=by have:=D.length_eq;simpa using this
  have h:((Η (λ(i:_d)=>rawInt i) ps).toArray)[((es.size:_d):_i).toNat]? = none:=by
   rw[aI,ŀ,ar,fe<|by lia];rfl
  refine _c<|Ò u U ?_
  dsimp only;rw[h];refine _c<|ω d U (by simp)<|_c<|ω (_W _ d U) U (by simp)<|VD l λh' k=>r h' λb o c e=>k b o ?_
  exact (_F _ _<|_T c).trans<|(_F _ _<|_T c).trans e
 |plain c B C z G =>
  have j:_S t.place (if es.size=0 then 0 else t.place.getD (es.size - 1) 0+1)=es.size:=below_at z<|by lia
  dsimp only[rawInt];rw[aI,aI,aI];refine _c<|Ow c B C q p ?_
  rw[j,wm<|ai _];refine _c<|ω d U (by simp)<|VD l λh' k=>r h' λb o c e=>k b o ?_
  exact (_F _ _<|_T c).trans e
end
end Wd
section PartSetJ
set_option maxHeartbeats 1000000
namespace Wd
open PySem PySem.Spec PyProof.Rows
theorem Way.keep{w:_O}{es:_E (_i×_j)}{ep:_d}{t:Ä}{first:_d->_j}{vs:_b _j}{more:_b _g}(W:Way w a es ep t h first vs more)(k:∀b∈more,∀o,h.get? b=_a o->h'.get? b=_a o):Way w a es ep t h' first vs more:=by
 cases W with
 |text c=>exact .text c
 |drawn c j d =>
  obtain⟨n,d⟩:=d;exact .drawn c j ⟨n,k _ (by simp) _ d⟩
 |plain c g i f e=>exact .plain c g i f e
theorem Way.perm{w:_O}{es:_E (_i×_j)}{ep:_d}{t:Ä}{first:_d->_j}{vs:_b _j}{more:_b _g}(W:Way w a es ep t h first vs more):vs.Perm (es.toList.map (·.2)):=by
 cases W with
 |text b=>exact (Pr _ es).map _
 | @drawn j ps b d o =>
  refine (d.map _).trans ?_;have e:(_B es.size).map (λi=>(es.getD i (0,_J)).2)=es.toList.map (·.2):=by
   refine ô (by simp) λi f n=>?_;have c:i<es.size:=by simpa using f
   simp[ā,c]
  rw[e]
 |plain b l m k g=>exact Ă _
theorem ints_of{w:_O}{es:_E (_i×_j)}{σ:_b _i}{vs:_b _j}(g:ElemsOf (intKind prog w) es.toList)(j:∀k,k∈σ ↔ ∃e∈es.toList,(intKind prog w).is k e.2=_h)(d:es.size=σ.length)(h:σ.Nodup)
  (p:vs.Perm (es.toList.map (·.2))):Υ vs (vs.map numOf)/\(vs.map numOf).Perm σ:=by
 have b:∀e∈es.toList,∃n t,e.2=Ζ n t:=λe a=>by
  obtain⟨⟨k,c,_⟩,_⟩:=g e a;obtain⟨t,q⟩:=Ś (k:=k) (v:=e.2) c;exact⟨k,t,q⟩
 refine⟨intsAre_map vs λv i=>?_,(p.map numOf).trans ?_⟩
 .obtain⟨e,a,rfl⟩:=ay.mp<|p.mem_iff.mp i;exact b e a
 .refine (We h (λx f=>?_)<|by simp[d]).symm;obtain⟨e,a,c⟩:=(j x).mp f;obtain⟨t,q⟩:=Ś (k:=x) (v:=e.2) c;rw[bi];refine ay.mpr ⟨e,a,?_⟩;show numOf e.2=x;rw[q];rfl
section
variable{w:_O}{E:vSP}{σ:_b _i}
theorem fH{es:_E (_i×_j)}{ep:_d}{t:Ä}{Q:_V->_C->Prop}(c:s.heap.get? a=_a { cls:=.type "set",dict:=_n,data:=.set es ep t })(b:t.fits es.size=_h)
  (h:Q (!w.params.followText "set-order" && (!t.plain && decide (es.size > 1))) s):wpAny (_z prog w) A (setDrawn a) Q E s:=by
 unfold setDrawn setsByText;exact _c<|ó c U b<|_c<|_c<|ă<|_k<|_k h
theorem nY(K:Hj prog w s.heap a (Ef w) σ)
  (h:∀es ep t d h' it first vs more,s.heap.get? a=_a { cls:=.type "set",dict:=_n,data:=.set es ep t }->t.fits es.size=_h->es.size=σ.length->Way w a es ep t h' first vs more->h'.get? it=_a (Ey (first 0) 0 a es.size ep) ->
   (∀b o,s.heap.get? b=_a o->h'.get? b=_a o)->s.heap.objs.size<=it->it ∉ more->(∀b∈more,s.heap.objs.size<=b)->Υ vs (vs.map numOf)->(vs.map numOf).Perm σ->Q (.ref it) { s with heap:=h',drawn:=d }) :
  wpAny (_z prog w) A (pyIter<|.ref a) Q E s:=by
 obtain⟨es,ep,t,j,y,B,k,G,C,f,g⟩:=K;have I:s.TypeIs (.ref a) "set":=⟨_,j,U⟩;have sz:es.size<=sizeLine:=by rw[k];exact ĺ C
 refine XZ I X0<|Α X0 I NQ ?_<|F.args_set_iter_1 _
 unfold É.«frozenset.__iter__» NR;refine _c<|_c (m:=slotArgs _ _ _)<|_k<|_k ?_
 unfold NW;refine _c<|_c<|Ũ j U f<|_k<|_c<|fH j f ?_
 have l:t.place.size=es.size:=by
  simp only[SetTable.fits,Ω,_H] at f;exact f.1
 by_cases u:(!w.params.followText "set-order" && (!t.plain && decide (es.size > 1)))=_h
 .rw[u];have c:w.params.followText "set-order" = false:=by simp at u;exact u.1
  refine _c<|T7 es.size (_B es.size) _ _ (by simp) λps d r=>?_
  have v:ps.length=es.size:=by have:=r.length_eq;simpa using this
  simp only[newTuple];refine _c<|_X ?_<|by show (Η (λ(i:_d)=>rawInt i) ps).toArray.size<=sizeLine;simp;lia
  have H:(s.heap.push { cls:=.type "tuple",data:=.seq (ps.map λ(i:_d)=>rawInt i).toArray }).get? a=_a { cls:=.type "set",dict:=_n,data:=.set es ep t }:=_e _ j;refine _c (m:=setEpoch a)<|YP H U f ?_
  unfold newFields;refine _c<|_X ?_<|by size_fits
  have W:Way w a es ep t ((s.heap.push { cls:=.type "tuple",data:=.seq (ps.map λ(i:_d)=>rawInt i).toArray }).push<|Ey (.ref s.heap.objs.size) 0 a es.size ep) (λ_=>.ref s.heap.objs.size) (ps.map λi=>(es.getD i (0,.none)).2) [s.heap.objs.size] :=
   .drawn c r ⟨0,_e _<|_p _ U⟩
  obtain⟨p,q⟩:=ints_of y B k G W.perm;have J:(s.heap.push { cls:=.type "tuple",data:=.seq (ps.map λ(i:_d)=>rawInt i).toArray }).objs.size=s.heap.objs.size+1:=ε _ _;refine _k ⟨_,U,"set_iterator",_,⟨_,_p _ U,U⟩,HJ.lookup,?_⟩;refine h es ep t d _ _ _ _ _ j f k W (_p _ U) (λb o e=>_e _<|_e _ e) ?_ ?_ (λb C=>?_) p q
  .rw[J];exact kc _
  .rw[J];intro z;exact _D (al.mp z)<|M' _
  .rw[al.mp C];exact ai _
 .have D:(!w.params.followText "set-order" && (!t.plain && decide (es.size > 1)))=false:=(fq _).mp u;rw[D];refine _c<|_k ?_
  refine _c (m:=setEpoch a)<|YP j U f ?_
  unfold newFields;refine _c<|_X ?_<|by size_fits
  refine _k ⟨_,U,"set_iterator",_,⟨_,_p _ U,U⟩,HJ.lookup,?_⟩
  cases c:w.params.followText "set-order" with
  |true =>
   have W:Way w a es ep t (s.heap.push<|Ey (rawInt 0) 0 a es.size ep) (λ_=>rawInt 0) ((pickOrder (w.params.setOrder a ep) es).toList.map (·.2)) []:=.text c;obtain⟨p,q⟩:=ints_of y B k G W.perm;exact h es ep t s.drawn _ _ _ _ _ j f k W (_p _ U) (λb o e=>_e _ e) (Τ _) (by simp) (by simp) p q
  |false =>
   rw[c] at D;have n:(!t.plain && decide (es.size > 1))=false:=D;have L:ZR t.place:=by
    cases r:t.plain with
    |true=>exact g.ris r
    |false =>
     rw[r] at n;have:es.size<=1:=by simpa using n
     show t.place.toList.Pairwise _;have v:t.place.toList.length<=1:=by simp;lia
     match hq:t.place.toList,v with
     |[],_=>exact .nil
     |[x],_=>exact ic _ _
     |_::_::_,v=>simp at v
   have W:Way w a es ep t (s.heap.push<|Ey (rawInt 0) 0 a es.size ep) (λi=>rawInt (if i=0 then 0 else t.place.getD (i - 1) 0+1:_d)) (es.toList.map (·.2)) []:=.plain c n (by rw[g.led];simp[Ef,c]) L l;obtain⟨p,q⟩:=ints_of y B k G W.perm;exact h es ep t s.drawn _ _ _ _ _ j f k W (_p _ U) (λb o e=>_e _ e) (Τ _) (by simp) (by simp) p q
theorem ig{first:_j}{ep:_d}(b:s.heap.get? it=_a (Ey first i a n ep))(h:Q (.ref it) s):wpAny (_z prog w) A (pyIter<|.ref it) Q E s:=by
 have c:s.TypeIs (.ref it) "set_iterator":=⟨_,b,U⟩;refine XZ c V2<|Α V2 c PP ?_<|RV _
 exact _k ⟨_,U,"set_iterator",_,c,HJ.lookup,h⟩
theorem du(u:A.handled=_n){es:_E (_i×_j)}{ep:_d}{t:Ä}{first:_d->_j}{vs:_b _j}{more:_b _g}(n:t.fits es.size=_h)(B:vs.length=es.size)(r:it≠a)(x:it ∉ more) :
  Walks prog w A it (it::a::more) [it] es.size (λi v=>vs[i]? = _a v) (λi h=>h.get? it=_a (Ey (first i) i a es.size ep)/\h.get? a=_a { cls:=.type "set",dict:=_n,data:=.set es ep t }/\Way w a es ep t h first vs more) where
 sub:=λb c=>by rw[al.mp c];exact be
 frame:=λi h j ⟨d,f,g⟩ k=>⟨k it be _ d,k a (aT _ be) _ f,g.keep λb c o e=>k b (aT _<|aT _ c) o e⟩
 item:=λi s Q E y ⟨d,f,g⟩ m=>by
  have p:vs[i]? = _a (vs[i]'(by lia)):=af _;refine R_ g d f n p λj e l=>?_;have:=m _ j s.toks p ⟨e,(l.2 a<|_T r).trans f,g.keep λb c o q=>(l.2 b<|λz=>x<|z ▸ c).trans q⟩ λb o c q=>(l.2 b<|λz=>c<|by rw[z];simp).trans q;exact this
 done:=λs Q E ⟨d,f,g⟩ m=>by
  refine TX u g d f n λj k=>?_;have:=m j s.toks λb o c q=>k b o (λz=>c<|by rw[z];simp) q;exact this
 self:=λi s Q E ⟨d,f,g⟩ h=>ig d h
theorem bU{Q:_V->_C->Prop}(f:s.TypeIs (.ref a) "set")(h:Q _r s):wpAny (_z prog w) A (Ŕ<|.ref a) Q E s:=by
 unfold Ŕ;refine _c<|_au f F.slot_set_len.lookup ?_
 generalize d:("set.__len__" : è)=e
 wp_delta
 rw[show splitId e=_a ("set","__len__") from by subst d;decide];subst d;refine _c<|sK (T:="set") (b:=_h) f sub_set_self ?_
 refine Ō (λc=>_D c<|by decide)<|λ_=>Ō (λ_=>_c<|EJ f<|_k h)<|λc=>_D (by decide) c
end
set_option maxHeartbeats 1000000
section
variable{w:_O}{E:vSP}{σ:_b _i}
theorem aC{R:r_->_C->Prop}{S:_g}{M:_d}(hh:A.handled=_n)(E:Hj prog w s.heap a (Ef w) σ)(u:s.heap.get? S=_a { cls:=.type "list",data:=.seq #[] M })
  (hR:∀h' tk d i7 c,(∀b o,b≠S->s.heap.get? b=_a o->h'.get? b=_a o)->h'.get? S=_a { cls:=.type "list",dict:=_n,data:=.seq i7 c,slots:=#[] }->(∃ks,Υ i7.toList ks/\ks.Perm σ)->R (.ok<|.ret<|.ref S) { s with heap:=h',toks:=tk,drawn:=d }) :
  wpAny (_z prog w) A.in1 (Þ (.ref S) (.ref a)<|.ref S)
   (λfin s'=>match fin with | .done f=>R (.ok f) s' | .again c'=>c'.quiet=_h/\codeAny (_z prog w) A c' R s') (λe s'=>R (.error e) s') s:=by
 obtain⟨aa,Y,t0,N,Go⟩:=id E;have Q:s.TypeIs (.ref a) "set":=⟨_,N,U⟩;have p:S≠a:=λz=>by rw[z,N] at u;simp at u
 unfold Þ;refine _c<|EJ (T:="set") Q ?_
 have h1:Ť (.ref S) (.ref a)=false:=by simp[Ť,p]
 have h:(Ö "set" == Ö "list")=false:=by decide
 have y:(Ö "set" == Ö "tuple")=false:=by decide
 simp only[h1,h,y,RE,ζ,Ñ];refine _c (nY E λes ep t d h' it first vs more B hf O W X n v g2 g3 V K=>?_);have sz:es.size<=sizeLine:=by
  obtain⟨_,_,_,_,g,_⟩:=Go;rw[O];exact ĺ g
 have H:vs.length=es.size:=by have:=K.length_eq;rw[ah] at this;lia
 have lt:=_q B;have D:=_q u;have i:S ∉ it::a::more:=λz=>by
  rcases bq.mp z with q | z
  .rw[q] at D;exact _D (ba D v)<|fI _
  rcases bq.mp z with q | z
  .exact p q
  .exact _D (ba D<|g3 _ z)<|fI _
 have Z:it≠a:=λz=>by rw[<-z] at lt;exact _D (ba lt v)<|fI _
 have G:=du (prog:=prog) (w:=w) (A:=A.in1) (a:=a) (it:=it) (es:=es) (ep:=ep) (t:=t) (first:=first) (vs:=vs) (more:=more) (by simpa using hh) hf H Z g2;have x:=n _ _ u;have k:h'.get? it=_a (Ey (first 0) 0 a es.size ep)/\h'.get? a=_a { cls:=.type "set",dict:=_n,data:=.set es ep t }/\Way w a es ep t h' first vs more:=⟨X,n _ _ B,W⟩
 have r:∀(h:Θ)(C tk:_d),(h.get? it=_a (Ey (first 0) 0 a es.size ep)/\h.get? a=_a { cls:=.type "set",dict:=_n,data:=.set es ep t }/\Way w a es ep t h first vs more)->(∀b o,b≠S->s.heap.get? b=_a o->h.get? b=_a o) ->
   h.get? S=_a { cls:=.type "list",data:=.seq #[] C }->codeAny (_z prog w) A (.builtin "list.extend.loop" ⟨[.ref S,.ref it,.ref S],[]⟩) R { s with heap:=h,toks:=tk,drawn:=d }:=by
  intro h C tk st k2 e2;refine codeAny_extend_loopS G.toS sz S i (.ref S) es.size 0 _ #[] C U (cK _) st e2 (ItemsOf.nil _) λs' i7 c m e3 L=>?_;obtain⟨y,g',F,N4,AQ⟩:=s';obtain rfl:g'=s.gens:=m.gens;obtain rfl:F=d:=m.drawn;obtain rfl:AQ=s.os:=m.os;refine hR y N4 F i7 c (λb o g e=>m.heap b o (λz=>?_)<|k2 b o g e) e3 ?_
  .rcases bq.mp z with q | z
   .exact g q
   .have I:=_q e;rw[al.mp z] at I;exact _D (ba I v)<|fI _
  .have ev:i7.toList=vs:=by
    refine gp λj=>?_;by_cases P:j<i7.size
    .have q:i7[j]? = _a i7[j]:=_u P;rw[_w,q,L.2 j _ q]
    .rw[Ē (by simp;lia),Ē<|by rw[H,<-L.1];lia]
   rw[ev];exact⟨_,V,K⟩
 refine _c<|π<|bU ⟨_,n _ _ B,U⟩ ?_
 refine Ō (λ_=>?_)<|λ_=>_k ⟨Ģ PySem.F.plain_extend_loop _,r _ M _ k (λb o _ e=>n b o e) x⟩
 refine _c<|Ç<|_c ?_
 show wpAny _ _ (updateSeq S (·.push .none) >>= λ_=>updateSeq S (·.pop)) _ _ _;refine _c<|_aA x U ?_
 have J:=_W (_Y (·.push _J)) x U;refine _aA (hz:=by seq_fits) J U ?_;have Y3:=_W (_Y (·.pop)) J U;have l:∀b o,b≠S->h'.get? b=_a o->((h'.update S (_Y (·.push _J))).update S (_Y (·.pop))).get? b=_a o:=λb o g e=>(_F _ _<|_T g).trans<|(_F _ _<|_T g).trans e
 refine _k ⟨Ģ PySem.F.plain_extend_loop _,r _ _ _ (G.frame 0 _ _ k λb g o e=>l b o (λz=>i<|z ▸ g) e) (λb o g e=>l b o g<|n b o e) Y3⟩
theorem Xa{R:_b _j->_C->Prop}(t:A.handled=_n)(u:Hj prog w s.heap a (Ef w) σ)
  (h:∀h' tk d i7 ks,(∀b o,s.heap.get? b=_a o->h'.get? b=_a o)->s.heap.objs.size<h'.objs.size->Υ i7 ks->ks.Perm σ->R i7 { s with heap:=h',toks:=tk,drawn:=d }):wpAny (_z prog w) A (collect<|.ref a) R E s:=by
 unfold collect;refine _c<|y8<|Û PySem.F.entry_proto_collect ?_
 rw[Â PySem.F.plain_proto_collect _];show wpAny _ A.in1 (newList [] >>= λl=>again<|.builtin "list.__iadd__" ⟨[l,.ref a],[]⟩) _ _ s;refine _c<|_X<|_k ⟨Ģ PySem.F.plain_list_iadd _,Û PySem.F.entry_list_iadd ?_⟩
 rw[Â PySem.F.plain_list_iadd _];have v:(s.heap.push { cls:=.type "list",data:=.seq ([]:_b _j).toArray }).get? s.heap.objs.size=_a { cls:=.type "list",data:=.seq #[] }:=_p _ U;show wpAny _ A.in1 (Þ (.ref s.heap.objs.size) (.ref a)<|.ref s.heap.objs.size) _ _ _;have n:=aC (A:=A) (s:={ s with heap:=s.heap.push { cls:=.type "list",data:=.seq ([]:_b _j).toArray } }) (S:=s.heap.objs.size) (R:=λq j=>∃h' tk d i7 c,q=.ok (.ret<|.ref s.heap.objs.size)/\j = { s with heap:=h',toks:=tk,drawn:=d } /\
   (∀b o,s.heap.get? b=_a o->h'.get? b=_a o)/\h'.get? s.heap.objs.size=_a { cls:=.type "list",dict:=_n,data:=.seq i7 c,slots:=#[] }/\∃ks,Υ i7.toList ks/\ks.Perm σ) t (u.keep λo e=>_e _ e) v
  λh' tk d i7 c k g p=>⟨h',tk,d,i7,c,U,U,λb o e=>k b o (cf<|_q e)<|_e _ e,g,p⟩
 refine ν n (λfin j x=>?_) λe j x=>?_
 .cases fin with
  |done f =>
   obtain⟨h',tk,d,i7,c,e,rfl,k,g,ks,i,m⟩:=x
   cases e;exact _c<|İ g<|_k<|h h' tk d i7.toList ks k (_q g) i m
  |again z =>
   refine⟨x.1,é x.2 λq B y=>?_⟩;obtain⟨h',tk,d,i7,c,rfl,rfl,k,g,ks,i,m⟩:=y;exact _c<|İ g<|_k<|h h' tk d i7.toList ks k (_q g) i m
 .obtain⟨_,_,_,_,_,r,_⟩:=x
  cases r
end
end Wd
end PartSetJ
namespace L2
open PySem PySem.Spec PyProof.Rows
def gW(P:Ð)(w:_O)(a:_g)(τ:_b _i):HO:=.ext λh=>Wd.Hj P w h a (Wd.Ef w) τ
theorem gw{w:_O}{τ:_b _i}(g:Wd.Hj P w h a (Wd.Ef w) τ):Cd P w H h a (gW P w a τ) :=
 ⟨g,(let ⟨_,_,_,e,_⟩:=g;⟨_,e⟩),λ_ _ g k=>g.keep k⟩
theorem MF:∀{ns:_b _i}{us:_b _j},Vals (ns.map V.int) us->Υ us ns
 |[],_,r=>by cases r;exact .nil
 |n::ns,_,r=>by
  cases r with
  |cons r t =>
   obtain⟨tk,rfl⟩:=r;exact .cons n tk<|MF t
theorem KD:∀{ns:_b _i}{us:_b _j},Υ us ns->Vals (ns.map V.int) us
 |_,_,.nil=>.nil
 |_,_,.cons n t r=>.cons ⟨t,U⟩<|KD r
theorem Inv.jh{t':_d}{d':Drawn}(I:Inv X b9 σ H s)(k:∀b u,s.heap.get? b=_a u->h'.get? b=_a u)(c:s.heap.objs.size<=a)(d:Cd X.prog X.w (upd H a o) h' a o) :
  Inv X b9 σ (upd H a o) { s with heap:=h',drawn:=d',toks:=t' } :=
 I.call (g':=s.gens) (d':=d') (t':=t') (ch:=[]) (Un.laid k c<|I.hok.fresh c) (I.hok.laid k c d) I.bare λb z=>_D z<|by simp
theorem Zi(b:X.calm=_h):Eo X (.type "set") (λxs H Q=>∃(l:_g)(ns:_b _i),xs=[V.ref l]/\Cp X.K H l (ns.map V.int)/\ns.length<=1000/\∀p,H p=_n->Q (.ref p) (upd H p<|gW X.prog X.w p<|ns.foldl Wd.GC [])):=by
 intro n s σ H xs j Q I r h;obtain⟨l,ns,rfl,c,o,q⟩:=h;obtain⟨u,rfl,f⟩:=vals1 r
 cases f;obtain⟨d,e,i,_⟩:=I.list c;have a:H s.heap.objs.size=none:=I.hok.fresh<|ai _
 refine Wd.xR (I.ok.hd b) i.isList (by simpa using MF e) (by unfold scanBound;lia) λm tk g k=>?_;exact⟨.ref s.heap.objs.size,_,I.laid (t':=tk) k (ai _)<|gw g,U,q _ a⟩
theorem iY:Ga X (binaryOp .LShift)<|rI (λi j=>0<=j/\(Đ i:_i)+j<=2 ^ 27) λi j=>.int<|i * 2 ^ j.toNat:=nJ λ_ _ _ _ _ _ _ a q=>lshift_int a.1 a.2 q
def vz(K:_s)(a:_g)(xs:_b V):It :=
 ⟨λi H=>Cp K H a xs/\i<xs.length,λi H x H'=>H'=H/\xs[xs.length - 1 - i]? = _a x,λi H=>Cp K H a xs/\i=xs.length⟩
theorem ZG{w:_O}{K:_s}(a it:_g)(xs:_b V):Turn P w K tg (vz K a xs) [it] it (λi h=>h.IsRevIter it a<|(xs.length:_i) - 1 - (i:_d)) where
 mem:=by simp
 obj:=λi h st b f=>by
  have e:b=it:=by simpa using f
  subst e;obtain⟨o,e,c,d⟩:=st;exact⟨o,e,λv z=>by rw[d] at z;cases z⟩
 keep:=λi h g st k=>st.at λo e=>k it (by simp) o e
 item:=by
  intro X l A t G i D s σ H E I j st n;subst l A t;obtain⟨F,S⟩:=n;obtain⟨O,Y,p,hz⟩:=I.list F;have J:xs[xs.length - 1 - i]? = _a (xs[xs.length - 1 - i]'(by lia)):=af<|by lia
  obtain⟨u,N,ru⟩:=Y.get J;obtain⟨y,m,L,C,B,r⟩:=j it<|by simp
  have e:(xs.length:_i) - 1 - ((i:_d):_i)=((xs.length - 1 - i:_d):_i):=by lia
  rw[e] at st;refine wpAny_pyNext_rev_item st p.isList (x:=u) (by simpa using N) λg q M=>?_;have T:Inv X D σ H { s with heap:=g }:=I.turned (t':=s.toks) (λb o f e=>(M.2 b f).trans e) y m C B r;have Z:((xs.length - 1 - i:_d):_i) - 1=(xs.length:_i) - 1 - ((i+1:_d):_i):=by lia
  rw[Z] at q;obtain⟨o,R,c,d⟩:=id q;exact⟨u,U,Ry (s:={ s with heap:=g }) R c d (by decide) ⟨_,H,T,ru,⟨U,J⟩,q,λb f=>(j b f).1⟩⟩
 done:=by
  intro X l A t G i D s σ H E I j st n;subst l A t;obtain⟨F,rfl⟩:=n;obtain⟨y,m,L,C,B,r⟩:=j it<|by simp
  have e:(xs.length:_i) - 1 - ((xs.length:_d):_i) = -1:=by lia
  rw[e] at st;exact wpAny_pyNext_rev_end (I.ok.hd G) st λg Q=>⟨U,I.turned (t':=s.toks) (λb o f e=>Q b o f e) y m C B r⟩
 self:=λ_ _ _ _ _ st h=>N1 st h
inductive lU(K:_s)(R:It->Hp->Prop)(vs:_b V)(H1:Hp):Prop
|mk(a xs:_)(_:vs=[.ref a])(_:Cp K H1 a xs)(_:R (vz K a xs) H1)
abbrev iRev(K:_s)(ta:TA):TI:=λσ H R=>ta σ H λvs H1=>lU K R vs H1
theorem nQ{l:Expr}{j:TA}{p:ĵ}(m:Gl X "reversed")(k:X.mg "reversed" = _n)(n:PA X [l] j)(z:starEach [l] X.env=[(_r,eval l X.env)]:=by rfl):PI X tg (.Call (.Name "reversed" p) [l] [] pos)<|iRev X.K j:=by
 intro y s σ H R I h;refine Call_<|H_ I m k _aB<|Å (CP (n pos y s σ H _ I h) λG d ⟨E,B,g,A,C⟩=>?_) z U
 obtain⟨a,i,e,r,q⟩:=C;subst e;obtain⟨u,rfl,D⟩:=vals1 A
 cases D;obtain⟨c,t,w,J⟩:=g.list r;refine call_reversed_list w.isList ?_;have f:(d.heap.push<|revObj a<|(c.toArray.size:_i) - 1).IsRevIter d.heap.objs.size a<|(c.toArray.size:_i) - 1:=⟨_,_p _ U,U,U⟩
 refine N1 (s:={ d with heap:=d.heap.push (revObj a<|(c.toArray.size:_i) - 1) }) f ?_;refine⟨d.heap.objs.size,[d.heap.objs.size],_,_,B,U,g.kept (t':=d.toks) λb o e=>_e _ e,ZG a _ i,?_,λb x=>?_,q⟩
 .have F:=t.length;have v:((c.toArray.size:_d):_i) - 1=(i.length:_i) - 1 - ((0:_d):_i):=by
   rw[bp];lia
  show (d.heap.push<|revObj a<|(c.toArray.size:_i) - 1).IsRevIter d.heap.objs.size a ((i.length:_i) - 1 - ((0:_d):_i));rw[<-v];exact f
 .have e:b=d.heap.objs.size:=by simpa using x
  subst e;exact g.Td (ai _)<|g.hok.fresh<|ai _
theorem jA{K:_s}{g:TG}{tb:TS}{D:Ends}(b:_d->St->Hp->Prop)(l:b 0 σ H)(k:∀i σ H,i<=xs.length->b i σ H->Cp K H a xs)
  (n:∀i x σ H,i<xs.length->xs[xs.length - 1 - i]? = _a x->b i σ H->g x σ H λσ2 H2=>tb { D with nx:=b<|i+1,ct:=b<|i+1,bk:=D.nx } σ2 H2) (h:∀σ H,b xs.length σ H->D.nx σ H) :
  ∃W:_d->_d->St->Hp->Prop,(∃m,W 0 m σ H)/\∀i m σ H,W i m σ H ->
   ((vz K a xs).stop i H/\D.nx σ H) \/ ((vz K a xs).go i H/\∃N:St->Hp->Prop,(∀σ' H',N σ' H'->∃m',m'<m/\W (i+1) m' σ' H')/\∀x H',(vz K a xs).yld i H x H'->g x σ H' λσ2 H2=>tb { D with nx:=N,ct:=N,bk:=D.nx } σ2 H2):=by
 refine⟨λi m σ H=>m=xs.length - i/\i<=xs.length/\b i σ H,⟨xs.length,by simp,Ε _,l⟩,?_⟩;rintro i m σ H ⟨rfl,j,p⟩;have q:=k i σ H j p;by_cases c:i<xs.length
 .refine .inr ⟨⟨q,c⟩,b<|i+1,λσ' H' d=>⟨xs.length - (i+1),by lia,U,by lia,d⟩,?_⟩;rintro x H' ⟨rfl,f⟩;exact n i x σ H' c f p
 .have e:i=xs.length:=by lia
  subst e;exact .inl ⟨⟨q,U⟩,h σ H p⟩
open PySem PySem.Spec PySem.Calls PyProof.Rows
section
theorem range_any(bs:_b _V):((_B bs.length).any λi=>(bs[i]?).getD _r)=bs.any id:=by
 rw[dA,gE,gE];constructor
 .rintro⟨i,c,e⟩;have a:=dL.mp c;rw[af a] at e;exact⟨_,de a,e⟩
 .rintro⟨b,d,e⟩;obtain⟨i,c,q⟩:=hV.mp d;refine⟨i,dL.mpr c,?_⟩;rw[af c,q];exact e
theorem O5(B:X.calm=_h):Eo X (.builtin "any") (λxs H Q=>∃(p:_g)(bs:_b _V),xs=[V.ref p]/\Cp X.K H p (bs.map V.bl)/\Q (.bl<|bs.any id) H):=by
 intro L s σ H xs E Q I r h;obtain⟨p,bs,rfl,D,q⟩:=h;obtain⟨u,rfl,k⟩:=vals1 r
 cases k;obtain⟨a,t,j,M⟩:=I.list D;have c:bs.length=a.length:=by have:=t.length;rw[ah] at this;exact this
 have g:p<s.heap.objs.size:=by obtain⟨_,e,_⟩:=j.isList;exact _q e
 refine call_any_walk<|Ę j.isList ?_
 refine⟨s.heap.objs.size,[s.heap.objs.size,p],[s.heap.objs.size],a.toArray.size,_,_,λi=>(bs[i]?).getD _r,U,Walks.list (A:=X.A.in1) (I.ok.hd B) _ p (cf g) a.toArray,
  ⟨⟨_,_p _ U,U,U⟩,j.isList.push _⟩,λi v F G J w d=>?_,λK tk z=>?_⟩
 .have n:a[i]? = _a v:=by simpa using w
  have C:i<a.length:=(ag.mp n).1;have l:bs[i]? = _a bs[i]:=by simp[c,C]
  obtain⟨u,m,k⟩:=t.get (i:=i) (x:=.bl bs[i])<|by rw[ar,l];rfl
  rw[n] at m
  cases m
  cases k;dsimp only at d;rw[l] at d;exact η d
 .have e:((_B a.toArray.size).any λi=>(bs[i]?).getD _r)=bs.any id:=by rw[bp,<-c];exact range_any bs
  rw[e];refine⟨.bl<|bs.any id,H,I.kept (t':=tk) λb o f=>z b o (λy=>?_)<|_e _ f,U,q⟩;rw[al.mp y] at f;exact fI _<|_q f
theorem Ih(ns:_b _i):∀j,j<=ns.length->preSum (λi=>(ns[i]?).getD 0) j=(ns.take j).sum
 |0,_=>rfl
 |j+1,h=>by
  have a:=Ih ns j<|by lia
  show preSum _ j+(ns[j]?).getD 0=_;rw[a,ck,af<|by lia,gu];simp
theorem L_(M:_i):∀ns:_b _i,(∀n∈ns,0<=n/\n<=M)->0<=ns.sum/\ns.sum<=ns.length * M
 |[],_=>by simp
 |n::r,h=>by
  have b:=h n<|be ..
  have c:=L_ M r λx a=>h x<|aT _ a
  have e:((n::r).length:_i) * M=r.length * M+M:=by rw[zdl];push_cast;rw[BN,om]
  rw[e,ii];lia
theorem OD(G:X.calm=_h):Eo X (.builtin "sum") (λxs H Q=>∃(p:_g)(ns:_b _i),xs=[V.ref p]/\Cp X.K H p (ns.map V.int)/\(∀n∈ns,0<=n/\n<=100000)/\ns.length<=1000/\Q (.int ns.sum) H):=by
 intro O s σ H xs L Q I r h;obtain⟨p,ns,rfl,K,d,R,q⟩:=h;obtain⟨u,rfl,l⟩:=vals1 r
 cases l;obtain⟨a,y,k,P⟩:=I.list K;have c:ns.length=a.length:=by have:=y.length;rw[ah] at this;exact this
 have f:p<s.heap.objs.size:=by obtain⟨_,e,_⟩:=k.isList;exact _q e
 refine call_sum_walk<|Ę k.isList ?_
 refine⟨s.heap.objs.size,[s.heap.objs.size,p],[s.heap.objs.size],a.toArray.size,_,_,λi=>(ns[i]?).getD 0,U,Walks.list (A:=X.A.in1) (I.ok.hd G) _ p (cf f) a.toArray,
  ⟨⟨_,_p _ U,U,U⟩,k.isList.push _⟩,λb d=>?_,λi v B=>?_,λj E=>?_,λN tk t' F=>?_⟩
 .rw[ε];rcases bq.mp d with rfl | d
  .exact gy _
  .rw[al.mp d];exact gX f
 .have w:a[i]? = _a v:=by simpa using B
  have J:i<a.length:=(ag.mp w).1;have d:ns[i]? = _a ns[i]:=by simp[c,J]
  obtain⟨u,m,l⟩:=y.get (i:=i) (x:=.int ns[i])<|by rw[ar,d];rfl
  rw[w] at m
  cases m;obtain⟨t,rfl⟩:=l;exact⟨t,by dsimp only;rw[d];rfl⟩
 .have z:j<ns.length:=by rw[c];simpa using E
  rw[Ih ns (j+1) (by lia)];have T:=d ns[j] (de z);have S:=L_ 100000 (ns.take<|j+1) λn D=>d n<|gS D
  have M:(ns.take<|j+1).length<=1000:=by rw[cE];lia
  unfold InLong;dsimp only;rw[af z];rw[Option.getD_some];refine⟨⟨?_,?_⟩,⟨?_,?_⟩⟩ <;> lia
 .have e:preSum (λi=>(ns[i]?).getD 0) a.toArray.size=ns.sum:=by rw[bp,<-c,Ih ns _<|ai _,eW]
  rw[e];refine⟨.int ns.sum,H,I.kept (t':=tk) λb o g=>F b o (λC=>?_)<|_e _ g,⟨_,U⟩,q⟩;rw[al.mp C] at g;exact fI _<|_q g
theorem Ti:∀{ts:_b _A}{its:_b _j},Vals (ts.map V.str) its->∃l:_b<|_A×LB,its=strValues l/\l.map (·.1)=ts
 |[],_,h=>by
  cases h;exact⟨[],U,U⟩
 |t::ts,_,h=>by
  cases h with
  |cons a b =>
   obtain⟨k,rfl⟩:=a;obtain⟨l,rfl,rfl⟩:=Ti b;exact⟨(t,k)::l,U,U⟩
theorem fc:yQ X "str.join" (λx xs H Q=>∃(z:_A)(p:_g)(ts:_b _A),x=V.str z/\xs=[V.ref p]/\Cp X.K H p (ts.map V.str)/\JoinOk z ts=_h/\Q (.str<|Txt.join z ts) H):=by
 intro o s σ H x xs v j Q I e r h;obtain⟨z,p,ts,rfl,rfl,f,c,q⟩:=h;obtain⟨t,rfl⟩:=e;obtain⟨w,rfl,g⟩:=Vals.one r
 cases g;obtain⟨b,d,i,m⟩:=I.list f;obtain⟨l,rfl,a⟩:=Ti d;exact SC.join i.isList a c λn k=>⟨.str _,H,I.tok _,⟨_,U⟩,q⟩
structure KDict(K:_s)(P:ň)(a:_g):Prop where
 is:∃es n,K.lookup a=_a ⟨.type "dict",_n,.dict es n,#[]⟩/\W.KeysLit P es.toList
 lo:(a == sysModules)=_r
inductive Yj(K:_s)(P:ň)(Q:VK)(x:V)(y:V)(H2:Hp):Prop
|mk(a z v u:_)(_:x=.ref a)(_:y=.str z)(_:KDict K P a)(_:Δ K a z=_a (_a u))(_:RelV v u)(_:Q v H2)
abbrev ul(K:_s)(P:ň)(td ty:TE):TE:=λσ H Q=>td σ H λx H1=>ty σ H1 λy H2=>Yj K P Q x y H2
inductive jy(K:_s)(P:ň)(neg:_V)(Q:VK)(y:V)(x:V)(H2:Hp):Prop
|mk(a z r:_)(_:x=.ref a)(_:y=.str z)(_:KDict K P a)(_:Δ K a z=_a r)(_:Q (.bl (if neg then !r.isSome else r.isSome)) H2)
abbrev xO(K:_s)(P:ň)(neg:_V)(ty td:TE):TE:=λσ H Q=>ty σ H λy H1=>td σ H1 λx H2=>jy K P neg Q y x H2
variable{o i:Expr}{td ty:TE}
theorem RN(F:PE X o td)(hi:PE X i ty)(q:mz i):PE X (.Subscript o i pos)<|ul X.K X.w.params td ty:=by
 intro d s σ H Q I h;refine W6 ky q<|CP (F d s σ H _ I h) λu j ⟨x,G,C,E,l⟩=>CP (hi d j σ G _ C l) λL M k=>?_
 obtain⟨y,B,c,m,a,z,v,w,g,D,r,p,J,f⟩:=k;subst g D
 cases E;obtain⟨t,rfl⟩:=m;obtain⟨⟨K,n,e,A⟩,lo⟩:=r;have b:=T8 (prog:=X.prog) c.JX e A;exact⟨b.typeIs,_ad (Uf X.prog X.w z t) b (_ak e p) ⟨v,B,c.tok _,J,f⟩⟩
theorem az(hi:PE X i ty)(B:PE X o td):PC X .In i o<|xO X.K X.w.params _r ty td:=by
 intro c s σ H Q I h;refine CP (hi c s σ H _ I h) λF g ⟨y,C,v,k,D⟩=>CP (B c g σ C _ v D) λu G j=>?_;obtain⟨x,q,b,A,a,z,r,f,w,p,l,e⟩:=j;subst f w
 cases A;obtain⟨t,rfl⟩:=k;obtain⟨⟨E,n,d,m⟩,lo⟩:=p;refine wpAny_in_of (Uf X.prog X.w z t) lo (T8 (prog:=X.prog) b.JX d m) ?_;rw[_ak d l];exact⟨.bl r.isSome,q,b.tok _,U,e⟩
theorem YK(hi:PE X i ty)(B:PE X o td):PC X .NotIn i o<|xO X.K X.w.params _h ty td:=by
 intro c s σ H Q I h;refine CP (hi c s σ H _ I h) λF g ⟨y,C,v,k,D⟩=>CP (B c g σ C _ v D) λu G j=>?_;obtain⟨x,q,b,A,a,z,r,f,w,p,l,e⟩:=j;subst f w
 cases A;obtain⟨t,rfl⟩:=k;obtain⟨⟨E,n,d,m⟩,lo⟩:=p;refine _aQ (Uf X.prog X.w z t) lo (T8 (prog:=X.prog) b.JX d m) ?_;rw[_ak d l];exact⟨.bl<|!r.isSome,q,b.tok _,U,e⟩
end
noncomputable def stepV(xs:_b V)(lo hi:_t _i)(k:_i):_b V:=(sliceRange (sliceBounds lo hi (_a k) xs.length).1 (sliceBounds lo hi (_a k) xs.length).2.1 (sliceBounds lo hi (_a k) xs.length).2.2).filterMap (xs[·]?)
theorem YL{lo hi:_t _i}{k:_i}(h:y∈stepV xs lo hi k):y∈xs:=by
 obtain⟨j,_,e⟩:=nh.mp h;exact am e
theorem Xf:∀{xs:_b V}{us:_b _j},Vals xs us->∀js:_b _d,Vals (js.filterMap (xs[·]?)) (js.filterMap (us[·]?)):=by
 intro xs us h js
 induction js with
 |nil=>exact .nil
 |cons j js b =>
  rw[mn,mn];by_cases d:j<xs.length
  .have a:xs[j]? = _a xs[j]:=af d;obtain⟨u,c,e⟩:=h.get a;rw[a,c];exact .cons e b
  .have f:=h.length;rw[fe (by lia),fe<|by lia];exact b
inductive bC(K:_s)(Q:VK)(x:V)(lo:_t _i)(hi:_t _i)(k:V)(H4:Hp):Prop
|mk(j:_)(q1:k=.int j)(q2:0<j)(a xs:_)(_:x=.ref a)(_:Cp K H4 a xs)(_:∀p,H4 p=_n->(stepV xs lo hi j).length<=xs.length->Q (.ref p) (upd H4 p (.lst (stepV xs lo hi j))))
abbrev xZ(K:_s)(te:TE)(tl th:TO)(ts:TE):TE:=λσ H Q=>te σ H λx H1=>tl σ H1 λlo H2=>th σ H2 λhi H3=>ts σ H3 λk H4=>bC K Q x lo hi k H4
section
variable{e st:Expr}{lo hi:_t Expr}{ts:TE}{tl th:TO}{p2:ĵ}
theorem Qn(F:PE X e te)(Y:PO X lo tl)(O:PO X hi th)(w:PE X st ts):PE X (.Subscript e (.Slice lo hi (_a st) p2) pos)<|xZ X.K te tl th ts:=by
 intro g s σ H Q I h;refine Ų<|CP (F g s σ H _ I h) λv K i=>?_
 obtain⟨x,H1,I1,S,q1⟩:=i;refine wpAny_Slice<|CP (Y g K σ H1 _ I1 q1) λC Z ⟨l,T,M,rl,E⟩=>CP (O g Z σ T _ M E) λA s3 i=>?_
 obtain⟨u,N,W,ru,G⟩:=i;rw[_a5];refine CP (w g s3 σ N _ W G) λvk f i=>?_;obtain⟨k,P,L,rk,j,ek,hj,a,c,J,V,q⟩:=i;subst ek J;obtain⟨t,rfl⟩:=rk
 cases S;have p:Inv X g σ P { f with heap:=f.heap.push { cls:=.type "slice",data:=.fields #[C,A,.int j t] } }:=L.kept (t':=f.toks) λb ob q=>_e _ q;obtain⟨d,r,y,R⟩:=p.list V;have n:=r.length;show wpAny (_z X.prog X.w) X.A (subscriptTail e (.Slice lo hi (_a st) p2) (.ref a)<|.ref f.heap.objs.size) (EP X g σ Q) X.xe { f with heap:=f.heap.push { cls:=.type "slice",data:=.fields #[C,A,.int j t] } };refine _aS (ops:=[.ref a,.ref f.heap.objs.size]) y.isList.typeIs ž.lookup ?_<|by with_unfolding_all rfl
 refine A3 y.isList (Heap.IsSliceOf.new ..) rl ru (.int j t) (by intro z;cases z;lia) ?_<|by rw[bp] <;> lia
 have B:slicePick d.toArray l u (_a j)=((sliceRange (sliceBounds l u (_a j) c.length).1 (sliceBounds l u (_a j) c.length).2.1 (sliceBounds l u (_a j) c.length).2.2).filterMap (d[·]?)).toArray:=by
  unfold slicePick;rw[bp,n];simp only[ŀ]
 have D:Vals (stepV c l u j) ((sliceRange (sliceBounds l u (_a j) c.length).1 (sliceBounds l u (_a j) c.length).2.1 (sliceBounds l u (_a j) c.length).2.2).filterMap (d[·]?)):=Xf r _;have m:(stepV c l u j).length<=c.length:=by
  have:=slicePick_size_le d.toArray l u<|some j
  rw[B,bp,bp,<-D.length] at this;lia
 rw[B];exact⟨.ref _,_,p.laid (t':=f.toks) (o:=.lst<|stepV c l u j) (λb ob q=>_e _ q) (ai _) ⟨bo m R,_,0,D,_p _ U⟩,U,q _ (p.hok.fresh<|ai _) m⟩
end
end L2
namespace Og
open PySem L2
theorem Am{K:_s}(h:X.K=K):sU X<|xF K:=h ▸ mY
theorem Bu{K:_s}(h:X.K=K):sU X<|uU K:=h ▸ Et
theorem Oj{K:_s}(h:X.K=K):Ga X (compareOp .In)<|ye K false:=h ▸ W9
theorem cG{e:Expr}:PE X e<|λ_ _ _=>False:=λ_ _ _ _ _ _ h=>h.elim
structure R where
 w:_A
 nm:_A
 rest:_b V
abbrev R.v(r:R):_b V:=.str r.w :: .str r.nm::r.rest
def isNm(z:_A):Prop:=1<=z.length/\z.length<=8/\∀c∈z.cps.toList,97<=c/\c<=122
def Rows(H:Hp)(ρ:V->R)(vs:_b V):Prop:=∀v∈vs,TupAt H (ρ v).v v
theorem Rows.mono{ρ:V->R}(s:Al H H')(h:Rows H ρ vs):Rows H' ρ vs:=λv a=>(h v a).mono s
theorem Rows.sub{ρ:V->R}{us:_b V}(h:Rows H ρ vs)(b:∀v∈us,v∈vs):Rows H ρ us:=λv a=>h v<|b v a
noncomputable abbrev pw(ρ:V->R)(w:_A)(v:V):Bool:=decide (V.str (ρ v).w=V.str w)
noncomputable abbrev pn(ρ:V->R)(t:_A)(v:V):Bool:=decide (V.str (ρ v).nm=V.str t)
def kY(ρ:V->R)(vs:_b V)(w t:_A):Bool:=(vs.filter<|pw ρ w).any<|pn ρ t
def KTup(K:_s)(a:_g)(xs:_b V):Prop:=∃(o:ü)(its:_E _j)(n:_d),K.lookup a=_a o/\o.cls=.type "tuple" /\ o.data=.seq its n/\its.size<=sizeLine/\Vals xs its.toList
theorem KTup.sq{K:_s}(h:KTup K a xs)(H:Hp):Fd K H a xs:=.inr h
noncomputable abbrev named:_b Str:=["board","rank","stop","coupler","mute"]
def Je(K:_s)(aB:_g)(ρ:V->R)(vs:_b V)(x:V)(part:_A):Prop :=
 (∃(i lo hi:_i)(b:_g),x=.int i/\Δ K aB part=_a (_a<|.ref b)/\KTup K b [.int lo,.int hi]/\lo<=i/\i<=hi) \/
 (Δ K aB part=_a _n/\part = "new" /\ ∃t,x=.str t/\isNm t/\∀w∈named,kY ρ vs w t=_r) \/
 (Δ K aB part=_a _n/\¬ part = "new" /\ ∃t,x=.str t/\isNm t/\kY ρ vs part t=_h)
structure Sw(K:_s)(aB aP aM:_g)(ρ:V->R)(vs:_b V)(r:R):Prop where
 ns:¬ r.w = "step"
 nl:¬ r.w = "line"
 parts:∃(ap:_g)(ps:_b _A),Δ K aP r.w=_a (_a<|.ref ap)/\KTup K ap (ps.map V.str)/\(V.str r.nm::r.rest).length=ps.length/\ps.length<=10 /\
  ∀(i:_d) x y,(V.str r.nm::r.rest)[i]? = _a x->ps[i]? = _a y->Je K aB ρ vs x y
 room:∃(m:_i)(t:LB),Δ K aM r.w=_a (_a<|.int m t)/\(((vs.filter<|pw ρ r.w).length:_d):_i)<m
def letters:Str:="abcdefghijklmnopqrstuvwxyz"
abbrev wu(y:_A)(c:_d):Bool:=!(Builtin.Str.occurrences y ⟨#[c]⟩ 0 y.length 1).isEmpty
theorem fQ:∀c<128,wu letters c=decide (97<=c/\c<=122):=by decide
theorem Ay(h:H p=_n):Al H<|upd H p o:=λb u e=>by rw[An (Ak e h)];exact e
theorem Jp(h:H p=_n):∃H',upd H p o=H'/\Al H H'/\H' p=_a o:=⟨_,U,Ay h,Ai⟩
theorem DW(h:n<=1000):n<=sizeLine:=fh<|Aw h
theorem ty_int{K:_s}:Ú K (.type "int") (.type "int")=_a true:=by kernel_rfl
theorem yC{K:_s}:Ú K (.type "int") (.type "bool")=_a false:=by kernel_rfl
theorem Wx{K:_s}:Ú K (.type "list") (.type "list")=_a true:=by kernel_rfl
theorem Wq{K:_s}:Ú K (.type "tuple") (.type "tuple")=_a true:=by kernel_rfl
theorem k_{K:_s}:Ú K (.type "str") (.type "str")=_a true:=by kernel_rfl
theorem OJ(vs:_b V)(n:_d)(h:n<=vs.length):HQ vs _n (_a (n:_i))=vs.take n:=by
 unfold HQ;have b:HT.Ew vs.length 0 _n=0:=rfl;have a:HT.Ew vs.length vs.length (_a (n:_i))=n:=by
  rw[HT.Q4];lia
 rw[b,a];simp
theorem Jb{α:Type}(p:α->_V)(l:_b α):(l.filter p).length<=l.length:=dE _ _
noncomputable abbrev bV(b:_A×_d):_b V:=[.str b.1,.int (b.2:_d)]
abbrev Gm(b:_A×_d):R:=⟨"board",b.1,[.int (b.2:_d)]⟩
noncomputable abbrev qV(q:_d×_d):_b V:=[.int (q.1:_d),.int (q.2:_d)]
def GQ(bs:_b<|_A×_d):_b<|_d×Nat:=bs.zipIdx.flatMap λp=>(_B p.1.2).map λe=>(p.2,e)
theorem Z7(bs:_b<|_A×_d)(b:_A×_d):GQ (bs++[b])=GQ bs++(_B b.2).map λe=>(bs.length,e):=by
 unfold GQ;rw[List.zipIdx_append];simp
theorem Kv{bs:_b (_A×_d)}{b:_A×_d}(h:bs[i]? = _a b):GQ (bs.take<|i+1)=GQ (bs.take i)++(_B b.2).map λe=>(i,e):=by
 have a:i<bs.length:=(ag.mp h).1;rw[ck,h];show GQ (bs.take i++[b])=_;rw[Z7,cE,ſ<|by lia]
theorem Qc(bs:_b<|_A×_d)(M:_d):(∀b∈bs,b.2<=M)->(GQ bs).length<=bs.length * M:=by
 intro h;have c:∀i,i<=bs.length->(GQ<|bs.take i).length<=i * M:=by
  intro i
  induction i with
  |zero=>intro _;simp[GQ]
  |succ i d =>
   intro e;have a:i<bs.length:=by lia
   rw[Kv (af a),av,ah,dQ];have g:=d<|by lia
   have f:=h bs[i] (de a);have:(i+1) * M=i * M+M:=by rw[Nat.add_mul,Nat.one_mul]
   lia
 have:=c bs.length<|ai _
 rw[eW] at this;exact this
theorem Dq{α β:Type}{F:α->β->Prop}{l:_b α}{vs:_b β}(h:Paired F l vs):∀{v},v∈vs->∃a∈l,F a v:=by
 induction h with
 |nil=>intro v c;cases c
 |cons a b d =>
  intro v c;rcases bq.mp c with rfl | c
  .exact⟨_,be ..,a⟩
  .obtain⟨x,e,q⟩:=d c;exact⟨x,aT _ e,q⟩
theorem Cj{α β:Type}{F:α->β->Prop}{l:_b α}{vs:_b β}(h:Paired F l vs):∀{i:_d} {a},l[i]? = _a a->∃v,vs[i]? = _a v/\F a v:=by
 induction h with
 |nil=>intro i a b;simp at b
 |cons x y c =>
  intro i a b
  cases i with
  |zero =>
   simp at b;subst b;exact⟨_,U,x⟩
  |succ i=>exact c<|by simpa using b
theorem Do{α β:Type}{F:α->β->Prop}{l:_b α}{vs:_b β}(h:Paired F l vs):∀{i:_d} {v},vs[i]? = _a v->∃a,l[i]? = _a a/\F a v:=by
 induction h with
 |nil=>intro i a b;simp at b
 |cons x y c =>
  intro i a b
  cases i with
  |zero =>
   simp at b;subst b;exact⟨_,U,x⟩
  |succ i=>exact c<|by simpa using b
theorem IK{α β:Type}{F:α->β->Prop}{l:_b α}{vs:_b β}(h:Paired F l vs):∀n:_d,Paired F (l.take n)<|vs.take n:=by
 induction h with
 |nil=>intro n;simp;exact .nil
 |cons x y a =>
  intro n
  cases n with
  |zero=>exact .nil
  |succ n=>exact .cons x<|a n
theorem FN{α β:Type}{F:α->β->Prop}{l b:_b α}{vs a:_b β}(h:Paired F l vs)(h':Paired F b a):Paired F (l++b)<|vs++a:=by
 induction h with
 |nil=>exact h'
 |cons x y c=>exact .cons x c
theorem CG{α β γ:Type}{F:γ->β->Prop}(g:α->γ){l:_b α}{vs:_b β}(h:Paired (λa v=>F (g a) v) l vs):Paired F (l.map g) vs:=by
 induction h with
 |nil=>exact .nil
 |cons x y b=>exact .cons x b
theorem Gj{α β γ:Type}{F:γ->β->Prop}(g:α->γ):∀{l:_b α}{vs:_b β},Paired F (l.map g) vs->Paired (λa v=>F (g a) v) l vs
 |[],_,h=>by cases h;exact .nil
 |a::l,_,h=>by
  cases h with
  |cons x y=>exact .cons x<|Gj g y
def PN(H:Hp)(k:_d):V->V
 |.ref T=>match H T with
  |some (.tup xs)=>xs.getD k .non
  |_=>.non
 |_=>.non
theorem Hg{a:_b V}{v:V}(h:TupAt H a v)(k:_d):PN H k v=a.getD k .non:=by
 obtain⟨T,rfl,e⟩:=h;show (match H T with | some (.tup xs)=>xs.getD k V.non | _=>V.non)=_;rw[e]
theorem Ms{α:Type}{g:α->_b V}(k:_d){l:_b α}(h:Paired (λa v=>TupAt H (g a) v) l vs):vs.map (PN H k)=l.map λa=>(g a).getD k .non:=by
 induction h with
 |nil=>rfl
 |cons x y b=>rw[df,df,b,Hg x]
def SX(x:_g)(H H':Hp):Prop:=∀b o,H b=_a o->b≠x->H' b=_a o
theorem SX.trans{x:_g}(a:SX x H H1)(b:SX x H1 H2):SX x H H2:=λc o h n=>b c o (a c o h n) n
theorem SX.of{x:_g}(s:Al H H'):SX x H H':=λb o h _=>s b o h
theorem SX.up{x:_g}:SX x H<|upd H x o:=λb u h n=>by rw[An n];exact h
theorem SX.tup{x:_g}{a:_b V}{fs:_b (_A×V)}(s:SX x H H')(b:H x=_a (.ins C dx fs))(h:TupAt H a y):TupAt H' a y:=by
 obtain⟨T,e,q⟩:=h;exact⟨T,e,s _ _ q λz=>by rw[z,b] at q;cases q⟩
theorem SX.pair{α:Type}{x:_g}{f:α->_b V}{l:_b α}{fs:_b (_A×V)}(s:SX x H H')(b:H x=_a (.ins C dx fs))(h:Paired (λa y=>TupAt H (f a) y) l vs):Paired (λa y=>TupAt H' (f a) y) l vs:=Paired.Em h λ_ _ q=>s.tup b q
theorem SX.lst{x:_g}{fs:_b (_A×V)}(s:SX x H H')(b:H x=_a (.ins C dx fs))(h:H a=_a (.lst xs)):H' a=_a (.lst xs):=s _ _ h λz=>by rw[z,b] at h;cases h
theorem SX.dk{x:_g}{fs:_b (_A×V)}(s:SX x H H')(b:H x=_a (.ins C dx fs))(h:H a=_a (.dK kvs)):H' a=_a (.dK kvs):=s _ _ h λz=>by rw[z,b] at h;cases h
noncomputable abbrev meths:_b Str:=["ranks","pipe_count","pipe","rank_of","board_of_knob","boards","key_count","key","board_of","coupler","knobs","knob_number","board_number","stop","mute","steps","rows"]
inductive tE(C:_g)(H:Hp)(x:_g)(bs:_b<|_A×_d)(ks:_b R):Prop
 |mk(dx:_g)(fs:_b (_A×V))(bl bn kp kr:_g)(oQ qv rL:_b V)(kvs:_b (Key×V)):H x=_a (.ins C dx fs)->fs.lookup ("board_list" : _A)=_a (.ref bl)->fs.lookup ("board_numbers" : _A)=_a (.ref bn)->fs.lookup ("key_places" : _A)=_a (.ref kp)->fs.lookup ("knob_rows" : _A)=_a (.ref kr)->(∀m∈meths,fs.lookup m=_n)->H bl=_a (.lst oQ)->Paired (λb y=>TupAt H (bV b) y) bs oQ->H bn=_a (.dK kvs)->(∀(i:_d) b,bs[i]? = _a b->Cv kvs (δ b.1)=_a (.int (i:_d)))->H kp=_a (.lst qv)->Paired (λq y=>TupAt H (qV q) y) (GQ bs) qv->H kr=_a (.lst rL)->Paired (λ(r:R) y=>TupAt H r.v y) ks rL->tE C H x bs ks
structure EY(C:_g)(H:Hp)(x:_g)(bs:_b<|_A×_d)(ks:_b R):Prop where
 ob:tE C H x bs ks
 nb:bs.length<=5
 sz:∀b∈bs,b.2<=61
 nk:ks.length<=200
theorem EY.mono{x:_g}{bs:_b (_A×_d)}{e:_b R}(s:Al H H')(h:EY C H x bs e):EY C H' x bs e:=by
 obtain⟨⟨z,fs,o,D,kp,m,t,g,n,d,A,q,f,v,B,k,w,j,l,p,u,y,r,i⟩,a,b,c⟩:=h;exact⟨⟨z,fs,o,D,kp,m,t,g,n,d,s _ _ A,q,f,v,B,k,s _ _ w,Ao s j,s _ _ l,p,s _ _ u,Ao s y,s _ _ r,Ao s i⟩,a,b,c⟩
end Og
variable{ρ:L2.V->Og.R}{r:Og.R}
namespace L2
open PySem PySem.Spec PyProof.Rows
theorem jY(xs ys:_b V):((_B<|min xs.length ys.length).all (λj=>QZ (xs.getD j .non)<|ys.getD j .non) && xs.length == ys.length)=j8 xs ys:=by
 by_cases h:xs.length=ys.length
 .rw[show min xs.length ys.length=xs.length by lia,QL xs ys h,_H.mpr h,UF]
 .rw[V7 xs ys h,à.mpr h,kL]
inductive Rq(r' C4:R2)(tc td:TE)(σ:St)(Q:VK)(y:V)(z:V)(H3:Hp):Prop
|mk(k:_)(_:z=.bl k)(_:if k=_h then tc σ H3 λw H4=>r' y w H4 λz2 H5=>∃k2,z2=.bl k2/\(if k2=_h then td σ H5 λv H6=>C4 w v H6 Q else Q (.bl _r) H5) else Q (.bl _r) H3)
abbrev iw(r r' C4:R2)(ta tb tc td:TE):TE:=λσ H Q=>ta σ H λx H1=>tb σ H1 λy H2=>r x y H2 λz H3=>Rq r' C4 tc td σ Q y z H3
theorem Xh{j g i:ua}{r F l:R2}{a b c d:Expr}{tb p w:TE}(ho:Ga X (compareOp j) r)(tT:Ga X (compareOp g) F)(Z:Ga X (compareOp i) l)(Y:PE X a ta)(O:PE X b tb)(hc:PE X c p)(T:PE X d w)
  (G:lastMarks [j,g,i] [b,c,d]=false:=by with_unfolding_all rfl):PE X (.Compare a [j,g,i] [b,c,d] pos)<|iw r F l ta tb p w:=by
 intro f s σ H Q I h;refine _a0 (CP (Y f s σ H _ I h) λv N ⟨x,H1,I1,r1,q1⟩=>PR (CP (O f N σ H1 _ I1 q1) λu s2 ⟨y,H2,R,A,K⟩ =>
  CP (ho f s2 σ H2 x y v u _ R r1 A K) λd s3 ⟨z,q,D,r3,k,e,n⟩=>?_)) G
 subst e
 cases r3;refine η ?_
 cases k with
 |false=>exact ite_ff ⟨.bl _r,q,D,U,n⟩
 |true =>
  refine ite_tt<|PR<|CP (hc f s3 σ q _ D n) λB s4 ⟨E,W,P,C,q4⟩=>CP (tT f s4 σ W y E u B _ P A C q4) λd5 s5 S=>?_
  obtain⟨z5,o,m,J,k5,e5,t⟩:=S;subst e5
  cases J;refine η ?_
  cases k5 with
  |false=>exact ite_ff ⟨.bl _r,o,m,U,t⟩
  |true=>exact ite_tt<|chain_last<|CP (T f s5 σ o _ m t) λw6 s6 ⟨V,L,I6,M,q6⟩=>Z f s6 σ L E V B w6 Q I6 C M q6
end L2
namespace Og
open PySem L2 PyProof.Rows
noncomputable def Bl(c k:_i):Int:=((c % 1000003+7919 * k * k+k+1) * 48271 % 2147483629) * ((c % 1000003+7919 * k * k+k+1) * 48271 % 2147483629) % 2147483587
inductive Kb where
 | cp(i j:_d)(s:_i)
 | pl(w:_A)(i:_d)
noncomputable def Kb.w:Kb->_A
 |.cp _ _ _=>"coupler"
 |.pl w _=>w
noncomputable def Kb.v:Kb->_b V
 |.cp i j s=>[.str "coupler",.int (i:_d),.int (j:_d),.int s]
 |.pl w i=>[.str w,.int (i:_d)]
def Kb.ok(n:_d):Kb->Prop
 |.cp i j s=>i<n/\j<n /\ -60<=s/\s<=60
 |.pl w i=>i<n/\(w = "mute" \/ w = "stop")
theorem Kb.wo{k:Kb}(h:k.ok n):k.w = "stop" \/ k.w = "coupler" \/ k.w = "mute":=by
 cases k with
 |cp i j s=>exact .inr<|.inl U
 |pl w i=>rcases h.2 with e | e;exact .inr<|.inr e;exact .inl e
theorem Kb.v0(k:Kb):∃r,k.v=.str k.w::r:=by cases k <;> exact⟨_,rfl⟩
def GR(w:_A):Nat:=if w = "coupler" then 12 else if w = "mute" then 5 else 24
abbrev Ie(w:_A)(z:Kb):Bool:=decide (V.str z.w=V.str w)
structure Vo(n:_d)(d3:_b Kb):Prop where
 ok:∀k∈d3,k.ok n
 room:∀(i:_d) k,d3[i]? = _a k->((d3.take i).filter<|Ie k.w).length<GR k.w
 len:d3.length<=70
def Ml(c:_d->_A)(k:_d):Kb->R
 |.cp i j s=>⟨"coupler",c<|30+k,[.str (c i),.str<|c j,.int s]⟩
 |.pl w i=>⟨w,c<|30+k,[.str (c i)]⟩
theorem Jt(c:_d->_A)(k:_d)(z:Kb):(Ml c k z).w=z.w:=by cases z <;> rfl
theorem W4(c:_d->_A)(k:_d)(z:Kb):(Ml c k z).nm=c (30+k):=by cases z <;> rfl
def Bj(c:_d->_A)(sz:_b _d):_b<|_A×Nat:=sz.zipIdx.map λp=>(c p.2,p.1)
noncomputable def Cy(c:_d->_A)(d3:_b Kb):_b R:=d3.zipIdx.map λp=>Ml c p.2 p.1
theorem Eg{sz:_b _d}{z:_d}(h:sz[i]? = _a z):(Bj c sz)[i]? = _a (c i,z):=by
 unfold Bj;rw[ar,fT,h];simp
theorem HB{sz:_b _d}{b:_A×_d}(h:(Bj c sz)[i]? = _a b):∃z,sz[i]? = _a z/\b=(c i,z):=by
 have d:i<(Bj c sz).length:=(ag.mp h).1;have a:i<sz.length:=by simpa [Bj] using d
 refine⟨sz[i],af a,?_⟩;rw[Eg (af a)] at h;exact (_m h).symm
theorem Gy(c:_d->_A)(sz:_b _d):(Bj c sz).length=sz.length:=by simp[Bj]
theorem D_(c:_d->_A)(sz:_b _d):(Bj c sz).map (·.2)=sz:=by
 unfold Bj;rw[bi];refine gp λi=>?_;rw[ar,fT]
 cases sz[i]? <;> simp
theorem Fb{a:_b Kb}{z:Kb}(h:a[i]? = _a z):(Cy c a)[i]? = _a (Ml c i z):=by
 unfold Cy;rw[ar,fT,h];simp
theorem En{b:_b Kb}(h:(Cy c b)[i]? = _a r):∃z,b[i]? = _a z/\r=Ml c i z:=by
 have d:i<(Cy c b).length:=(ag.mp h).1;have a:i<b.length:=by simpa [Cy] using d
 refine⟨b[i],af a,?_⟩;rw[Fb (af a)] at h;exact (_m h).symm
theorem K7(c:_d->_A)(a:_b Kb):(Cy c a).length=a.length:=by simp[Cy]
structure KF(K:_s)(aB aP aM:_g):Prop where
 pB:∃a,Δ K aP "board" = _a (_a<|.ref a)/\KTup K a (["new","keys"].map λs:è=>V.str s)
 pS:∃a,Δ K aP "stop" = _a (_a<|.ref a)/\KTup K a (["new","board"].map λs:è=>V.str s)
 pM:∃a,Δ K aP "mute" = _a (_a<|.ref a)/\KTup K a (["new","board"].map λs:è=>V.str s)
 pC:∃a,Δ K aP "coupler" = _a (_a<|.ref a)/\KTup K a (["new","board","board","leap"].map λs:è=>V.str s)
 bK:∃a,Δ K aB "keys" = _a (_a<|.ref a)/\KTup K a [.int 1,.int 61]
 bL:∃a,Δ K aB "leap" = _a (_a<|.ref a)/\KTup K a [.int (-60),.int 60]
 bN:Δ K aB "new" = _a _n
 bB:Δ K aB "board" = _a _n
 mB:∃t,Δ K aM "board" = _a (_a<|.int 5 t)
 mS:∃t,Δ K aM "stop" = _a (_a<|.int 24 t)
 mC:∃t,Δ K aM "coupler" = _a (_a<|.int 12 t)
 mM:∃t,Δ K aM "mute" = _a (_a<|.int 5 t)
noncomputable def dR(H:Hp):V->R
 |.ref T=>match H T with
  |some (.tup (.str w :: .str n::r))=>⟨w,n,r⟩
  |_=>⟨"","",[]⟩
 |_=>⟨"","",[]⟩
theorem Ut{v:V}(h:TupAt H r.v v):dR H v=r:=by
 obtain⟨T,rfl,e⟩:=h;show (match H T with | some (.tup (.str w :: .str n::r))=>(⟨w,n,r⟩:R) | _=>⟨"","",[]⟩)=r;rw[e]
theorem Wz{a:_b R}(h:Paired (λ(r:R) v=>TupAt H r.v v) a vs):vs.map (dR H)=a:=by
 induction h with
 |nil=>rfl
 |cons x y b=>rw[df,b,Ut x]
theorem CK(f:_A)(v:V):∀l:_b<|_A×V,(Bo f v l).length<=l.length+1
 |[]=>ai _
 |p::r=>by
  unfold Bo;split
  .simp
  .have:=CK f v r;simp only[Ë];lia
abbrev Mj(s:_A):Bool:=inV (.str s) [.str "stop",.str "coupler",.str "mute"]
def Hu(ρ:V->R)(vs:_b V):_b<|_A×Str:=vs.map λv=>((ρ v).w,(ρ v).nm)
abbrev WX(wn:_b<|_A×_A)(w t:_A):Bool:=(wn.filter λp=>decide (p.1=w)).any λp=>decide (p.2=t)
abbrev Zf(wn:_b<|_A×_A)(w:_A):Nat:=(wn.filter λp=>decide (p.1=w)).length
theorem JN(a b:_A):decide (V.str a=V.str b)=decide (a=b):=by
 rw[dA,_N,_N];exact⟨V.str.inj,congrArg V.str⟩
theorem Lj(ρ:V->R)(vs:_b V)(w t:_A):kY ρ vs w t=WX (Hu ρ vs) w t:=by
 unfold kY Hu;show _=((vs.map λv=>((ρ v).w,(ρ v).nm)).filter λp=>decide (p.1=w)).any λp=>decide (p.2=t);rw[fm,ow];have a:pw ρ w=(λp:_A×_A=>decide (p.1=w)) ∘ λv=>((ρ v).w,(ρ v).nm):=by
  funext v;exact JN _ _
 have b:pn ρ t=(λp:_A×_A=>decide (p.2=t)) ∘ λv=>((ρ v).w,(ρ v).nm):=by
  funext v;exact JN _ _
 rw[a,b]
theorem Jg(ρ:V->R)(vs:_b V)(w:_A):(vs.filter<|pw ρ w).length=Zf (Hu ρ vs) w:=by
 unfold Hu;show _=((vs.map λv=>((ρ v).w,(ρ v).nm)).filter λp=>decide (p.1=w)).length;rw[fm,ah];have a:pw ρ w=(λp:_A×_A=>decide (p.1=w)) ∘ λv=>((ρ v).w,(ρ v).nm):=by
  funext v;exact JN _ _
 rw[a]
section
variable{K:_s}{wn:_b (_A×_A)}{t:_A}
theorem KC(F:KF K aB aP aM)(e:Hu ρ vs=wn)(b:isNm t)(h:∀w∈named,WX wn w t=_r):Je K aB ρ vs (.str t) "new" :=
 .inr (.inl ⟨F.bN,U,_,U,b,λw a=>by rw[Lj,e];exact h w a⟩)
theorem Jf(F:KF K aB aP aM)(e:Hu ρ vs=wn)(a:isNm t)(h:WX wn "board" t=_h):Je K aB ρ vs (.str t) "board" :=
 .inr (.inr ⟨F.bB,by decide,_,U,a,by rw[Lj,e];exact h⟩)
theorem YJ(F:KF K aB aP aM)(e:Hu ρ vs=wn)(i:isNm t)(h:∀w∈named,WX wn w t=_r)(o:Zf wn "board" < 5)(q:1<=n)(p:n<=61):Sw K aB aP aM ρ vs<|Gm (t,n):=by
 obtain⟨k,f,g⟩:=F.pB;obtain⟨d,l,m⟩:=F.bK;obtain⟨tk,c⟩:=F.mB;refine⟨by show ¬ ("board" : _A) = "step";decide,by show ¬ ("board" : _A) = "line";decide,⟨k,["new","keys"],f,g,U,by decide,λj x y b a=>?_⟩,⟨5,tk,c,?_⟩⟩
 .match j,b,a with
  |0,b,a =>
   cases (_m b)
   cases (_m a);exact KC F e i h
  |1,b,a =>
   cases (_m b)
   cases (_m a);exact .inl ⟨_,1,61,d,U,l,m,by lia,by lia⟩
  |j+2,b,a=>simp at a
 .rw[Jg,e];show ((Zf wn "board" : _d):_i)<5;lia
theorem Rx(F:KF K aB aP aM)(e:Hu ρ vs=wn)(q:isNm t)(h:∀w∈named,WX wn w t=_r)(A:Zf wn "coupler" < 12){a b:_A}(p:isNm a)(m:WX wn "board" a=_h)(k:isNm b)(f:WX wn "board" b=_h){s:_i}(r : -60<=s)(n:s<=60):Sw K aB aP aM ρ vs ⟨"coupler",t,[.str a,.str b,.int s]⟩:=by
 obtain⟨u,l,o⟩:=F.pC;obtain⟨i,v,z⟩:=F.bL;obtain⟨tk,g⟩:=F.mC;refine⟨by show ¬ ("coupler" : _A) = "step";decide,by show ¬ ("coupler" : _A) = "line";decide,⟨u,["new","board","board","leap"],l,o,U,by decide,λj x y d c=>?_⟩,⟨12,tk,g,?_⟩⟩
 .match j,d,c with
  |0,d,c =>
   cases (_m d)
   cases (_m c);exact KC F e q h
  |1,d,c =>
   cases (_m d)
   cases (_m c);exact Jf F e p m
  |2,d,c =>
   cases (_m d)
   cases (_m c);exact Jf F e k f
  |3,d,c =>
   cases (_m d)
   cases (_m c);exact .inl ⟨_,-60,60,i,U,v,z,r,n⟩
  |j+4,d,c=>simp at c
 .rw[Jg,e];show ((Zf wn "coupler" : _d):_i)<12;lia
end
theorem JD{α:Type}{l:_b α}(h:∀(i j:_d) x,l[i]? = _a x->l[j]? = _a x->i=j):l.Nodup:=by
 refine eS.mpr λi j a b c e=>?_;have:=h i j l[i] (af a) (by rw[e];exact af b);lia
theorem eU{bs:_b (_A×_d)}:∀{i a n:_d},(GQ bs)[i]? = _a (a,n)->∃b,bs[a]? = _a b/\n<b.2/\i=((bs.map (·.2)).take a).sum+n:=by
 have j:∀m,m<=bs.length->∀{i a n:_d},(GQ<|bs.take m)[i]? = _a (a,n)->∃b,bs[a]? = _a b/\n<b.2/\i=((bs.map (·.2)).take a).sum+n:=by
  intro m
  induction m with
  |zero =>
   intro _ i a n h;simp[GQ] at h
  |succ m f =>
   intro p i a n h;have c:m<bs.length:=by lia
   have k:=af c;rw[Kv k] at h;have d:(GQ<|bs.take m).length=((bs.map (·.2)).take m).sum:=by
    have g:∀m,m<=bs.length->(GQ<|bs.take m).length=((bs.map (·.2)).take m).sum:=by
     intro m
     induction m with
     |zero=>intro _;simp[GQ]
     |succ m f =>
      intro p;have c:m<bs.length:=by lia
      rw[Kv (af c),av,f<|by lia,ah,dQ,ck,ar,af c,gu];simp
    exact g m<|by lia
   by_cases u:i<(GQ<|bs.take m).length
   .rw[ce u] at h;exact f (by lia) h
   .rw[ci (by lia),ar] at h;obtain⟨e,s,q⟩:=aS.mp h;have t:i - (GQ<|bs.take m).length<bs[m].2/\e=i - (GQ<|bs.take m).length:=by
     obtain⟨o,l⟩:=ag.mp s;rw[dQ] at o;rw[List.getElem_range] at l;exact⟨o,l.symm⟩
    obtain⟨v,r⟩:=Prod.mk.inj q;subst v r;refine⟨bs[m],k,by lia,?_⟩;rw[<-d];lia
 intro i a n h;refine j bs.length (ai _) ?_;rw[eW];exact h
theorem GK(bs:_b<|_A×_d):(GQ bs).length=(bs.map (·.2)).sum:=by
 unfold GQ;rw[List.length_flatMap];have:(bs.zipIdx.map λp=>((_B p.1.2).map λe=>(p.2,e)).length)=bs.map (·.2):=by
  refine gp λi=>?_;rw[ar,ar,fT]
  cases bs[i]? <;> simp
 rw[this]
open PySem L2
def Sg(bs:_b<|_A×_d)(j1 j2:_d)(s:_i)(qd:_d×_d)(z2:_d):V :=
 if qd.1=j1/\0<=(qd.2:_i)+s/\(qd.2:_i)+s<z2 then .int ((((bs.take j2).map (·.2)).sum:_d)+((qd.2:_i)+s)) else .non
noncomputable def gl(bs:_b<|_A×_d):Kb->_d->_t _d
 |.cp j1 j2 s,i=>match (GQ bs)[i]?,bs[j2]? with
  |some qd,_a b2=>match Sg bs j1 j2 s qd b2.2 with
   |.int v=>_a v.toNat
   |_=>_n
  |_,_=>_n
 |.pl _ _,_=>_n
theorem Qy(l:_b _d):∀{a b:_d},a<=b->(l.take a).sum<=(l.take b).sum:=by
 intro a b h;have e:l.take a=(l.take b).take a:=by rw[List.take_take,ſ h]
 rw[e];have:=congrArg q5<|eR a<|l.take b
 rw[gu] at this;lia
theorem au{bs:_b (_A×_d)}{j1 a:_d}{s:_i}{b:_d×_d}{c:_A×_d}(f:(GQ bs)[i]? = _a b)(d:bs[a]? = _a c) :
  (Sg bs j1 a s b c.2=.non/\gl bs (.cp j1 a s) i=_n) \/ ∃j:_d,Sg bs j1 a s b c.2=.int (j:_d)/\gl bs (.cp j1 a s) i=_a j/\j<(bs.map (·.2)).sum:=by
 have e:gl bs (.cp j1 a s) i=match Sg bs j1 a s b c.2 with | .int v=>_a v.toNat | _=>none:=by
  simp only[gl,f,d]
 rw[e];unfold Sg;by_cases h:b.1=j1/\0<=(b.2:_i)+s/\(b.2:_i)+s<c.2
 .rw[_o h];obtain⟨m,l,k⟩:=h;have n:((bs.map (·.2)).take<|a+1).sum=(((bs.take a).map (·.2)).sum+c.2):=by
   rw[ck,ar,d,gu,ku];simp
  have g:((bs.map (·.2)).take<|a+1).sum<=(bs.map (·.2)).sum:=by
   have:=congrArg q5 (eR (a+1) (bs.map (·.2)));rw[gu] at this;lia
  refine .inr ⟨((((bs.take a).map (·.2)).sum:_d)+((b.2:_i)+s)).toNat,?_,U,by lia⟩;rw[eK (by lia)]
 .rw[_l h];exact .inl ⟨U,U⟩
theorem je{bs:_b (_A×_d)}{z:Kb}(h:gl bs z i=_a j):j<(bs.map (·.2)).sum:=by
 cases z with
 |pl w a=>cases h
 |cp j1 b s =>
  cases hq:(GQ bs)[i]? with
  |none =>
   simp only[gl,hq] at h
   cases h
  |some f =>
   cases hb:bs[b]? with
   |none =>
    simp only[gl,hq,hb] at h
    cases h
   |some c =>
    rcases au (j1:=j1) (s:=s) hq hb with⟨_,e⟩ | ⟨d,_,e,lt⟩
    .rw[e] at h
     cases h
    .rw[e] at h
     cases h;exact lt
abbrev pZ(z:Kb):Bool:=decide (V.str z.w=V.str "coupler")
theorem ue{bs:_b (_A×_d)}{z:Kb}(h:gl bs z i=_a j):pZ z=true:=by
 cases z with
 |pl w a=>cases h
 |cp c b s=>exact _v U
theorem il{z:Kb}(b:z.ok n)(h:pZ z=_h):∃i j s,z=.cp i j s:=by
 cases z with
 |cp i j s=>exact⟨i,j,s,U⟩
 |pl w i =>
  exfalso;have a:=V.str.inj<|_G h
  rcases b.2 with rfl | rfl
  .exact _D a<|by show ¬ ("mute" : _A) = "coupler";decide
  .exact _D a<|by show ¬ ("stop" : _A) = "coupler";decide
inductive stp(bs:_b<|_A×_d)(d3:_b Kb)(D:_d)(i j:_d):Prop
|mk(k z:_)(_:D.testBit k=_h)(_:d3[k]? = _a z)(_:gl bs z i=_a j)
inductive Su(st:_d->_d->Prop)(hd:_d->Prop):_d->Prop
 | one{i j:_d}:hd i->st i j->Su st hd j
 | more{i j:_d}:Su st hd i->st i j->Su st hd j
theorem Su.lt{bs:_b (_A×_d)}{c:_b Kb}{D:_d}{h:_d->Prop}(r:Su (stp bs c D) h j):j<(bs.map (·.2)).sum:=by
 cases r with
 |one a b=>obtain⟨k,z,_,_,e⟩:=b;exact je e
 |more a b=>obtain⟨k,z,_,_,e⟩:=b;exact je e
theorem Su.all{st:_d->_d->Prop}{c:_d->Prop}{W:_d->Prop}(f:∀j,W j->Su st c j)(d:∀i,(c i \/ W i)->∀j,st i j->W j)(j:_d):W j ↔ Su st c j:=by
 refine⟨f j,λh=>?_⟩
 induction h with
 |one a b=>exact d _ (.inl a) _ b
 |more a b e=>exact d _ (.inr e) _ b
theorem Fp:∀(T:_d){l:_b _d},l.Nodup->(∀x∈l,x<T)->l.length<=T
 |0,l,_,h=>by
  cases l with
  |nil=>exact ai _
  |cons a l=>exact _D (h a<|be ..)<|iF _
 |T+1,l,b,h=>by
  have d:=Fp T (l:=l.erase T) (b.erase T) λx c=>by
   have e:=h x<|List.mem_of_mem_erase c
   have f:x≠T:=λz=>by
    subst z;exact b.not_mem_erase c
   lia
  have:=List.length_erase (a:=T) (l:=l);split at this <;> lia
theorem Zm(a b i:_d):(a ||| b).testBit i=_h ↔ a.testBit i=_h \/ b.testBit i=true:=by
 rw[sT,Bool.or_eq_true]
theorem g_{a b:_d}(h:∀i,a.testBit i=_h ↔ b.testBit i=_h):a=b:=fE λi=>dA.mpr<|h i
open PySem L2 PyProof.Rows
abbrev Th:=_A×_d×_b V
noncomputable abbrev tV(a:Th):_b V:=.str a.1 :: .int (a.2.1:_d)::a.2.2
abbrev tN(a:Th):_A×Nat:=(a.1,a.2.1)
abbrev b_(r:_A×_d×_i):Th:=(r.1,r.2.1,[.int r.2.2])
abbrev sJ(b:_A×_d):Th:=(b.1,b.2,[])
abbrev nW(r:_A×_d×_i):_A×Nat:=(r.1,r.2.1)
abbrev J_(r:_A×_d×_i):R:=⟨"rank",r.1,[.int (r.2.1:_d),.int r.2.2]⟩
structure Ln where
 r:_d
 sh:_i
 lo:_i
 hi:_i
abbrev gF(l:Ln):_b V:=[.int (l.r:_d),.int l.sh,.int l.lo,.int l.hi]
inductive Im(H:Hp)(l:_b Ln)(v:V):Prop
|mk(A:_g)(ts:_b V)(_:v=.ref A)(_:H A=_a (.lst ts))(_:Paired (λx y=>TupAt H (gF x) y) l ts)
inductive GX(H:Hp)(D:_g)(ls:_b<|_b Ln):Prop
|mk(lv:_)(_:H D=_a (.lst lv))(_:Paired (λl v=>Im H l v) ls lv)
theorem Im.mono{l:_b Ln}{v:V}(s:Al H H')(h:Im H l v):Im H' l v:=by
 obtain⟨A,b,e,a,c⟩:=h;exact⟨A,b,e,s _ _ a,Ao s c⟩
theorem GX.mono{a:_b (_b Ln)}(s:Al H H')(h:GX H D a):GX H' D a:=by
 obtain⟨b,c,d⟩:=h;exact⟨b,s _ _ c,Paired.Em d λ_ _ q=>q.mono s⟩
inductive uL(C:_g)(H:Hp)(x:_g)(bs:_b<|_A×_d)(rk:_b<|_A×_d×_i)(ks:_b R)(ls:_b<|_b Ln):Prop
 |mk(dx:_g)(fs:_b (_A×V))(rl rn pp kl:_g)(qo qv:_b V)(kvs:_b (Key×V)):H x=_a (.ins C dx fs)->fs.lookup ("rank_list" : _A)=_a (.ref rl)->fs.lookup ("rank_numbers" : _A)=_a (.ref rn)->fs.lookup ("pipe_places" : _A)=_a (.ref pp)->fs.lookup ("knob_lines" : _A)=_a (.ref kl)->H rl=_a (.lst qo)->Paired (λ(a:Th) y=>TupAt H (tV a) y) (rk.map b_) qo->H rn=_a (.dK kvs)->(∀(i:_d) r,rk[i]? = _a r->Cv kvs (δ r.1)=_a (.int (i:_d)))->H pp=_a (.lst qv)->Paired (λq y=>TupAt H (qV q) y) (GQ<|rk.map nW) qv->GX H kl ls->uL C H x bs rk ks ls
structure Ds(C:_g)(H:Hp)(x:_g)(bs:_b<|_A×_d)(rk:_b<|_A×_d×_i)(ks:_b R)(ls:_b<|_b Ln):Prop where
 o:EY C H x bs ks
 r:uL C H x bs rk ks ls
 nr:rk.length<=12
 nz:∀r∈rk,r.2.1<=97
 nl:ls.length=ks.length
theorem Ds.mono{x:_g}{bs:_b (_A×_d)}{rk:_b (_A×_d×_i)}{f:_b R}{e:_b (_b Ln)}(s:Al H H')(h:Ds C H x bs rk f e):Ds C H' x bs rk f e:=by
 obtain⟨o,⟨A,fs,z,p,t,j,l,i,d,B,q,g,v,D,w,k,m,n,u,y,r⟩,a,b,c⟩:=h;exact⟨o.mono s,⟨A,fs,z,p,t,j,l,i,d,s _ _ B,q,g,v,D,s _ _ w,Ao s k,s _ _ m,n,s _ _ u,Ao s y,r.mono s⟩,a,b,c⟩
structure lO(ρ:V->R)(us:_b V)(i:_d):Prop where
 all:∀j,j<i->∃v,us[us.length - 1 - j]? = _a v/\(ρ v).w = "line"
 lt:i<us.length
 no:∃v,us[us.length - 1 - i]? = _a v/\¬ (ρ v).w = "line"
def oA(r:R):Int:=match r.rest with
 |[.int m]=>m
 |_=>0
noncomputable abbrev keyOf(ρ:V->R)(us:_b V)(bd:_A)(n:_i):Bool:=(us.filter<|pw ρ "board").any λv=>pn ρ bd v && decide (n<oA (ρ v))
structure U0(ρ:V->R)(us:_b V)(ro:R):Prop where
 ex:∃(cnt:_d)(v:V)(sh lo hi:_i)(bd:_A)(rs:_b V),ro.rest=[.int sh,.int lo,.int hi]/\lO ρ us cnt/\cnt<4/\us[us.length - 1 - cnt]? = _a v/\(ρ v).w = "stop" /\ (ρ v).rest=.str bd::rs/\lo<=hi/\keyOf ρ us bd hi=_h
abbrev Fx(ρ:V->R)(us:_b V):Prop:=∀v∈us,(ρ v).w = "board"->∃m,(ρ v).rest=[.int m]
structure Io(K:_s)(aB aP aM:_g)(ρ:V->R)(vs:_b V)(r:R):Prop where
 ns:¬ r.w = "step"
 parts:∃(ap:_g)(ps:_b _A),Δ K aP r.w=_a (_a<|.ref ap)/\KTup K ap (ps.map V.str)/\(V.str r.nm::r.rest).length=ps.length/\ps.length<=10 /\
  ∀(i:_d) x y,(V.str r.nm::r.rest)[i]? = _a x->ps[i]? = _a y->Je K aB ρ vs x y
 room:(r.w = "line" /\ Δ K aM r.w=_a _n) \/ ∃(m:_i)(t:LB),Δ K aM r.w=_a (_a<|.int m t)/\(((vs.filter<|pw ρ r.w).length:_d):_i)<m
 line:r.w = "line"->U0 ρ vs r
 sG:Fx ρ vs
noncomputable def lnOf(rk:_b<|_A×_d×_i)(r:R):Ln:=match r.rest with
 |[.int sh,.int lo,.int hi]=>⟨(rk.map (·.1)).idxOf r.nm,sh,lo,hi⟩
 |_=>⟨0,0,0,0⟩
noncomputable def putL(i7:_b<|_b Ln)(l:Ln):_b<|_b Ln:=match i7.getLast? with
 |some z=>i7.dropLast++[z++[l]]
 |none=>[]
def Gb(rk:_b<|_A×_d×_i)(i7:_b<|_b Ln)(r:R):_b<|_b Ln:=if Mj r.w=_h then i7++[[]] else if r.w = "line" then putL i7 (lnOf rk r) else i7
def linesOf(rk:_b<|_A×_d×_i)(rs:_b R):_b<|_b Ln:=rs.foldl (Gb rk) []
theorem Cr(rk:_b<|_A×_d×_i)(a:_b R)(r:R):linesOf rk (a++[r])=Gb rk (linesOf rk a) r:=by
 unfold linesOf;rw[oe];rfl
theorem Iz(a:_b<|_b Ln)(z:_b Ln)(l:Ln):putL (a++[z]) l=a++[z++[l]]:=by
 unfold putL;rw[List.getLast?_concat,AA]
structure yZ(K:_s)(aB aP aM:_g)(ρ:V->R)(us:_b V)(bs:_b<|_A×_d)(rk:_b<|_A×_d×_i)(ks:_b R):Prop where
 kinds:∀v∈us,(ρ v).w = "board" \/ (ρ v).w = "rank" \/ (ρ v).w = "line" \/ (ρ v).w = "stop" \/ (ρ v).w = "coupler" \/ (ρ v).w = "mute"
 eb:(us.filter<|pw ρ "board").map ρ=bs.map Gm
 er:(us.filter<|pw ρ "rank").map ρ=rk.map J_
 ek:(us.filter<|λv=>Mj (ρ v).w).map ρ=ks
 ln:∀(i:_d) v,us[i]? = _a v->(ρ v).w = "line"->(∃(j:_d)(r:_A × _d × _i)(sh lo hi:_i),rk[j]? = _a r/\r.1=(ρ v).nm/\(ρ v).rest=[.int sh,.int lo,.int hi])/\∃u∈us.take i,Mj (ρ u).w=_h
 b0:1<=bs.length
 b5:bs.length<=5
 sz:∀b∈bs,b.2<=61
 nr:rk.length<=12
 nz:∀r∈rk,r.2.1<=97
 nk:ks.length<=100
 nb:(bs.map (·.1)).Nodup
 nrr:(rk.map (·.1)).Nodup
 nn:(ks.map (·.nm)).Nodup
 len:us.length<=150
 ok:∀(i:_d) v,us[i]? = _a v->Io K aB aP aM ρ (us.take i) (ρ v)
theorem yZ.none{K:_s}{us:_b V}{bs:_b (_A×_d)}{rk:_b (_A×_d×_i)}{b:_b R}(h:yZ K aB aP aM ρ us bs rk b):us.filter (pw ρ "step")=[]:=by
 refine List.filter_eq_nil_iff.mpr λv a=>?_;unfold pw;rcases h.kinds v a with e | e | e | e | e | e <;> rw[e] <;> decide
end Og
variable{d3:_b Og.Kb}{ls:_b (_b Og.Ln)}
namespace Sq
open PySem PySem.W PyProof.Rows
structure Ord(lt:_d->_d->_V):Prop where
 irr:∀a,lt a a=_r
 asy:∀a b,lt a b=_h->lt b a=_r
 tr:∀a b c,lt b a=_r->lt c b=_r->lt c a=_r
noncomputable def run{α:Type}(lt:_d->_d->_V):KasT α->α
 |.ret a=>a
 |.ask i j k=>run lt<|k<|lt i j
noncomputable def K(p:_E _d)(i:_d):Nat:=(p[i]?).getD 0
section
variable{lt:_d->_d->_V}(O:Ord lt)
include O
def Up(lt:_d->_d->_V)(p:_E _d)(n:_d):Prop:=∀i j,i<=j->j<n->lt (K p j) (K p i)=_r
def Dn(lt:_d->_d->_V)(p:_E _d)(n:_d):Prop:=∀i j,i<=j->j<n->lt (K p i) (K p j)=_r
end
end Sq
namespace Sq
open PySem PySem.W PyProof.Rows
def Rn{α:Type}(N:_d):KasT α->(α->Prop)->Prop
 |.ret a,P=>P a
 |.ask i j k,P=>i<N/\j<N/\∀b,Rn N (k b) P
def Bd(N:_d)(p:_E _d):Prop:=0<N/\∀x∈p.toList,x<N
end Sq
namespace Sq
open PySem PySem.W PyProof.Rows
abbrev T3:=_i×_i×_i
def Hm(a b:T3):Bool:=decide (a.1<b.1) || (decide (a.1=b.1) && (decide (a.2.1<b.2.1) || (decide (a.2.1=b.2.1) && decide (a.2.2<b.2.2))))
theorem N_{a b:T3}:Hm a b=_h ↔ a.1<b.1 \/ (a.1=b.1/\(a.2.1<b.2.1 \/ (a.2.1=b.2.1/\a.2.2<b.2.2))):=by
 unfold Hm;simp
theorem K9{a b:T3}:Hm a b=_r ↔ ¬ (a.1<b.1 \/ (a.1=b.1/\(a.2.1<b.2.1 \/ (a.2.1=b.2.1/\a.2.2<b.2.2)))):=by rw[<-N_];simp
theorem n_(a:T3):Hm a a=false:=by rw[K9];lia
theorem nF(a b:T3)(h:Hm a b=_h):Hm b a=false:=by rw[K9];rw[N_] at h;lia
theorem xJ(a b c:T3)(d:Hm b a=_r)(e:Hm c b=_r):Hm c a=false:=by rw[K9] at *;lia
inductive Lz(h:Θ)(v:_j)(t:T3):Prop
|mk(x:_g)(o:ü)(k1 k2 k3:LB)(n:_d)(_:v=.ref x)(_:h.get? x=_a o)(_:o.cls=.type "tuple")(_:o.data=.seq #[.int t.1 k1,.int t.2.1 k2,.int t.2.2 k3] n)
section
variable{w:_O}{E:vSP}
theorem oO{v:_j}{a b:T3}{Q:_V->_C->Prop}(t:Lz s.heap v a)(i:Lz s.heap u b)(q:Q (Hm a b) s):wpAny (_z prog w) A (keyLt' (tuples' _h) v u) Q E s:=by
 obtain⟨x,C,l,B,p,n,rfl,j,_,r⟩:=t;obtain⟨y,D,f,h,o,m,rfl,g,_,k⟩:=i;refine kat_lt j r g k ?_;show KatLex prog w A _h _ Q [(Ζ a.1 l,Ζ b.1 f),(Ζ a.2.1 B,Ζ b.2.1 h),(Ζ a.2.2 p,Ζ b.2.2 o)] 0 s;refine zi<|ý ?_
 refine UI (λd=>E5 ?_)<|λd=>UM ?_
 .have d:a.1=b.1:=by simpa using d
  refine zi<|ý ?_
  refine UI (λc=>E5 ?_)<|λc=>UM ?_
  .have c:a.2.1=b.2.1:=by simpa using c
   refine zi<|ý ?_
   refine UI (λe=>E5 ?_)<|λe=>UM ?_
   .have e:a.2.2=b.2.2:=by simpa using e
    refine kat_nil ?_;have z:Hm a b=false:=by rw[K9];lia
    rw[z] at q;exact q
   .have z:Hm a b=decide (a.2.2<b.2.2):=by rw[dA,N_,_N];lia
    rw[z] at q;exact kat_one _ _<|lt_int q
  .have c:¬ a.2.1=b.2.1:=by simpa using c
   have z:Hm a b=decide (a.2.1<b.2.1):=by rw[dA,N_,_N];lia
   rw[z] at q;exact kat_one _ _<|lt_int q
 .have d:¬ a.1=b.1:=by simpa using d
  have z:Hm a b=decide (a.1<b.1):=by rw[dA,N_,_N];lia
  rw[z] at q;exact tq q
end
end Sq
namespace Sq
open PySem PySem.W PySem.Calls PyProof.Rows
section
variable{w:_O}{E:vSP}
theorem Lz.keep{v:_j}{t:T3}(r:Lz h v t)(k:∀b o,h.get? b=_a o->o.cls=.type "tuple"->h'.get? b=_a o):Lz h' v t:=by
 obtain⟨x,o,a,i,f,n,e,g,c,d⟩:=r;exact⟨x,o,a,i,f,n,e,k x o g c,c,d⟩
theorem Wg:∀(vs:_b _j)(ts:_b T3),vs.length=ts.length->(∀(i:_d) v t,vs[i]? = _a v->ts[i]? = _a t->Lz h v t)->∃fs,KatTups h vs fs/\fs.length=vs.length/\∀f∈fs,∃i k,f=Ζ i k
 |[],[],_,_=>⟨[],KatTups.nil,U,λf j=>by cases j⟩
 |[],_::_,l,_=>by simp at l
 |_::_,[],l,_=>by simp at l
 |v::vs,t::ts,l,r=>by
  obtain⟨fs,a,b,c⟩:=Wg vs ts (by simpa using l) λi u z m q=>r (i+1) u z (by simpa using m)<|by simpa using q
  obtain⟨x,o,p,y,w,n,e,g,s,d⟩:=r 0 v t U U;subst e;refine⟨Ζ t.1 p::fs,KatTups.cons g s d U a,by simp[b],λf j=>?_⟩;rcases bq.mp j with rfl | j
  .exact⟨_,_,U⟩
  .exact c f j
theorem W5(vs:_b _j):(_B vs.length).map (λi=>vs.getD i _J)=vs:=by
 refine ô (by simp) λi b a=>?_;simp[_K,a]
end
end Sq
namespace Sq
open PySem PySem.W PySem.Calls PyProof.Rows
abbrev T2:=_i×_i
def F_(a b:T2):Bool:=decide (a.1<b.1) || (decide (a.1=b.1) && decide (a.2<b.2))
theorem PL{a b:T2}:F_ a b=_h ↔ a.1<b.1 \/ (a.1=b.1/\a.2<b.2):=by
 unfold F_;simp
theorem Nk{a b:T2}:F_ a b=_r ↔ ¬ (a.1<b.1 \/ (a.1=b.1/\a.2<b.2)):=by rw[<-PL];simp
theorem oF(a:T2):F_ a a=false:=by rw[Nk];lia
theorem pN(a b:T2)(h:F_ a b=_h):F_ b a=false:=by rw[Nk];rw[PL] at h;lia
theorem vD(a b c:T2)(d:F_ b a=_r)(e:F_ c b=_r):F_ c a=false:=by rw[Nk] at *;lia
inductive Jk(h:Θ)(v:_j)(t:T2):Prop
|mk(x:_g)(o:ü)(k1 k2:LB)(n:_d)(_:v=.ref x)(_:h.get? x=_a o)(_:o.cls=.type "tuple")(_:o.data=.seq #[.int t.1 k1,.int t.2 k2] n)
theorem Jk.keep{v:_j}{t:T2}(r:Jk h v t)(k:∀b o,h.get? b=_a o->o.cls=.type "tuple"->h'.get? b=_a o):Jk h' v t:=by
 obtain⟨x,o,a,f,n,e,g,c,d⟩:=r;exact⟨x,o,a,f,n,e,k x o g c,c,d⟩
section
variable{w:_O}{E:vSP}
theorem iQ{v:_j}{a b:T2}{Q:_V->_C->Prop}(o:Jk s.heap v a)(h:Jk s.heap u b)(q:Q (F_ a b) s):wpAny (_z prog w) A (keyLt' (tuples' _h) v u) Q E s:=by
 obtain⟨x,r,k,p,n,rfl,i,_,l⟩:=o;obtain⟨y,t,e,g,m,rfl,f,_,j⟩:=h;refine kat_lt i l f j ?_;show KatLex prog w A _h _ Q [(Ζ a.1 k,Ζ b.1 e),(Ζ a.2 p,Ζ b.2 g)] 0 s;refine zi<|ý ?_
 refine UI (λc=>E5 ?_)<|λc=>UM ?_
 .have c:a.1=b.1:=by simpa using c
  refine zi<|ý ?_
  refine UI (λd=>E5 ?_)<|λd=>UM ?_
  .have d:a.2=b.2:=by simpa using d
   refine kat_nil ?_;have z:F_ a b=false:=by rw[Nk];lia
   rw[z] at q;exact q
  .have z:F_ a b=decide (a.2<b.2):=by rw[dA,PL,_N];lia
   rw[z] at q;exact kat_one _ _<|lt_int q
 .have c:¬ a.1=b.1:=by simpa using c
  have z:F_ a b=decide (a.1<b.1):=by rw[dA,PL,_N];lia
  rw[z] at q;exact tq q
theorem aF:∀(vs:_b _j)(ts:_b T2),vs.length=ts.length->(∀(i:_d) v t,vs[i]? = _a v->ts[i]? = _a t->Jk h v t)->∃fs,KatTups h vs fs/\fs.length=vs.length/\∀f∈fs,∃i k,f=Ζ i k
 |[],[],_,_=>⟨[],KatTups.nil,U,λf j=>by cases j⟩
 |[],_::_,l,_=>by simp at l
 |_::_,[],l,_=>by simp at l
 |v::vs,t::ts,l,r=>by
  obtain⟨fs,a,b,c⟩:=aF vs ts (by simpa using l) λi u z m q=>r (i+1) u z (by simpa using m)<|by simpa using q
  obtain⟨x,o,p,w,n,e,g,s,d⟩:=r 0 v t U U;subst e;refine⟨Ζ t.1 p::fs,KatTups.cons g s d U a,by simp[b],λf j=>?_⟩;rcases bq.mp j with rfl | j
  .exact⟨_,_,U⟩
  .exact c f j
end
end Sq
namespace Sq
open PySem PySem.W PySem.Calls PyProof.Rows
def jo(prog:Ð)(w:_O)(A:ù)(f:_j)(s:_C)(kS:_g)(v:_j)(t:T2):Prop :=
 ∀(h1:Θ)(C3:_d),(∀b o,b≠kS->s.heap.get? b=_a o->h1.get? b=_a o)->s.heap.objs.size<=h1.objs.size->∀R:_j->_C->Prop,
  (∀k h2 xo,Jk h2 k t->(∀b o,h1.get? b=_a o->h2.get? b=_a o)->h1.objs.size<=h2.objs.size->R k { s with heap:=h2,toks:=xo })->wpAny (_z prog w) A (call f [v]) R (λ_ _=>Χ) { s with heap:=h1,toks:=C3 }
end Sq
namespace Sm
open PySem PyProof.Rows
noncomputable def Iw:_V->_M->_E _M->_d->_d->_d->E9 ι ww (_t _d):=sortPriv% PySem.Builtin.gallop
def KR:_E _M->_E _M->E9 ι ww (_E _M):=sortPriv% PySem.Builtin.mergeLo
def Kc:_E _M->_E _M->E9 ι ww (_E _M):=sortPriv% PySem.Builtin.mergeHi
def kZ:_d->E9 ι ww Unit:=sortPriv% PySem.Builtin.setMinGallop
theorem JB:(sortPriv% PySem.Builtin.elem)=elem':=rfl
theorem RJ:(sortPriv% PySem.Builtin.lt)=lt':=rfl
theorem Ii:(sortPriv% PySem.Builtin.gallop)=Iw:=rfl
theorem QV:(sortPriv% PySem.Builtin.setMinGallop)=kZ:=rfl
theorem RP:(sortPriv% PySem.Builtin.mergeLo)=KR:=rfl
theorem Ql:(sortPriv% PySem.Builtin.mergeHi)=Kc:=rfl
local macro_rules | `(tactic| delta gallopOpen)=>`(tactic| delta $(Lean.mkCIdent (Lean.mkPrivateNameCore `PySem.Builtin.List.W1All `PySem.Builtin.gallop)))
theorem two1(c:Prop)[sv c]{α:Type}{R:α->Prop}{G:Prop}(b:c->(∀x,R x)->G)(d:¬ c->(∀x,R x)->G)(h:∀x,R x):G:=if a:c then b a h else d a h
theorem two2(c:Prop)[sv c]{α β:Type}{R:α->β->Prop}{G:Prop}(d:c->(∀x y,R x y)->G)(b:¬ c->(∀x y,R x y)->G)(h:∀x y,R x y):G:=if a:c then d a h else b a h
section
variable{w:_O}{E:vSP}
def LC(prog:Ð)(w:_O)(A:ù)(E:vSP)(s:_C)(S:_M->Prop)(L:_M->_M->_V)(κ:â):Prop :=
 ∀(x y:_M)(st:ι)(Q:_t _V->ι->Prop),S x->S y->kindOf st=κ->Q (_a<|L x y) st->wpS (_z prog w) A E s (lt' x y) Q st
theorem Jj{S:_M->Prop}{L:_M->_M->_V}{κ:â}{left:_V}{l:_M}{arr:_E _M}{m a:_d}{st:ι}{Q:_t _d->ι->Prop}{b:_d->_V}
  (V:LC prog w A E s S L κ)(W:kindOf st=κ)(hh:a<n)(hsz:m+n<=arr.size)(T:∀(i:_d) x,arr[i]? = _a x->S x)(C:S l)
  (Z:∀i x,i<n->arr[m+i]? = _a x->(if left then L x l else !L l x)=b i)(mono:∀i j,i<=j->j<n->b j=_h->b i=_h)
  (h:∀k,k<=n->(∀i,i<k->b i=_h)->(∀i,k<=i->i<n->b i=_r)->Q (_a k) st):wpS (_z prog w) A E s (Iw left l arr m n a) Q st:=by
 delta Iw;delta gallopOpen;dsimp only[JB,RJ];have z:∀i,i<n->∀Q:_t _V->ι->Prop,Q (_a<|b i) st->wpS (_z prog w) A E s (do
   let x <-elem' arr (m+i)
   if left then lt' x l else return (<-lt' l x).map (!·)) Q st:=by
  intro i f Q q;obtain⟨x,P⟩:∃x,arr[m+i]? = _a x:=⟨_,_u<|by lia⟩;rw[ã,P];refine _y<|_x ?_
  have e:=Z i x f P
  cases left with
  |true =>
   rw[_o U] at e |-;exact V x l st Q (T _ _ P) C W<|by rw[e];exact q
  |false =>
   rw[_l et] at e |-;exact _y<|V l x st _ C (T _ _ P) W<|_x<|by show Q (_a<|!L l x) st;rw[e];exact q
 refine _y<|z a hh _ ?_
 dsimp only;have no:∀i j,i<=j->j<n->b i=_r->b j=false:=λi j R O X=>by
  cases hbj:b j with
  |false=>rfl
  |true=>rw[mono i j R O hbj] at X;cases X
 apply two2<|b a=_h
 .intro M rest;rw[_o M];refine _y (Ó (χ (I:=λi c p=>st=p/\∃d o,c=(_n,d,o)/\d<o/\a+d<n/\b (a+d)=_h/\i<o)
   (Q:=λc p=>st=p/\∃d o,c=(_n,d,o)/\d<o/\a+d<n/\b (a+d)=_h/\(n - a<=o \/ b (a+o)=_r)) ?st1 ?en1 ⟨U,0,1,U,by lia,by lia,M,by lia⟩) ?po1)
  case en1 =>
   rintro c p ⟨rfl,d,o,rfl,v,u,r,t⟩;exact⟨U,d,o,U,v,u,r,.inl<|by lia⟩
  case st1 =>
   rintro i c p _ f ⟨rfl,d,o,rfl,v,u,r,t⟩;dsimp only;by_cases g:o ≥ n - a
   .rw[_o g];exact _x ⟨U,d,o,U,v,u,r,.inl g⟩
   .rw[_l g];refine _y<|z (a+o) (by lia) _ ?_
    cases hbo:b (a+o) with
    |true=>exact _x ⟨U,o,2 * o+1,U,by lia,by lia,hbo,by lia⟩
    |false=>exact _x ⟨U,d,o,U,v,u,r,.inr hbo⟩
  case po1 =>
   rintro c p ⟨rfl,d,o,rfl,v,u,r,t⟩;dsimp only;have y:a+d+1<=a+min o (n - a):=by lia
   have D:a+min o (n - a)<=n:=by lia
   have G:∀i,i<a+d+1->b i=true:=λi f=>mono i (a+d) (by lia) u r;have F:∀i,a+min o (n - a)<=i->i<n->b i=false:=λi f B=>by
    rcases t with t | t
    .lia
    .by_cases ho:o<=n - a
     .exact no (a+o) i (by lia) B t
     .lia
   generalize a+d+1=lo at y G |-;generalize a+min o (n - a)=f at y D F |-;revert y D G F;exact rest lo f
 .intro M rest;rw[_l M];rw[fq] at M;refine _y (Ó (χ (I:=λi c p=>st=p/\∃d o,c=(_n,d,o)/\d<o/\d<=a/\b (a - d)=_r/\i<o)
   (Q:=λc p=>st=p/\∃d o,c=(_n,d,o)/\d<o/\d<=a/\b (a - d)=_r/\(a+1<=o \/ b (a - o)=_h)) ?st1 ?en1 ⟨U,0,1,U,by lia,by lia,M,by lia⟩) ?po1)
  case en1 =>
   rintro c p ⟨rfl,d,o,rfl,v,u,r,t⟩;exact⟨U,d,o,U,v,u,r,.inl<|by lia⟩
  case st1 =>
   rintro i c p _ f ⟨rfl,d,o,rfl,v,u,r,t⟩;dsimp only;by_cases g:o ≥ a+1
   .rw[_o g];exact _x ⟨U,d,o,U,v,u,r,.inl g⟩
   .rw[_l g];refine _y<|z (a - o) (by lia) _ ?_
    cases hbo:b (a - o) with
    |true=>exact _x ⟨U,d,o,U,v,u,r,.inr hbo⟩
    |false=>exact _x ⟨U,o,2 * o+1,U,by lia,by lia,hbo,by lia⟩
  case po1 =>
   rintro c p ⟨rfl,d,o,rfl,v,u,r,t⟩;dsimp only;have y:a+1 - min o (a+1)<=a - d:=by lia
   have D:a - d<=n:=by lia
   have G:∀i,i<a+1 - min o (a+1)->b i=true:=λi f=>by
    rcases t with t | t
    .lia
    .by_cases ho:o<=a
     .exact mono i (a - o) (by lia) (by lia) t
     .lia
   have F:∀i,a - d<=i->i<n->b i=false:=λi f B=>no (a - d) i f B r;generalize a+1 - min o (a+1)=lo at y G |-;generalize a - d=f at y D F |-;exact rest lo f G y D F
 intro lo f G y D F;refine _y (Ó (χ (I:=λi c N=>st=N/\∃lo f,c=(_n,lo,f)/\lo<=f/\f<=n/\f - lo+i<=n/\(∀i,i<lo->b i=_h)/\∀i,f<=i->i<n->b i=_r)
  (Q:=λc N=>st=N/\∃k,c=(_n,k,k)/\k<=n/\(∀i,i<k->b i=_h)/\∀i,k<=i->i<n->b i=_r) ?st2 ?en2 ⟨U,lo,f,U,y,D,by lia,G,F⟩) ?po2)
 case en2 =>
  rintro c N ⟨rfl,lo,f,rfl,Y,H,g3,J,K⟩;obtain rfl:lo=f:=by lia
  exact⟨U,lo,U,H,J,K⟩
 case st2 =>
  rintro i c N _ B ⟨rfl,lo,f,rfl,Y,H,g3,J,K⟩;dsimp only;by_cases g:lo ≥ f
  .rw[_o g];obtain rfl:lo=f:=by lia
   exact _x ⟨U,lo,U,H,J,K⟩
  .rw[_l g];refine _y<|z (lo+(f - lo) / 2) (by lia) _ ?_
   cases hbo:b (lo+(f - lo) / 2) with
   |true=>exact _x ⟨U,lo+(f - lo) / 2+1,f,U,by lia,H,by lia,λj O=>mono j _ (by lia) (by lia) hbo,K⟩
   |false=>exact _x ⟨U,lo,lo+(f - lo) / 2,U,by lia,by lia,by lia,J,λj O LW=>no _ j O LW hbo⟩
 case po2 =>
  rintro c N ⟨rfl,k,rfl,H,J,K⟩;exact _x<|h k H J K
end
section
variable{α:Type}{L:α->α->_V}{A B:_b α}
structure YZ(L:α->α->_V):Prop where
 asym:∀x y,L x y=_h->L y x=_r
 co:∀x y z,L x z=_h->L x y=_h \/ L y z=_h
def Cw(L:α->α->_V)(l:_b α):Prop:=l.Pairwise λx y=>L y x=_r
structure Jm(L:α->α->_V)(A B out:_b α)(ia ib:_d):Prop where
 la:ia<=A.length
 lb:ib<=B.length
 pm:out.Perm<|A.take ia++B.take ib
 rs:Cw L out
 lo:∀x∈out,∀y,y∈A.drop ia \/ y∈B.drop ib->L y x=_r
def Good(L:α->α->_V)(A B r:_b α):Prop:=r.Perm (A++B)/\Cw L r
theorem Cw.snoc{l:_b α}{x:α}(h:Cw L l)(e:∀y∈l,L x y=_r):Cw L (l++[x]) :=
 fk.mpr ⟨h,ic ..,λa d b c=>by rw[al] at c;rw[c];exact e a d⟩
theorem HH{l:_b α}{x:α}(h:l[i]? = _a x):l.drop i=x::l.drop (i+1):=by
 obtain⟨a,e⟩:=ag.mp h;rw[tz a,e]
theorem ik{l:_b α}{x:α}(h:l[i]? = _a x):l.take (i+1)=l.take i++[x]:=by
 obtain⟨a,e⟩:=ag.mp h;rw[ť a,e]
theorem Cw.tail{l:_b α}{x y:α}(c:Cw L l)(h:l[i]? = _a x)(b:y∈l.drop (i+1)):L y x=false:=by
 have a:Cw L<|l.drop i:=c.sublist<|iS ..
 rw[HH h] at a;exact (fF.mp a).1 y b
theorem Jm.Wu{out:_b α}{ib:_d}{x:α}(J:Jm L A B out ia ib)(d:Cw L A)(c:A[ia]? = _a x)(f:∀y∈B.drop ib,L y x=_r):Jm L A B (out++[x]) (ia+1) ib:=by
 have e:=(ag.mp c).1;refine⟨e,J.lb,?_,J.rs.snoc λy a=>J.lo y a x<|.inl<|by rw[HH c];exact be ..,λz b y a=>?_⟩
 .rw[ik c,ed];exact (J.pm.append_right [x]).trans (by
   rw[ed];exact kU _ iL)
 .rcases aE.mp b with b | b
  .exact J.lo z b y<|a.imp (λh=>by rw[HH c];exact aT _ h) id
  .rw[al] at b;subst b;rcases a with a | a
   .exact d.tail c a
   .exact f y a
theorem Jm.symm{out:_b α}{ib:_d}(J:Jm L A B out ia ib):Jm L B A out ib ia:=⟨J.lb,J.la,J.pm.trans iL,J.rs,λx a y b=>J.lo x a y b.symm⟩
theorem Jm.W2{out:_b α}{ib:_d}{x:α}(J:Jm L A B out ia ib)(b:Cw L B)(a:B[ib]? = _a x)(c:∀y∈A.drop ia,L y x=_r):Jm L A B (out++[x]) ia<|ib+1:=(J.symm.Wu b a c).symm
theorem Jm.jJ{out:_b α}{ib:_d}(b:Cw L A):∀(k ia:_d)(out:_b α),Jm L A B out ia ib->ia+k<=A.length->(∀i x,ia<=i->i<ia+k->A[i]? = _a x->∀y∈B.drop ib,L y x=_r)->Jm L A B (out++(A.drop ia).take k) (ia+k) ib
 |0,ia,out,J,_,_=>by rw[kM,fN];exact J
 |k+1,ia,out,J,g,c=>by
  have a:A[ia]? = _a A[ia]:=af<|by lia
  have d:=J.Wu b a<|c ia _ (ai _) (by lia) a
  have:=Jm.jJ (out:=out) b k (ia+1) _ d (by lia) λi x f e=>c i x (by lia)<|by lia
  rw[HH a,List.take_succ_cons,show out++A[ia]::(A.drop<|ia+1).take k=(out++[A[ia]])++(A.drop<|ia+1).take k by simp,show ia+(k+1)=ia+1+k by lia];exact this
theorem Jm.wN{out:_b α}(a:Cw L B)(k ib:_d)(out:_b α)(J:Jm L A B out ia ib)(b:ib+k<=B.length)(c:∀i x,ib<=i->i<ib+k->B[i]? = _a x->∀y∈A.drop ia,L y x=_r):Jm L A B (out++(B.drop ib).take k) ia<|ib+k:=(Jm.jJ (out:=out) a k ib out J.symm b c).symm
theorem Jm.fin'{out:_b α}{ib:_d}(J:Jm L A B out ia ib)(h:Cw L<|A.drop ia++B.drop ib):Good L A B<|out++A.drop ia++B.drop ib:=by
 rw[ed];refine⟨(J.pm.append_right _).trans ?_,fk.mpr ⟨J.rs,h,λx b y a=>J.lo x b y<|aE.mp a⟩⟩;have e:A++B=(A.take ia++A.drop ia)++(B.take ib++B.drop ib):=by rw[eR,eR]
 rw[e,ed,ed];refine kU _ ?_;rw[<-ed,<-ed];exact _bv _ iL
theorem Jm.fin{out:_b α}{ib:_d}(J:Jm L A B out ia ib)(a:Cw L A)(b:Cw L B)(h:ia=A.length \/ ib=B.length):Good L A B<|out++A.drop ia++B.drop ib:=J.fin' (by
 rcases h with h | h
 .rw[h,oq,List.nil_append];exact b.sublist (iS ..)
 .rw[h,oq,fN];exact a.sublist<|iS ..)
theorem Jm.lX{out:_b α}{ib:_d}{x:α}(J:Jm L A B out ia ib)(b:Cw L B)(hi:ia+1=A.length)(c:A[ia]? = _a x)(d:∀y∈B,L x y=_r):Good L A B<|out++B.drop ib++A.drop ia:=by
 have g:=J.symm.fin' (by
  rw[HH c,hi,oq];exact Cw.snoc (b.sublist<|iS ..) λy a=>d y<|me a)
 exact⟨g.1.trans iL,g.2⟩
end
section
variable{α:Type}{L:α->α->_V}{A B:_b α}
theorem YZ.iZ(c:YZ L)(e:Cw L A){x z:α}(d:A[ia]? = _a x)(h:L z x=_h):∀y∈A.drop ia,L y z=false:=λy a=>by
 rw[HH d] at a;rcases bq.mp a with rfl | a
 .exact c.asym _ _ h
 .rcases c.co z y x h with b | b
  .exact c.asym _ _ b
  .rw[e.tail d a] at b;cases b
theorem YZ.eN(d:YZ L)(c:Cw L B){ib:_d}{x z:α}(hz:B[ib]? = _a z)(h:L z x=_r):∀y∈B.drop ib,L y x=false:=λy b=>by
 rw[HH hz] at b;rcases bq.mp b with rfl | b
 .exact h
 .cases e:L y x with
  |false=>rfl
  |true =>
   rcases d.co y z x e with a | a
   .rw[c.tail hz b] at a;cases a
   .rw[h] at a;cases a
theorem Cw.at{l:_b α}(d:Cw L l){x y:α}(c:i<j)(a:l[i]? = _a x)(b:l[j]? = _a y):L y x=false:=by
 refine d.tail a ?_;refine am (i:=j - (i+1)) ?_;rw[List.getElem?_drop,show i+1+(j - (i+1))=j by lia];exact b
end
theorem Mw{a:_E _M}:(a.extract i a.size).toList=a.toList.drop i:=by
 rw[ĝ,jp,dt<|by rw[gz,_I];exact ai _]
theorem WM{a:_E _M}{k:_d}:(a.extract i<|i+k).toList=(a.toList.drop i).take k:=by
 rw[ĝ,List.extract_eq_take_drop,show i+k - i=k by lia]
abbrev HX(st:ι)(g:_d):SortSt:=SortSt.mk' (kindOf st) (arrOf st) (pendingOf st) g<|failedOf st
theorem Gp(g:_d):kZ g=modify (λst=>HX st g):=rfl
section
variable{w:_O}{E:vSP}{S:_M->Prop}{L:_M->_M->_V}{κ:â}{key:_M}{arr:_E _M}{base hint:_d}{st:ι}{Q:_t _d->ι->Prop}
theorem WY{left:_V}(t:YZ L)(F:LC prog w A E s S L κ)(H:kindOf st=κ)(y:hint<n)(hsz:base+n<=arr.size)(C:∀(i:_d) x,arr[i]? = _a x->S x)(f:S key)(r:Cw L arr.toList)
  (h:∀k,k<=n->(∀i x,base<=i->i<base+k->arr[i]? = _a x->(if left then L x key else !L key x)=_h)->(∀i x,base+k<=i->i<base+n->arr[i]? = _a x->(if left then L x key else !L key x)=_r)->Q (_a k) st):wpS (_z prog w) A E s (Iw left key arr base n hint) Q st:=by
 refine Jj (b:=λi=>match arr[base+i]? with | some x=>(if left then L x key else !L key x) | none=>_r) F H y hsz C f (λi x _ d=>by rw[d]) (λi j B I c=>?_) λk o G D=>h k o (λi x a b d=>?_) λi x a b d=>?_
 .obtain⟨g,m⟩:∃x,arr[base+i]? = _a x:=⟨_,_u<|by lia⟩;obtain⟨p,l⟩:∃x,arr[base+j]? = _a x:=⟨_,_u<|by lia⟩;rw[l] at c;rw[m];rcases kR i j with v | u
  .have q:=r.at (show base+i<base+j by lia) (by rw[_w];exact m)<|by rw[_w];exact l
   cases left with
   |true=>exact (t.co p g key c).resolve_left<|by rw[q];exact et
   |false =>
    cases e:L key g with
    |false=>show (!L key g)=_h;rw[e];rfl
    |true =>
     have c:(!L key p)=true:=c;rcases t.co key p g e with z | z
     .rw[z] at c;cases c
     .rw[q] at z;cases z
  .obtain rfl:i=j:=by lia
   rw[m] at l
   cases l;exact c
 .have:=G (i - base)<|by lia
  rw[show base+(i - base)=i by lia,d] at this;exact this
 .have:=D (i - base) (by lia)<|by lia
  rw[show base+(i - base)=i by lia,d] at this;exact this
theorem ux(m:YZ L)(j:LC prog w A E s S L κ)(p:kindOf st=κ)(e:hint<n)(hsz:base+n<=arr.size)(f:∀(i:_d) x,arr[i]? = _a x->S x)(c:S key)(r:Cw L arr.toList)
  (h:∀k,k<=n->(∀i x,base<=i->i<base+k->arr[i]? = _a x->L key x=_r)->(∀i x,base+k<=i->i<base+n->arr[i]? = _a x->L key x=_h)->Q (_a k) st):wpS (_z prog w) A E s (Iw _r key arr base n hint) Q st :=
 WY m j p e hsz f c r λk o g l=>h k o (λi x a b d=>by simpa using g i x a b d) λi x a b d=>by simpa using l i x a b d
theorem yD(d:YZ L)(b:LC prog w A E s S L κ)(c:kindOf st=κ)(e:hint<n)(hsz:base+n<=arr.size)(f:∀(i:_d) x,arr[i]? = _a x->S x)(a:S key)(r:Cw L arr.toList)
  (h:∀k,k<=n->(∀i x,base<=i->i<base+k->arr[i]? = _a x->L x key=_h)->(∀i x,base+k<=i->i<base+n->arr[i]? = _a x->L x key=_r)->Q (_a k) st):wpS (_z prog w) A E s (Iw _h key arr base n hint) Q st:=WY d b c e hsz f a r h
end
end Sm
section PartSortM2
set_option maxHeartbeats 800000
namespace Sm
open PySem PyProof.Rows
local macro_rules | `(tactic| delta mergeLoOpen)=>`(tactic| delta $(Lean.mkCIdent (Lean.mkPrivateNameCore `PySem.Builtin.List.W1All `PySem.Builtin.mergeLo)))
section
variable{w:_O}{E:vSP}
inductive Gq{X:Type}(st:ι)(L:_M->_M->_V)(a b:_E _M)(K:_t (_E _M)×X->ι->Prop):_t (_E _M)×X->ι->Prop
 | go{c:_}{s:_}(h:K c s):Gq st L a b K c s
 | st{g:_}{r:_}{x:_}(h:Good L a.toList b.toList r.toList):Gq st L a b K (_a r,x) (HX st g)
inductive Lw{T:Type}(st:ι)(L:_M->_M->_V)(a b:_E _M)(n:_d):_t (_E _M)×_E _M×_d×_d×T->ι->Prop
 | mk{g:_}{out:_}{i:_}{j:_}{r:_}(h:Jm L a.toList b.toList out.toList i j)(h1:i+1<a.size)(h2:j<b.size)(h3:n<=i+j):Lw st L a b n (_n,out,i,j,r) (HX st g)
theorem TJ{S:_M->Prop}{L:_M->_M->_V}{κ:â}{a b:_E _M}{st:ι}{Q:_E _M->ι->Prop}
  (hw:YZ L)(hL:LC prog w A E s S L κ)(hk:kindOf st=κ)(ha:1<=a.size)(hb:1<=b.size)(RO:∀x∈a.toList,S x)(MY:∀x∈b.toList,S x)(rA:Cw L a.toList)(R:Cw L b.toList)
  (h0:∀x∈a.toList,∀y,b[0]? = _a y->L x y=_r)(h9:∀x,a[a.size - 1]? = _a x->∀y∈b.toList,L x y=_r)
  (h:∀r g,Good L a.toList b.toList r.toList->Q r (HX st g)):wpS (_z prog w) A E s (KR a b) Q st:=by
 delta KR;delta mergeLoOpen;dsimp only[JB,RJ,Ii,QV];refine _y<|ś<|Ç ⟨U,?_⟩
 obtain⟨b0,Y⟩:∃x,b[0]? = _a x:=⟨_,_u<|by lia⟩;rw[ã,Y];refine _y<|_x ?_
 have eA:∀i x,a[i]? = _a x->a.toList[i]? = _a x:=λi x e=>by rw[_w];exact e
 have eB:∀i x,b[i]? = _a x->b.toList[i]? = _a x:=λi x e=>by rw[_w];exact e
 have mA:∀i x,a[i]? = _a x->S x:=λi x e=>RO x<|am<|eA i x e
 have mB:∀i x,b[i]? = _a x->S x:=λi x e=>MY x<|am<|eB i x e
 have dn:∀(out:_E _M) d ib,Jm L a.toList b.toList out.toList d ib->(d=a.size \/ ib=b.size)->Good L a.toList b.toList (out++a.extract d a.size++b.extract ib b.size).toList:=λout d ib J e=>by
  rw[θ,θ,Mw,Mw];exact J.fin rA R<|by rw[_I,_I];exact e
 have ls:∀(out:_E _M) d ib,Jm L a.toList b.toList out.toList d ib->d+1=a.size->Good L a.toList b.toList (out++b.extract ib b.size++a.extract d a.size).toList:=λout d ib J e=>by
  obtain⟨x,v⟩:∃x,a[d]? = _a x:=⟨_,_u<|by lia⟩;rw[θ,θ,Mw,Mw];exact J.lX R (by rw[_I];exact e) (eA _ _ v)<|h9 x<|by rw[show a.size - 1=d by lia];exact v
 have pA:∀(out:_E _M) d ib l m,Jm L a.toList b.toList out.toList d ib->a[d]? = _a l->b[ib]? = _a m->L m l=_r->Jm L a.toList b.toList (out.push l).toList (d+1) ib:=λout d ib l m J ha hb P=>by
  rw[ç];exact J.Wu rA (eA _ _ ha)<|hw.eN R (eB _ _ hb) P
 have pB:∀(out:_E _M) d ib l m,Jm L a.toList b.toList out.toList d ib->a[d]? = _a l->b[ib]? = _a m->L m l=_h->Jm L a.toList b.toList (out.push m).toList d (ib+1):=λout d ib l m J ha hb P=>by
  rw[ç];exact J.W2 R (eB _ _ hb)<|hw.iZ rA (eA _ _ ha) P
 have J0:Jm L a.toList b.toList (#[b0]:_E _M).toList 0 1:=by
  have:Jm L a.toList b.toList [] 0 0:=⟨cK _,cK _,.refl _,.nil,λx v=>_D v gI⟩;exact this.W2 R (eB _ _ Y) λy hy=>h0 y hy b0 Y
 by_cases M:(1 == b.size)=_h
 .rw[_o M];exact _x<|h _ (gallopOf st)<|dn _ _ _ J0<|.inr<|_H.mp M
 rw[_l M];by_cases O:(0+1 == a.size)=_h
 .rw[_o O];exact _x<|h _ (gallopOf st)<|ls _ _ _ J0<|_H.mp O
 rw[_l O];rw[_H] at M O;refine _y<|Ļ<|_y ?_
 refine Ó (χ (I:=λi c o=>Lw st L a b i c o)
  (Q:=λc o=>(∃g,o=HX st g)/\∃r x,c=(_a r,x)/\Good L a.toList b.toList r.toList) ?st ?en (.mk J0 (by lia) (by lia)<|by lia)) ?po
 case po =>
  rintro c o ⟨⟨g,rfl⟩,r,x,rfl,hG⟩;exact _x<|h r g hG
 case en =>
  rintro c o ⟨_,B,z,h3⟩;lia
 case st =>
  rintro i c o _ hi @⟨g,out,d,ib,T,J,Y',ZB,ap⟩;dsimp only;refine _y (Ó (χ (I:=λj c o=>Lw st L a b (d+ib+j) c o)
   (Q:=Gq st L a b<|Lw st L a b<|d+ib+1) ?st1 ?en1 (.mk J Y' ZB<|ai _)) ?po1)
  case en1 =>
   rintro c o ⟨J,B,z,h3⟩;exact .go<|.mk J B z<|by lia
  case st1 =>
   rintro j c o _ hj @⟨g',out,Z,X,⟨ac,bc⟩,J,B,z,h3⟩;obtain⟨l,F⟩:∃x,a[Z]? = _a x:=⟨_,_u<|by lia⟩;obtain⟨m,N⟩:∃x,b[X]? = _a x:=⟨_,_u z⟩;dsimp only;rw[ã,N,ã,F];refine _y<|_x<|_y<|_x<|_y<|hL m l _ _ (mB _ _ N) (mA _ _ F) hk ?_
   dsimp only
   cases P:L m l with
   |true =>
    rw[_o U];refine _y<|_x ?_
    have q:=pB out Z X l m J F N P;by_cases t:(X+1 == b.size)=_h
    .rw[_o t];exact _x<|.st<|dn _ _ _ q<|.inr<|_H.mp t
    .rw[_l t];rw[_H] at t;by_cases G:bc+1 ≥ T
     .rw[_o G];exact _x<|.go<|.mk q (B) (by lia)<|by lia
     .rw[_l G];exact _x<|.mk q (B) (by lia)<|by lia
   |false =>
    rw[_l et];refine _y<|_x ?_
    have q:=pA out Z X l m J F N P;by_cases t:(Z+1+1 == a.size)=_h
    .rw[_o t];exact _x<|.st<|ls _ _ _ q<|_H.mp t
    .rw[_l t];rw[_H] at t;by_cases G:ac+1 ≥ T
     .rw[_o G];exact _x<|.go<|.mk q (by lia) (z)<|by lia
     .rw[_l G];exact _x<|.mk q (by lia) (z)<|by lia
  case po1 =>
   rintro c o (⟨@⟨g',out,Z,X,⟨ac,bc⟩,J,B,z,h3⟩⟩ | hG)
   .dsimp only;refine _y<|ś<|Ç ⟨U,?_⟩
    refine _y (Ó (χ (I:=λj c o=>Lw st L a b (Z+X+j) c o)
     (Q:=Gq st L a b<|Lw st L a b<|Z+X) ?st2 ?en2 (.mk J B z<|ai _)) ?po2)
    case en2 =>
     rintro c o ⟨J,g1,g2,g3⟩;exact .go<|.mk J g1 g2<|by lia
    case po2 =>
     rintro c o (⟨@⟨_,out,p,f,⟨T,ac,bc⟩,J,g1,g2,g3⟩⟩ | hG)
     .dsimp only;rw[Gp];exact _y<|ì<|_x<|.mk J g1 g2<|by lia
     .exact _x ⟨⟨_,U⟩,_,_,U,hG⟩
    case st2 =>
     clear B z h3 J;rintro j c o _ hj @⟨g,out,p,f,⟨T,ac,bc⟩,J,g1,g2,g3⟩;obtain⟨m,N⟩:∃x,b[f]? = _a x:=⟨_,_u g2⟩;dsimp only;apply two1<|T > 1
     .intro hm rest;rw[_o hm,Gp];refine _y<|ì ?_
      generalize T - 1=Iy;exact rest Iy
     .intro hm rest;rw[_l hm,Gp];refine _y<|ì ?_
      exact rest T
     intro Iy;rw[ã,N];refine _y<|_x<|_y<|ux hw hL hk (by lia) (by lia) mA (mB _ _ N) rA λk WA kt kf=>?_
     have D:∀x,a[p+k]? = _a x->L m x=true:=λx v=>kf _ x (ai _) (by have:=(Ο.mp v).1;lia) v;dsimp only;apply two2<|k > 0
     .intro EH rest;have GL:=D;rw[_o EH];have q:Jm L a.toList b.toList (out++a.extract p (p+k)).toList (p+k) f:=by
       rw[θ,WM];exact Jm.jJ (out:=out.toList) rA k p _ J (by rw[_I];lia) λi x B z v=>hw.eN R (eB _ _ N)<|kt i x B z<|by rw[<-_w];exact v
      generalize out++a.extract p (p+k)=sF at q |-;have W:p<=p+k:=by lia
      have an:p+k<=a.size:=by lia
      generalize p+k=K at q GL W an |-;by_cases t:(K+1 == a.size)=_h
      .rw[_o t];exact _x<|.st<|ls _ _ _ q<|_H.mp t
      rw[_l t];by_cases G:(K == a.size)=_h
      .rw[_o G];exact _x<|.st<|dn _ _ _ q<|.inl<|_H.mp G
      rw[_l G];rw[_H] at t G;have aa:K+1<a.size:=by lia
      revert q GL W aa;exact rest sF K
     .intro EH rest;rw[_l EH];exact rest out p J (by rw[show p+k=p by lia] at D;exact D) (Τ _) g1
     intro sF K q D W aa;obtain⟨l,F⟩:∃x,a[K]? = _a x:=⟨_,_u<|by lia⟩;have P:=D l F;have J2:=pB sF K f l m q F N P;refine _y<|_x ?_
     generalize sF.push m=u at J2 |-;by_cases e3:(f+1 == b.size)=_h
     .rw[_o e3];exact _x<|.st<|dn _ _ _ J2<|.inr<|_H.mp e3
     rw[_l e3];rw[_H] at e3;rw[ã,F];refine _y<|_x<|_y<|yD hw hL hk (by lia) (by lia) mB (mA _ _ F) R λH KO P8 N9=>?_
     have n:∀x,b[f+1+H]? = _a x->L x l=false:=λx v=>N9 _ x (ai _) (by have:=(Ο.mp v).1;lia) v;dsimp only;apply two2<|H > 0
     .intro yb rest;have B5:=n;rw[_o yb];have J3:Jm L a.toList b.toList (u++b.extract (f+1) (f+1+H)).toList K<|f+1+H:=by
       rw[θ,WM];exact Jm.wN (out:=u.toList) R H (f+1) _ J2 (by rw[_I];lia) λi x B z v=>hw.iZ rA (eA _ _ F)<|P8 i x B z<|by rw[<-_w];exact v
      generalize u++b.extract (f+1) (f+1+H)=vi at J3 |-;have V:f+1<=f+1+H:=by lia
      have ab:f+1+H<=b.size:=by lia
      generalize f+1+H=Fs at J3 B5 V ab |-;by_cases e4:(Fs == b.size)=_h
      .rw[_o e4];exact _x<|.st<|dn _ _ _ J3<|.inr<|_H.mp e4
      rw[_l e4];rw[_H] at e4;have C:Fs<b.size:=by lia
      revert J3 B5 V C;exact rest vi Fs
     .intro yb rest;rw[_l yb];exact rest u (f+1) J2 (by rw[show f+1+H=f+1 by lia] at n;exact n) (Τ _)<|by lia
     intro vi Fs J3 n V C;obtain⟨x3,EQ⟩:∃x,b[Fs]? = _a x:=⟨_,_u C⟩;have J4:=pA vi K Fs l x3 J3 F EQ<|n x3 EQ
     refine _y<|_x ?_
     by_cases e5:(K+1+1 == a.size)=_h
     .rw[_o e5];exact _x<|.st<|ls _ _ _ J4<|_H.mp e5
     rw[_l e5];rw[_H] at e5;split
     .exact _x<|.go<|.mk J4 (by lia) (C)<|by lia
     .exact _x<|.mk J4 (by lia) (C)<|by lia
   .exact _x ⟨⟨_,U⟩,_,_,U,hG⟩
end
end Sm
end PartSortM2
section PartSortM3
set_option maxHeartbeats 800000
namespace Sm
open PySem PyProof.Rows
local macro_rules | `(tactic| delta mergeHiOpen)=>`(tactic| delta $(Lean.mkCIdent (Lean.mkPrivateNameCore `PySem.Builtin.List.W1All `PySem.Builtin.mergeHi)))
section
variable{α:Type}{L:α->α->_V}{A B:_b α}
abbrev Fl(L:α->α->_V):α->α->Bool:=λx y=>L y x
theorem YZ.fl(h:YZ L):YZ<|Fl L:=⟨λx y e=>h.asym y x e,λx y z e=>(h.co z y x e).symm⟩
theorem Cw.fl(h:Cw L A):Cw (Fl L) A.reverse:=zo.mpr h
theorem Good.fl{r:_b α}(h:Good (Fl L) B.reverse A.reverse r.reverse):Good L A B r:=by
 refine⟨?_,zo.mp h.2⟩;have a:=(E' r).symm.trans h.1;refine a.trans ?_;rw[<-ij];exact E' _
theorem Hv{l:_b α}(h:n<=l.length):l.reverse.drop (l.length - n)=(l.take n).reverse:=by
 rw[List.drop_reverse,show l.length - (l.length - n)=n by lia]
theorem ZZ{l:_b α}(h:n<=l.length)(a:1<=n):l.reverse[l.length - n]? = l[n - 1]?:=by
 rw[Ł (by lia),show l.length - 1 - (l.length - n)=n - 1 by lia]
theorem Wj{l:_b α}(h:n<=l.length)(a:m<=n):(l.reverse.drop<|l.length - n).take (n - m)=((l.take n).drop m).reverse:=by
 rw[Hv h,List.take_reverse,I',ſ h,show n - (n - m)=m by lia]
end
theorem Qv{a:_E _M}:(a.extract 0 i).toList=a.toList.take i:=by
 rw[ĝ,jp,rd,Nat.sub_zero]
theorem JL{a:_E _M}:(a.extract i j).toList=(a.toList.take j).drop i:=by
 rw[ĝ,jp,rh]
section
variable{w:_O}{E:vSP}
inductive Hw{T:Type}(st:ι)(J:_E _M->_d->_d->Prop)(A B n m:_d):_t (_E _M)×_d×_d×_E _M×T->ι->Prop
 | mk{g:_}{i:_}{j:_}{out:_}{r:_}(h:J out i j)(h1:1<=i)(h2:i<=A)(h3:2<=j)(h4:j<=B)(h5:n+i+j<=m):Hw st J A B n m (_n,i,j,out,r) (HX st g)
theorem Rh{S:_M->Prop}{L:_M->_M->_V}{κ:â}{a b:_E _M}{st:ι}{Q:_E _M->ι->Prop}
  (hw:YZ L)(hL:LC prog w A E s S L κ)(hk:kindOf st=κ)(ha:1<=a.size)(hb:1<=b.size)(RO:∀x∈a.toList,S x)(MY:∀x∈b.toList,S x)(rA:Cw L a.toList)(rB:Cw L b.toList)
  (h0:∀x∈a.toList,∀y,b[0]? = _a y->L x y=_r)(h9:∀x,a[a.size - 1]? = _a x->∀y∈b.toList,L x y=_r)
  (h:∀r g,Good L a.toList b.toList r.toList->Q r (HX st g)):wpS (_z prog w) A E s (Kc a b) Q st:=by
 delta Kc;delta mergeHiOpen;dsimp only[JB,RJ,Ii,QV];refine _y<|ś<|Ç ⟨U,?_⟩
 obtain⟨a9,N0⟩:∃x,a[a.size - 1]? = _a x:=⟨_,_u<|by lia⟩;rw[ã,N0];refine _y<|_x ?_
 have la:=_I (xs:=a);have lb:=_I (xs:=b);have zt:=hw.fl;have DI:=rA.fl;have F8:=rB.fl;have eA:∀n x,1<=n->n<=a.size->a[n - 1]? = _a x->a.toList.reverse[a.size - n]? = _a x:=λn x z v e=>by
  have:=ZZ (l:=a.toList) (n:=n) (by lia) z;rw[la] at this;rw[this,_w];exact e
 have eB:∀n x,1<=n->n<=b.size->b[n - 1]? = _a x->b.toList.reverse[b.size - n]? = _a x:=λn x z v e=>by
  have:=ZZ (l:=b.toList) (n:=n) (by lia) z;rw[lb] at this;rw[this,_w];exact e
 have fA:∀i x,a[i]? = _a x->a.toList[i]? = _a x:=λi x e=>by rw[_w];exact e
 have fB:∀i x,b[i]? = _a x->b.toList[i]? = _a x:=λi x e=>by rw[_w];exact e
 have mA:∀i x,a[i]? = _a x->S x:=λi x e=>RO x<|am<|fA i x e
 have mB:∀i x,b[i]? = _a x->S x:=λi x e=>MY x<|am<|fB i x e
 let J:=λ(out:_E _M) d f=>Jm (Fl L) b.toList.reverse a.toList.reverse out.toList (b.size - f)<|a.size - d
 have dn:∀(out:_E _M) d f,J out d f->d<=a.size->f<=b.size->(d=0 \/ f=0)->Good L a.toList b.toList (a.extract 0 d++b.extract 0 f++out.reverse).toList:=λout d f j l1 l2 e=>by
  have:=j.fin F8 DI<|by rw[im,im,la,lb];lia
  have R:=Hv (l:=a.toList) (n:=d)<|by lia
  have d2:=Hv (l:=b.toList) (n:=f)<|by lia
  rw[la] at R;rw[lb] at d2;rw[R,d2] at this;refine Good.fl ?_;rw[θ,θ,Qv,Qv,Ğ,ij,ij,AH,<-ed];exact this
 have ls:∀(out:_E _M) d f,J out d f->d<=a.size->f=1->Good L a.toList b.toList (b.extract 0 f++a.extract 0 d++out.reverse).toList:=λout d f j l1 e=>by
  subst e;obtain⟨x,p⟩:∃x,b[0]? = _a x:=⟨_,_u<|by lia⟩;have:=j.lX DI (by rw[im,lb];lia) (eB 1 x (ai _) hb p) λy hy=>h0 y (J1.mp hy) x p;have R:=Hv (l:=a.toList) (n:=d)<|by lia
  have d2:=Hv (l:=b.toList) (n:=1)<|by lia
  rw[la] at R;rw[lb] at d2;rw[R,d2] at this;refine Good.fl ?_;rw[θ,θ,Qv,Qv,Ğ,ij,ij,AH,<-ed];exact this
 have pB:∀(out:_E _M) d f q u,J out d f->1<=d->d<=a.size->1<=f->f<=b.size->a[d - 1]? = _a q->b[f - 1]? = _a u->L u q=_h->J (out.push q) (d - 1) f:=λout d f q u j l1 l2 l3 l4 ha hb K=>by
  show Jm _ _ _ (out.push q).toList _ (a.size - (d - 1));rw[ç,show a.size - (d - 1)=a.size - d+1 by lia];exact j.W2 DI (eA _ _ l1 l2 ha)<|zt.iZ F8 (eB _ _ l3 l4 hb) K
 have pA:∀(out:_E _M) d f q u,J out d f->1<=d->d<=a.size->1<=f->f<=b.size->a[d - 1]? = _a q->b[f - 1]? = _a u->L u q=_r->J (out.push u) d (f - 1):=λout d f q u j l1 l2 l3 l4 ha hb K=>by
  show Jm _ _ _ (out.push u).toList (b.size - (f - 1)) _;rw[ç,show b.size - (f - 1)=b.size - f+1 by lia];exact j.Wu F8 (eB _ _ l3 l4 hb)<|zt.eN DI (eA _ _ l1 l2 ha) K
 have as:∀(out:_E _M) d f o u,J out d f->d<=a.size->1<=f->f<=b.size->o<=d->b[f - 1]? = _a u->(∀i x,o<=i->i<d->a[i]? = _a x->L u x=_h)->J (out++(a.extract o d).reverse) o f:=λout d f o u j l2 l3 l4 l5 hb K=>by
  show Jm _ _ _ (out++(a.extract o d).reverse).toList _ (a.size - o);have R:=Wj (l:=a.toList) (n:=d) (m:=o) (by lia) l5;rw[la] at R;rw[θ,Ğ,JL,<-R,show a.size - o=a.size - d+(d - o) by lia];refine Jm.wN (out:=out.toList) DI _ _ _ j (by rw[im,la];lia) λi x z v p=>zt.iZ F8 (eB _ _ l3 l4 hb) ?_;rw[Ł (by lia),_w,la] at p;exact K (a.size - 1 - i) x (by lia) (by lia) p
 have aw:∀(out:_E _M) d f o q,J out d f->1<=d->d<=a.size->f<=b.size->o<=f->a[d - 1]? = _a q->(∀i x,o<=i->i<f->b[i]? = _a x->L x q=_r)->J (out++(b.extract o f).reverse) d o:=λout d f o q j l2 l3 l4 l5 ha K=>by
  show Jm _ _ _ (out++(b.extract o f).reverse).toList (b.size - o) _;have R:=Wj (l:=b.toList) (n:=f) (m:=o) (by lia) l5;rw[lb] at R;rw[θ,Ğ,JL,<-R,show b.size - o=b.size - f+(f - o) by lia];refine Jm.jJ (out:=out.toList) F8 _ _ _ j (by rw[im,lb];lia) λi x z v p=>zt.eN DI (eA _ _ l2 l3 ha) ?_;rw[Ł (by lia),_w,lb] at p;exact K (b.size - 1 - i) x (by lia) (by lia) p
 have J0:J #[a9] (a.size - 1) b.size:=by
  have:Jm (Fl L) b.toList.reverse a.toList.reverse [] 0 0:=⟨cK _,cK _,.refl _,.nil,λx p=>_D p gI⟩;have j:=this.W2 DI (x:=a9) (by have:=eA a.size a9 ha (ai _) N0;rwa [iN] at this) λy hy=>h9 a9 N0 y<|J1.mp hy
  show Jm _ _ _ _ (b.size - b.size) (a.size - (a.size - 1));rw[_al,show a.size - (a.size - 1)=0+1 by lia];exact j
 by_cases Z:(a.size - 1 == 0)=_h
 .rw[_o Z];exact _x<|h _ (gallopOf st)<|dn _ _ _ J0 (by lia) (ai _)<|.inl<|_H.mp Z
 rw[_l Z];by_cases Y:(b.size == 1)=_h
 .rw[_o Y];exact _x<|h _ (gallopOf st)<|ls _ _ _ J0 (by lia)<|_H.mp Y
 rw[_l Y];rw[_H] at Z Y;refine _y<|Ļ<|_y ?_
 refine Ó (χ (I:=λi c B=>Hw st J a.size b.size i (a.size+b.size) c B)
  (Q:=λc B=>(∃g,B=HX st g)/\∃r x,c=(_a r,x)/\Good L a.toList b.toList r.toList) ?st ?en (.mk J0 (by lia) (by lia) (by lia) (by lia)<|by lia)) ?po
 case po =>
  rintro c B ⟨⟨g,rfl⟩,r,x,rfl,hG⟩;exact _x<|h r g hG
 case en =>
  rintro c B ⟨_,z,v,H,D,h5⟩;lia
 case st =>
  rintro i c B _ hi @⟨g,d,f,out,mg,j,z,v,H,D,h5⟩;dsimp only;clear_value J;refine _y<|Ó (χ (I:=λt c B=>Hw st J a.size b.size t (d+f) c B) (Q:=Gq st L a b<|Hw st J a.size b.size 1<|d+f) ?st1 ?en1<|.mk j z v H D<|by lia) ?po1
  case en1 =>
   rintro c B ⟨J,z,v,H,D,h5⟩;exact .go<|.mk J z v H D<|by lia
  case st1 =>
   clear j z v H D h5;rintro t c B _ hj @⟨g',EG,DM,out,⟨ac,bc⟩,j,z,v,H,D,h5⟩;obtain⟨q,T⟩:∃x,a[EG - 1]? = _a x:=⟨_,_u<|by lia⟩;obtain⟨u,W⟩:∃x,b[DM - 1]? = _a x:=⟨_,_u<|by lia⟩;dsimp only;rw[ã,W,ã,T];refine _y<|_x<|_y<|_x<|_y<|hL u q _ _ (mB _ _ W) (mA _ _ T) hk ?_
   dsimp only
   cases K:L u q with
   |true =>
    rw[_o U];refine _y<|_x ?_
    have F:=pB out EG DM q u j z v (by lia) D T W K;by_cases C:(EG - 1 == 0)=_h
    .rw[_o C];exact _x<|.st<|dn _ _ _ F (by lia) D<|.inl<|_H.mp C
    .rw[_l C];rw[_H] at C;by_cases e2:ac+1 ≥ mg
     .rw[_o e2];exact _x<|.go<|.mk F (by lia) (by lia) H D<|by lia
     .rw[_l e2];exact _x<|.mk F (by lia) (by lia) H D<|by lia
   |false =>
    rw[_l et];refine _y<|_x ?_
    have F:=pA out EG DM q u j z v (by lia) D T W K;by_cases C:(DM - 1 == 1)=_h
    .rw[_o C];exact _x<|.st<|ls _ _ _ F v<|_H.mp C
    .rw[_l C];rw[_H] at C;by_cases e2:bc+1 ≥ mg
     .rw[_o e2];exact _x<|.go<|.mk F z v (by lia) (by lia)<|by lia
     .rw[_l e2];exact _x<|.mk F z v (by lia) (by lia)<|by lia
  case po1 =>
   clear j z v H D;rintro c B (⟨@⟨g',EG,DM,out,⟨ac,bc⟩,j,z,v,H,D,h6⟩⟩ | hG);rotate_left
   .exact _x ⟨⟨_,U⟩,_,_,U,hG⟩
   .dsimp only;refine _y<|ś<|Ç ⟨U,?_⟩
    refine _y<|Ó (χ (I:=λt c B=>Hw st J a.size b.size t (EG+DM) c B) (Q:=Gq st L a b<|Hw st J a.size b.size 0<|EG+DM) ?st2 ?en2<|.mk j z v H D<|by lia) ?po2
    case en2 =>
     rintro c B ⟨J,g1,g2,g3,g4,g5⟩;exact .go<|.mk J g1 g2 g3 g4<|by lia
    case po2 =>
     rintro c B (⟨@⟨_,C6,M,out,⟨mg,ac,bc⟩,J,g1,g2,g3,g4,g5⟩⟩ | hG)
     .dsimp only;rw[Gp];exact _y<|ì<|_x<|.mk J g1 g2 g3 g4<|by lia
     .exact _x ⟨⟨_,U⟩,_,_,U,hG⟩
    case st2 =>
     clear z v H D h5 h6 j;rintro t c B _ hj @⟨g,C6,M,out,⟨mg,ac,bc⟩,j,g1,g2,g3,g4,g5⟩;obtain⟨u,W⟩:∃x,b[M - 1]? = _a x:=⟨_,_u<|by lia⟩;dsimp only;apply two1<|mg > 1
     .intro hm rest;rw[_o hm,Gp];refine _y<|ì ?_
      generalize mg - 1=Iy;exact rest Iy
     .intro hm rest;rw[_l hm,Gp];refine _y<|ì ?_
      exact rest mg
     intro Iy;rw[ã,W];refine _y<|_x<|_y<|ux hw hL hk (by lia) (by lia) mA (mB _ _ W) rA λk WA kt kf=>?_
     have ap:∀i x,i<k->a[i]? = _a x->L u x=false:=λi x v p=>kt i x (cK _) (by lia) p;dsimp only;generalize aK:C6 - k=aD;apply two2<|aD > 0
     .intro EH rest;have IF:=ap;rw[_o EH];have F:=as out C6 M k u j g2 (by lia) g4 (by lia) W λi x z v p=>kf i x (by lia) (by lia) p;generalize out++(a.extract k C6).reverse=sF at F |-;by_cases C:(k == 0)=_h
      .rw[_o C];exact _x<|.st<|dn _ _ _ F (by lia) g4<|.inl<|_H.mp C
      rw[_l C];rw[_H] at C;have G:1<=k:=by lia
      have an:k<=C6:=by lia
      have V:∀x,a[k - 1]? = _a x->L u x=false:=λx p=>IF (k - 1) x (by lia) p;clear IF C;generalize k=B6 at F G an V |-;revert F V G an;exact rest sF B6
     .intro EH rest;rw[_l EH];exact rest out C6 j g1 (ai _)<|λx p=>ap (C6 - 1) x (by lia) p
     intro sF B6 F G an V;obtain⟨q,T⟩:∃x,a[B6 - 1]? = _a x:=⟨_,_u<|by lia⟩;have K:=V q T;have J2:=pA sF B6 M q u F G (by lia) (by lia) g4 T W K;refine _y<|_x ?_
     generalize sF.push u=O at J2 |-;by_cases e3:(M - 1 == 1)=_h
     .rw[_o e3];exact _x<|.st<|ls _ _ _ J2 (by lia)<|_H.mp e3
     rw[_l e3];rw[_H] at e3;rw[ã,T];refine _y<|_x<|_y<|yD hw hL hk (by lia) (by lia) mB (mA _ _ T) rB λP KO P8 N9=>?_
     have aa:∀i x,i<P->b[i]? = _a x->L x q=true:=λi x v p=>P8 i x (cK _) (by lia) p;dsimp only;generalize aM:M - 1 - P=aB;apply two2<|aB > 0
     .intro yb rest;have BD:=aa;rw[_o yb];have J3:=aw O B6 (M - 1) P q J2 G (by lia) (by lia) KO T λi x z v p=>N9 i x (by lia) (by lia) p;generalize O++(b.extract P (M - 1)).reverse=vi at J3 |-;by_cases e4:(P == 1)=_h
      .rw[_o e4];exact _x<|.st<|ls _ _ _ J3 (by lia)<|_H.mp e4
      rw[_l e4];by_cases e6:(P == 0)=_h
      .rw[_o e6];exact _x<|.st<|dn _ _ _ J3 (by lia) (by lia)<|.inr<|_H.mp e6
      rw[_l e6];rw[_H] at e4 e6;have N:2<=P:=by lia
      have ab:P<=M - 1:=by lia
      have X:∀x,b[P - 1]? = _a x->L x q=true:=λx p=>BD (P - 1) x (by lia) p;clear BD e4 e6;generalize P=Mo at J3 X N ab |-;revert J3 X N ab;exact rest vi Mo
     .intro yb rest;rw[_l yb];exact rest O (M - 1) J2 (λx p=>aa (M - 1 - 1) x (by lia) p) (by lia)<|ai _
     intro vi Mo J3 X N ab;obtain⟨x3,EQ⟩:∃x,b[Mo - 1]? = _a x:=⟨_,_u<|by lia⟩;have J4:=pB vi B6 Mo q x3 J3 G (by lia) (by lia) (by lia) T EQ<|X x3 EQ
     refine _y<|_x ?_
     by_cases e5:(B6 - 1 == 0)=_h
     .rw[_o e5];exact _x<|.st<|dn _ _ _ J4 (by lia) (by lia)<|.inl<|_H.mp e5
     rw[_l e5];rw[_H] at e5;split
     .exact _x<|.go<|.mk J4 (by lia) (by lia) N (by lia)<|by lia
     .exact _x<|.mk J4 (by lia) (by lia) N (by lia)<|by lia
end
end Sm
end PartSortM3
section PartSortN
set_option maxHeartbeats 800000
namespace Sm
open PySem PyProof.Rows
section
variable{w:_O}{E:vSP}{ρ:_M->_d}{S:_M->Prop}{κ:â}{p0:_E (_d×_d×_d)}{a0:_E _M}{lo:_d}
noncomputable abbrev Lr(ρ:_M->_d)(x y:_M):Bool:=decide (ρ x<ρ y)
theorem cT:YZ<|Lr ρ:=⟨λx y h=>by simp at h |-;lia,λx y z h=>by simp at h |-;lia⟩
noncomputable def R(ρ:_M->_d)(xs:_E _M)(i:_d):Nat:=match xs[i]? with
 |some x=>ρ x
 |none=>0
theorem Jv{xs ys:_E _M}(h:xs[i]? = ys[j]?):R ρ xs i=R ρ ys j:=by unfold R;rw[h]
theorem JV{xs:_E _M}{x:_M}(h:xs[i]? = _a x):R ρ xs i=ρ x:=by unfold R;rw[h]
structure Bs(κ:â)(p0:_E<|_d×_d×_d)(a0:_E _M)(lo:_d)(st:ι):Prop where
 kind:kindOf st=κ
 pend:pendingOf st=p0
 fail:failedOf st=_n
 perm:(arrOf st).Perm a0
 pre:∀i,i<lo->(arrOf st)[i]? = a0[i]?
theorem Bs.size{st:ι}(h:Bs κ p0 a0 lo st):(arrOf st).size=a0.size:=h.perm.size_eq
theorem Bs.set{st:ι}{xs:_E _M}(h:Bs κ p0 a0 lo st)(b:xs.Perm<|arrOf st)(c:∀i,i<lo->xs[i]? = (arrOf st)[i]?):Bs κ p0 a0 lo (setArr st xs) :=
 ⟨h.kind,h.pend,h.fail,b.trans h.perm,λi a=>(c i a).trans<|h.pre i a⟩
theorem Bs.mem{st:ι}(h:Bs κ p0 a0 lo st)(b:∀x∈a0.toList,S x):∀x∈(arrOf st).toList,S x:=λx a=>b x<|(Ì.mp h.perm).mem_iff.mp a
theorem Lx{st:ι}{Q:_t _V->ι->Prop}(d:LC prog w A E s S (Lr ρ) κ)(e:∀x∈a0.toList,S x)(b:Bs κ p0 a0 lo st)(hi:i<a0.size)(f:j<a0.size)
  (h:Q (_a (decide (R ρ (arrOf st) i<R ρ (arrOf st) j))) st):wpS (_z prog w) A E s (ltAt' i j) Q st:=by
 rw[ltAt'_eq];refine _y<|Ļ ?_
 have sz:=b.size;obtain⟨x,c⟩:∃x,(arrOf st)[i]? = _a x:=⟨_,_u<|by lia⟩;obtain⟨y,a⟩:∃x,(arrOf st)[j]? = _a x:=⟨_,_u<|by lia⟩;show wpS _ _ _ _ (do let u <-elem' (arrOf st) i;let v <-elem' (arrOf st) j;lt' u v) Q st;rw[ã,ã,c,a];have m:=b.mem e;refine _y<|_x<|_y<|_x<|d x y st Q (m x<|am<|by rw[_w];exact c) (m y<|am<|by rw[_w];exact a) b.kind ?_
 rw[JV c,JV a] at h;exact h
def Up(ρ:_M->_d)(xs:_E _M)(a b:_d):Prop:=∀i j,a<=i->i<=j->j<b->R ρ xs i<=R ρ xs j
def Dn(ρ:_M->_d)(xs:_E _M)(a b:_d):Prop:=∀i j,a<=i->i<=j->j<b->R ρ xs j<=R ρ xs i
theorem jw{xs:_E _M}(a:j<=xs.size)(k:_d):R ρ (mirror xs i j<|(j - i) / 2) k=if i<=k/\k<j then R ρ xs (i+j - 1 - k) else R ρ xs k:=by
 have e:=OV (i:=i) a k;split
 .rename_i h;rw[_o h] at e;exact Jv e
 .rename_i h;rw[_l h] at e;exact Jv e
theorem dZ{xs:_E _M}(a:j<=xs.size)(k:_d)(b:k<i):(mirror xs i j<|(j - i) / 2)[k]? = xs[k]?:=by
 have e:=OV (i:=i) a k;rw[_l (by lia)] at e;exact e
theorem Od{xs:_E _M}{c:_d}(b:j<=xs.size)(a:∀k,i<=k->k<j->R ρ xs k=c)(k:_d):R ρ (mirror xs i j<|(j - i) / 2) k=R ρ xs k:=by
 rw[jw b];split
 .rw[a k (by lia) (by lia),a _ (by lia)<|by lia]
 .rfl
theorem Bs.yf{st:ι}(h:Bs κ p0 a0 lo st)(hi:lo<=i)(a:j<=a0.size):Bs κ p0 a0 lo (setArr st<|mirror (arrOf st) i j<|(j - i) / 2) :=
 h.set (mirror_perm _ _ _ _) λk b=>dZ (by rw[h.size];exact a) k<|by lia
theorem Up.snoc{xs:_E _M}{a b:_d}(h:Up ρ xs a b)(e:a<b->R ρ xs (b - 1)<=R ρ xs b):Up ρ xs a<|b+1:=λi j c f k=>by
 by_cases d:j<b
 .exact h i j c f d
 .obtain rfl:j=b:=by lia
  by_cases g:i=j
  .rw[g];exact ai _
  .exact bo (h i (j - 1) c (by lia)<|by lia)<|e<|by lia
theorem Dn.snoc{xs:_E _M}{a b:_d}(h:Dn ρ xs a b)(e:a<b->R ρ xs b<=R ρ xs (b - 1)):Dn ρ xs a<|b+1:=λi j c f k=>by
 by_cases d:j<b
 .exact h i j c f d
 .obtain rfl:j=b:=by lia
  by_cases g:i=j
  .rw[g];exact ai _
  .exact bo (e<|by lia)<|h i (j - 1) c (by lia)<|by lia
theorem Dn.of{xs ys:_E _M}{a b:_d}(h:Dn ρ xs a b)(e:∀k,R ρ ys k=R ρ xs k):Dn ρ ys a b:=λi j f d c=>by rw[e,e];exact h i j f d c
theorem Vi{g:_d}{st:ι}{Q:_t _d->ι->Prop}(B:LC prog w A E s S (Lr ρ) κ)(z:∀x∈a0.toList,S x)(v:Bs κ p0 a0 lo st)(t:1<=g)(hn:lo+g<=a0.size)
  (h:∀m i4,Bs κ p0 a0 lo i4->1<=m->m<=g->Up ρ (arrOf i4) lo (lo+m)->Q (_a m) i4):wpS (_z prog w) A E s (countRun' lo g) Q st:=by
 rw[countRun'_eq];dsimp only;refine _y (Ó (χ (I:=λx c i4=>i4=st/\c=(_n,x)/\Up ρ (arrOf st) lo (lo+x))
  (Q:=λc i4=>i4=st/\∃n,c=(_n,n)/\1<=n/\n<=g/\Up ρ (arrOf st) lo (lo+n)/\(n=g \/ R ρ (arrOf st) (lo+n)<R ρ (arrOf st) (lo+n - 1))) ?st1 ?en1 ⟨U,U,λi j t h2 H=>_am<|by rw[show i=j by lia]⟩) ?po1)
 case en1 =>
  rintro c i4 ⟨rfl,rfl,a⟩;rw[zor t] at a |-;exact⟨U,g,U,t,ai _,a,.inl U⟩
 case st1 =>
  rintro x c i4 C T ⟨rfl,rfl,a⟩;refine _y<|Lx B z v (by lia) (by lia) ?_
  by_cases d:R ρ (arrOf i4) (lo+x)<R ρ (arrOf i4) (lo+x - 1)
  .simp only[d,ļ,ÿ];exact _x ⟨U,x,U,C,by lia,a,.inr d⟩
  .simp only[d,Į,ζ,Ñ];exact _x ⟨U,U,a.snoc λ_=>lh d⟩
 case po1 =>
  rintro c i4 ⟨rfl,n,rfl,Z,n2,a,P⟩;dsimp only;by_cases J:(n == g)=_h
  .rw[_o J];exact _x<|h n i4 v Z n2 a
  rw[_l J];rw[_H] at J;have W:=P.resolve_left J;have sz:=v.size;have dk:(∀k,lo<=k->k<lo+n->R ρ (arrOf i4) k=R ρ (arrOf i4) (lo+n - 1))->Dn ρ (arrOf i4) lo (lo+(n+1)):=λhe=>Dn.snoc (b:=lo+n) (λi j t h2 H=>by rw[he i t (by lia),he j (by lia) H];exact ai _) λ_=>fh W;apply two1<|n > 1
  .intro X rest;rw[_o X];refine _y<|Lx B z v (by lia) (by lia) ?_
   by_cases d:R ρ (arrOf i4) lo<R ρ (arrOf i4) (lo+n - 1)
   .simp only[d,ļ,ÿ];exact _x<|h n i4 v Z n2 a
   simp only[d,Į,ζ,Ñ];have o:∀k,lo<=k->k<lo+n->R ρ (arrOf i4) k=R ρ (arrOf i4) (lo+n - 1):=λk p u=>by
    have a1:=a lo k (ai _) p u;have a2:=a k (lo+n - 1) p (by lia)<|by lia
    lia
   have G:Dn ρ (arrOf<|setArr i4<|mirror (arrOf i4) lo (lo+n)<|(lo+n - lo) / 2) lo<|lo+(n+1):=(dk o).of<|Od (by lia) o
   have L:=v.yf (i:=lo) (j:=lo+n) (ai _)<|by lia
   refine _y<|uD ?_
   generalize setArr i4 (mirror (arrOf i4) lo (lo+n) ((lo+n - lo) / 2))=st2 at L G |-;revert G L;exact rest st2
  .intro X rest;rw[_l X];exact rest i4 v (dk λk p u=>by rw[show k=lo+n - 1 by lia])
  intro st2 L G;refine _y<|ś<|Ç ⟨U,?_⟩
  refine _y (Ó (χ (I:=λx c i4=>∃q,c=(_n,x,q)/\Bs κ p0 a0 lo i4/\Dn ρ (arrOf i4) lo (lo+x)/\q+1<=x/\∀k,lo+x - (q+1)<=k->k<lo+x->R ρ (arrOf i4) k=R ρ (arrOf i4) (lo+x - 1))
   (Q:=λc i4=>∃m q,c=(_n,m,q)/\Bs κ p0 a0 lo i4/\Dn ρ (arrOf i4) lo (lo+m)/\q+1<=m/\1<=m/\m<=g/\∀k,lo+m - (q+1)<=k->k<lo+m->R ρ (arrOf i4) k=R ρ (arrOf i4) (lo+m - 1)) ?st2 ?en2 ⟨0,U,L,G,by lia,λk p u=>by rw[show k=lo+(n+1) - 1 by lia]⟩) ?po2)
  case en2 =>
   rintro c st3 ⟨q,rfl,f,l,F,r⟩;rw[zor (by lia)] at l F r |-;exact⟨g,q,U,f,l,F,by lia,ai _,r⟩
  case st2 =>
   rintro x c st3 x1 x2 ⟨q,rfl,f,l,F,r⟩;have V:=f.size;have aa:=hn;dsimp only;refine _y<|Lx B z f (by lia) (by lia) ?_
   by_cases d:R ρ (arrOf st3) (lo+x)<R ρ (arrOf st3) (lo+x - 1)
   .simp only[d,ļ,ÿ];have Y:Dn ρ (arrOf st3) lo<|lo+(x+1):=l.snoc λ_=>fh d
    by_cases o:q > 0
    .rw[_o o];exact _y<|uD<|_x ⟨0,U,f.yf (by lia)<|by lia,Y.of<|Od (by lia) r,by lia,λk p u=>by rw[show k=lo+(x+1) - 1 by lia]⟩
    .rw[_l o];exact _x ⟨0,U,f,Y,by lia,λk p u=>by rw[show k=lo+(x+1) - 1 by lia]⟩
   .simp only[d,Į,ζ,Ñ];refine _y<|Lx B z f (by lia) (by lia) ?_
    by_cases O:R ρ (arrOf st3) (lo+x - 1)<R ρ (arrOf st3) (lo+x)
    .simp only[O,ļ,ÿ];exact _x ⟨x,q,U,f,l,F,by lia,by lia,r⟩
    .simp only[O,Į,ζ,Ñ];refine _x ⟨q+1,U,f,l.snoc λ_=>lh O,by lia,λk p u=>?_⟩;rw[show lo+(x+1) - 1=lo+x by lia];by_cases hk:k=lo+x
     .rw[hk]
     .have:=r k (by lia)<|by lia
      lia
  case po2 =>
   rintro c st3 ⟨m,q,rfl,f,l,F,m1,m2,r⟩;have V:=f.size;dsimp only;apply two1<|q > 0
   .intro o rest;rw[_o o];refine _y<|uD ?_
    have D:=f.yf (i:=lo+m - (q+1)) (j:=lo+m) (by lia)<|by lia
    have M:Dn ρ (arrOf<|setArr st3<|mirror (arrOf st3) (lo+m - (q+1)) (lo+m)<|(lo+m - (lo+m - (q+1))) / 2) lo<|lo+m:=l.of<|Od (by lia) r
    generalize setArr st3 (mirror (arrOf st3) (lo+m - (q+1)) (lo+m) ((lo+m - (lo+m - (q+1))) / 2))=y at D M |-;revert D M;exact rest y
   .intro o rest;rw[_l o];exact rest st3 f l
   intro y D M;have ab:=D.size;refine _y<|uD ?_
   have N:=D.yf (i:=lo) (j:=lo+m) (ai _)<|by lia
   have d2:Up ρ (arrOf<|setArr y<|mirror (arrOf y) lo (lo+m)<|(lo+m - lo) / 2) lo<|lo+m:=λi j t h2 H=>by
    have e:=jw (ρ:=ρ) (xs:=arrOf y) (i:=lo) (j:=lo+m)<|by lia
    show R ρ (mirror _ _ _ _) i<=R ρ (mirror _ _ _ _) j;rw[e,e,_o ⟨t,by lia⟩,_o ⟨by lia,H⟩];exact M _ _ (by lia) (by lia)<|by lia
   generalize setArr y (mirror (arrOf y) lo (lo+m) ((lo+m - lo) / 2))=K at N d2 |-;refine _y<|Ó (χ (I:=λx c i4=>i4=K/\c=(_n,x)/\Up ρ (arrOf K) lo (lo+x)) (Q:=λc i4=>i4=K/\∃k,c=(_n,k)/\1<=k/\k<=g/\Up ρ (arrOf K) lo (lo+k)) ?st3 ?en3 ⟨U,U,d2⟩) ?po3
   case en3 =>
    rintro c i4 ⟨rfl,rfl,a⟩;rw[zor m2] at a |-;exact⟨U,g,U,t,ai _,a⟩
   case st3 =>
    rintro x c i4 C T ⟨rfl,rfl,a⟩;refine _y<|Lx B z N (by lia) (by lia) ?_
    by_cases d:R ρ (arrOf i4) (lo+x)<R ρ (arrOf i4) (lo+x - 1)
    .simp only[d,ļ,ÿ];exact _x ⟨U,x,U,by lia,by lia,a⟩
    .simp only[d,Į,ζ,Ñ];exact _x ⟨U,U,a.snoc λ_=>lh d⟩
   case po3 =>
    rintro c i4 ⟨rfl,k,rfl,p,u,a⟩;exact _x<|h k i4 N p u a
theorem lW{xs:_E _M}{z d:_d}(hz:z<xs.size)(a:d<=z)(k:_d):R ρ (bubble xs z d) k=if k=z - d then R ρ xs z else if z - d<k/\k<=z then R ρ xs (k - 1) else R ρ xs k:=by
 have e:=_aC hz d a k;split
 .rename_i h;rw[_o h] at e;exact Jv e
 .rename_i h;rw[_l h] at e;split
  .rename_i g;rw[_o g] at e;exact Jv e
  .rename_i g;rw[_l g] at e;exact Jv e
theorem dq{xs:_E _M}{z d:_d}(hz:z<xs.size)(a:d<=z)(k:_d)(b:k<z - d):(bubble xs z d)[k]? = xs[k]?:=by
 have e:=_aC hz d a k;rw[_l (by lia),_l<|by lia] at e;exact e
theorem Z3{ok:_d}{st:ι}{Q:_V->ι->Prop}(J:LC prog w A E s S (Lr ρ) κ)(H:∀x∈a0.toList,S x)(F:Bs κ p0 a0 lo st)(t:1<=ok)(D:ok<=n)(L:lo+n<=a0.size)(G:Up ρ (arrOf st) lo<|lo+ok)
  (h:∀i4,Bs κ p0 a0 lo i4->Up ρ (arrOf i4) lo (lo+n)->Q _h i4):wpS (_z prog w) A E s (binarySort' lo n ok) Q st:=by
 rw[binarySort'_eq];refine _y (Ó (χ (I:=λk c i4=>c=(_n,())/\Bs κ p0 a0 lo i4/\Up ρ (arrOf i4) lo (lo+k))
  (Q:=λc i4=>c=(_n,())/\Bs κ p0 a0 lo i4/\Up ρ (arrOf i4) lo (lo+n)) ?sa ?ea ⟨U,F,by rw[Nat.max_eq_left t];exact G⟩) ?pa)
 case pa =>
  rintro c i4 ⟨rfl,d,b⟩;exact _x<|h i4 d b
 case ea =>
  rintro c i4 ⟨e,d,b⟩;rw[show max (max ok 1) n=n by lia] at b;exact⟨e,d,b⟩
 case sa =>
  rintro k c i4 O T ⟨rfl,d,b⟩;have sz:=d.size;refine _y (Ó (χ (I:=λx c a=>a=i4/\∃l r,c=(_n,l,r)/\l<=r/\r<=k/\r - l+x<=k/\(∀i,lo<=i->i<lo+l->R ρ (arrOf i4) i<=R ρ (arrOf i4) (lo+k))/\∀i,lo+r<=i->i<lo+k->R ρ (arrOf i4) (lo+k)<R ρ (arrOf i4) i)
   (Q:=λc a=>a=i4/\∃l r,c=(_n,l,r)/\l<=k/\(∀i,lo<=i->i<lo+l->R ρ (arrOf i4) i<=R ρ (arrOf i4) (lo+k))/\∀i,lo+l<=i->i<lo+k->R ρ (arrOf i4) (lo+k)<R ρ (arrOf i4) i) ?sb ?eb ⟨U,0,k,U,by lia,by lia,by lia,λi _ _=>by lia,λi _ _=>by lia⟩) ?pb)
  case eb =>
   rintro c a ⟨rfl,l,r,rfl,B,u,K,g,m⟩;obtain rfl:l=r:=by lia
   exact⟨U,l,l,U,u,g,m⟩
  case sb =>
   rintro x c a _ N ⟨rfl,l,r,rfl,B,u,K,g,m⟩;dsimp only;by_cases p:l ≥ r
   .rw[_o p];obtain rfl:l=r:=by lia
    exact _x ⟨U,l,l,U,u,g,m⟩
   .rw[_l p];refine _y<|Lx J H d (by lia) (by lia) ?_
    by_cases C:R ρ (arrOf a) (lo+k)<R ρ (arrOf a) (lo+(l+r) / 2)
    .simp only[C,ļ,ÿ];refine _x ⟨U,l,(l+r) / 2,U,by lia,by lia,by lia,g,λi v z=>?_⟩;have:=b (lo+(l+r) / 2) i (by lia) v z;lia
    .simp only[C,Į,ζ,Ñ];refine _x ⟨U,(l+r) / 2+1,r,U,by lia,by lia,by lia,λi v z=>?_,m⟩;have:=b i (lo+(l+r) / 2) v (by lia)<|by lia
     lia
  case pb =>
   rintro c a ⟨rfl,l,r,rfl,B,g,m⟩;show wpS _ _ _ _ (do moveDown' (lo+k) (lo+l);pure (Ý (_n,()))) _ _;rw[moveDown'_eq];have f:lo+k<(arrOf a).size:=by lia
   refine _y<|ì<|_x ⟨U,d.set (bubble_perm _ _ _) λi y=>dq f (by lia) i<|by lia,λi j t P M=>?_⟩
   show R ρ (bubble (arrOf a) (lo+k)<|lo+k - (lo+l)) i<=R ρ (bubble (arrOf a) (lo+k)<|lo+k - (lo+l)) j;rw[lW f (by lia),lW f<|by lia,show lo+k - (lo+k - (lo+l))=lo+l by lia];by_cases y:i=lo+l
   .rw[_o y];by_cases o:j=lo+l
    .rw[_o o];exact ai _
    .rw[_l o,_o<|by lia];exact fh<|m _ (by lia)<|by lia
   .rw[_l y];by_cases q:lo+l<i/\i<=lo+k
    .rw[_o q,_l<|by lia,_o<|by lia];exact b _ _ (by lia) (by lia)<|by lia
    .rw[_l q];by_cases o:j=lo+l
     .rw[_o o];exact g _ t<|by lia
     .rw[_l o];split
      .exact b _ _ t (by lia)<|by lia
      .exact b _ _ t (by lia)<|by lia
end
end Sm
end PartSortN
section PartSortO
set_option maxHeartbeats 800000
namespace Sm
open PySem PyProof.Rows
local macro_rules | `(tactic| delta mergeAtOpen)=>`(tactic| delta $(Lean.mkCIdent (Lean.mkPrivateNameCore `PySem.Builtin.List.W1All `PySem.Builtin.mergeAt)))
section
variable{w:_O}{E:vSP}{ρ:_M->_d}{S:_M->Prop}{κ:â}
theorem iy{σ:Type}{M:xB}{v:σ}{Q:PUnit->σ->Prop}{st:σ}(h:Q ⟨⟩ v):wpS M A E s (set v:E9 σ ww PUnit) Q st:=by
 unfold wpS;show wpAny M A ((MonadStateOf.set v:E9 σ ww PUnit).run st) _ E s;rw[StateT.run_set];exact _k ⟨U,h⟩
theorem R8:∀(r:_b _M)(k n:_d)(a:_E _M),n+k+r.length<=a.size->((r.zipIdx k).foldl (λa (p:_M×_d)=>a.setIfInBounds (n+p.2) p.1) a).toList=a.toList.take (n+k)++r++a.toList.drop (n+k+r.length)
 |[],k,n,a,_=>by simp
 |x::r,k,n,a,h=>by
  rw[zdl] at h;rw[Ŭ,mI,R8 r (k+1) n _<|by rw[Array.size_setIfInBounds];lia,c_];have l:=_I (xs:=a);rw[show n+(k+1)=n+k+1 by lia,ť<|by rw[List.length_set];lia,List.getElem_set_self,List.take_set_of_le<|Τ _,List.drop_set_of_lt<|by lia,Ë,show n+k+1+r.length=n+k+(r.length+1) by lia];simp
theorem JC{a:_E _M}{x:_M}(h:x∈(a.extract i j).toList):∃t,i<=t/\t<j/\a[t]? = _a x:=by
 obtain⟨k,b⟩:=iO.mp h;rw[JL,nE] at b;rw[nN] at b;split at b
 .exact⟨i+k,by lia,by assumption,by rw[<-_w];exact b⟩
 .cases b
theorem RQ{a:_E _M}{k:_d}{x:_M}(h:(a.extract i j)[k]? = _a x):a[i+k]? = _a x/\i+k<j:=by
 rw[<-_w,JL,nE,nN] at h;split at h
 .exact⟨by rw[<-_w];exact h,by assumption⟩
 .cases h
theorem JF{a:_E _M}(d:Up ρ a i j):Cw (Lr ρ) (a.extract i j).toList:=by
 refine eS.mpr λp q e c g=>?_;have f:=RQ (a:=a) (i:=i) (j:=j) (k:=p)<|by rw[<-_w];exact af e
 have b:=RQ (a:=a) (i:=i) (j:=j) (k:=q)<|by rw[<-_w];exact af c
 have:=d (i+p) (i+q) (by lia) (by lia) b.2;rw[JV f.1,JV b.1] at this;exact _L<|by lia
theorem Rz{α:Type}{x y z:α}{r:_b α}:∀l:_b α,((l++x::y::r).set l.length z).eraseIdx (l.length+1)=l++z::r
 |[]=>rfl
 |a::l=>congrArg (a :: ·)<|Rz l
theorem Tg{l r:_b (_d×_d×_d)}{c d pw a p qw:_d}{st:ι}{Q:_V->ι->Prop}(hL:LC prog w A E s S (Lr ρ) κ)(hS:∀x∈(arrOf st).toList,S x)(N:kindOf st=κ)(hf:failedOf st=_n)
  (hp:pendingOf st=(l++(c,d,pw)::(a,p,qw)::r).toArray)(e0:a=c+d)(B6:1<=d)(ap:1<=p)(hz:a+p<=(arrOf st).size)(H:Up ρ (arrOf st) c a)(G:Up ρ (arrOf st) a<|a+p)
  (h:∀xs g,xs.Perm (arrOf st)->(∀i,i<c \/ a+p<=i->xs[i]? = (arrOf st)[i]?)->Up ρ xs c (a+p)->Q _h (SortSt.mk' κ xs (l++(c,d+p,pw)::r).toArray g _n)):wpS (_z prog w) A E s (mergeAt' l.length) Q st:=by
 delta mergeAt';delta mergeAtOpen;dsimp only[JB,Ii,RP,Ql];refine _y<|Ļ ?_
 have g1:(pendingOf st)[l.length]? = _a (c,d,pw):=by rw[hp];simp
 have g2:(pendingOf st)[l.length+1]? = _a (a,p,qw):=by rw[hp];simp
 rw[g1,g2];dsimp only;refine _y<|iy ?_
 have ep:((pendingOf st).setIfInBounds l.length (c,d+p,pw)).eraseIdxIfInBounds (l.length+1)=(l++(c,d+p,pw)::r).toArray:=by
  rw[hp];apply ē.mp;have hl:l.length+1<((l++(c,d,pw)::(a,p,qw)::r).toArray.setIfInBounds l.length (c,d+p,pw)).size:=by simp
  unfold Array.eraseIdxIfInBounds;rw[dif_pos hl,Array.toList_eraseIdx,c_];exact Rz l
 rw[ep];have v:∀(i:_d) x,(arrOf st)[i]? = _a x->S x:=λi x e=>hS x<|am<|by rw[_w];exact e
 obtain⟨xb,rq⟩:∃x,(arrOf st)[a]? = _a x:=⟨_,_u<|by lia⟩;have rb:=JV (ρ:=ρ) rq;rw[ã,rq];refine _y<|_x<|_y<|Jj (arr:=arrOf st) (b:=λi=>!decide (ρ xb<R ρ (arrOf st) (c+i))) hL N (by lia) (by lia) v (v _ _ rq) ?_ ?_ ?_
 .intro i x F f;rw[JV f];rfl
 .intro i j I J;have:=H (c+i) (c+j) (by lia) (by lia)<|by lia
  simp;lia
 intro k WA kt kf;have V:∀i,c<=i->i<c+k->R ρ (arrOf st) i<=ρ xb:=λi n o=>by
  have:=kt (i - c)<|by lia
  rw[show c+(i - c)=i by lia] at this;simpa using this
 have aa:∀i,c+k<=i->i<a->ρ xb<R ρ (arrOf st) i:=λi n o=>by
  have:=kf (i - c) (by lia)<|by lia
  rw[show c+(i - c)=i by lia] at this;simpa using this
 clear kt kf;dsimp only;by_cases Z:(d - k == 0)=_h
 .rw[_o Z];rw[_H] at Z;have:=h (arrOf st) (gallopOf st) (Ř _) (λ_ _=>rfl) λi j n o B=>by
   by_cases F:i<a
   .by_cases J:j<a
    .exact H i j n o J
    .have a1:=V i n<|by lia
     have a2:=G a j (ai _) (by lia) B;lia
   .exact G i j (by lia) o B
  refine _x ?_;rw[<-N,<-hf] at this;exact this
 rw[_l Z];rw[_H] at Z;obtain⟨xa,rp⟩:∃x,(arrOf st)[c+k+(d - k) - 1]? = _a x:=⟨_,_u<|by lia⟩;have ra:R ρ (arrOf st) (a - 1)=ρ xa:=by rw[show a - 1=c+k+(d - k) - 1 by lia];exact JV rp
 rw[ã,rp];refine _y<|_x<|_y<|Jj (arr:=arrOf st) (b:=λi=>decide (R ρ (arrOf st) (a+i)<ρ xa)) hL N (by lia) (by lia) v (v _ _ rp) ?_ ?_ ?_
 .intro i x F f;rw[JV f];rfl
 .intro i j I J;have:=G (a+i) (a+j) (by lia) (by lia)<|by lia
  simp;lia
 intro m an mt mf;have ab:∀i,a<=i->i<a+m->R ρ (arrOf st) i<ρ xa:=λi n o=>by
  have:=mt (i - a)<|by lia
  rw[show a+(i - a)=i by lia] at this;simpa using this
 have X:∀i,a+m<=i->i<a+p->ρ xa<=R ρ (arrOf st) i:=λi n o=>by
  have:=mf (i - a) (by lia)<|by lia
  rw[show a+(i - a)=i by lia] at this;simpa using this
 clear mt mf;dsimp only;by_cases e2:(m == 0)=_h
 .rw[_o e2];rw[_H] at e2;have:=h (arrOf st) (gallopOf st) (Ř _) (λ_ _=>rfl) λi j n o B=>by
   by_cases F:i<a
   .by_cases J:j<a
    .exact H i j n o J
    .have a1:=H i (a - 1) n (by lia)<|by lia
     have a2:=X j (by lia) B;lia
   .exact G i j (by lia) o B
  refine _x ?_;rw[<-N,<-hf] at this;exact this
 rw[_l e2];rw[_H] at e2;have W:Up ρ (arrOf st) (c+k) a:=λi j n o B=>H i j (by lia) o B;have P:Up ρ (arrOf st) a<|a+m:=λi j n o B=>G i j n o<|by lia
 have z1:((arrOf st).extract (c+k) a).size=d - k:=by rw[BO];lia
 have z2:((arrOf st).extract a<|a+m).size=m:=by rw[BO];lia
 have mr:∀M,M=KR ((arrOf st).extract (c+k) a) ((arrOf st).extract a<|a+m) \/ M=Kc ((arrOf st).extract (c+k) a) ((arrOf st).extract a<|a+m)->∀Q:_E _M->ι->Prop,(∀y g,Good (Lr ρ) ((arrOf st).extract (c+k) a).toList ((arrOf st).extract a<|a+m).toList y.toList->Q y (HX (setPending st (l++(c,d+p,pw)::r).toArray) g))->wpS (_z prog w) A E s M Q (setPending st (l++(c,d+p,pw)::r).toArray):=by
  intro M hM Q q;have s1:∀x∈((arrOf st).extract (c+k) a).toList,S x:=λx f=>by
   obtain⟨t,_,_,e⟩:=JC f;exact v t x e
  have s2:∀x∈((arrOf st).extract a<|a+m).toList,S x:=λx f=>by
   obtain⟨t,_,_,e⟩:=JC f;exact v t x e
  have q1:∀x∈((arrOf st).extract (c+k) a).toList,∀y,((arrOf st).extract a<|a+m)[0]? = _a y->Lr ρ x y=false:=λx f y hy=>by
   obtain⟨t,C,D,e⟩:=JC f;have Y:=(RQ hy).1;rw[zp,rq] at Y
   cases Y;have:=aa t C D;rw[JV e] at this;exact _L<|by lia
  have q2:∀x,((arrOf st).extract (c+k) a)[((arrOf st).extract (c+k) a).size - 1]? = _a x->∀y∈((arrOf st).extract a<|a+m).toList,Lr ρ x y=false:=λx f y hy=>by
   obtain⟨t,C,D,e⟩:=JC hy;have Y:=(RQ f).1;rw[z1,show c+k+(d - k - 1)=c+k+(d - k) - 1 by lia,rp] at Y
   cases Y;have:=ab t C D;rw[JV e] at this;exact _L<|by lia
  rcases hM with rfl | rfl
  .exact TJ cT hL N (by lia) (by lia) s1 s2 (JF W) (JF P) q1 q2 q
  .exact Rh cT hL N (by lia) (by lia) s1 s2 (JF W) (JF P) q1 q2 q
 apply two2<|d - k<=m
 .intro hc rest;rw[_o hc];refine _y<|mr _ (.inl U) _ λy g O=>?_
  revert O;exact rest y g
 .intro hc rest;rw[_l hc];exact _y<|mr _ (.inr U) _ rest
 clear mr;intro y g O;refine _y<|ì<|_y<|Ļ ?_
 have T:y.toList.length=d - k+m:=by rw[O.1.length_eq,av,_I,_I,z1,z2]
 have pb:=R8 y.toList 0 (c+k) (arrOf st)<|by rw[T];lia
 rw[T,zp] at pb;have lT:=_I (xs:=arrOf st);have eT:(arrOf st).toList=(arrOf st).toList.take (c+k)++(((arrOf st).extract (c+k) a).toList++((arrOf st).extract a<|a+m).toList)++(arrOf st).toList.drop (c+k+(d - k+m)):=by
  have d1:((arrOf st).toList.take a).drop (c+k)++((arrOf st).toList.take<|a+m).drop a=((arrOf st).toList.drop<|c+k).take (d - k+m):=by
   rw[rh,rh,show a+m - a=m by lia,show a - (c+k)=d - k by lia,List.take_add,OX,show c+k+(d - k)=a by lia]
  have d2:(arrOf st).toList.drop (c+k+(d - k+m))=((arrOf st).toList.drop<|c+k).drop (d - k+m):=by rw[OX]
  rw[JL,JL,d1,d2,ed,eR,eR]
 have f:∀xs:_E _M,xs.toList=(arrOf st).toList.take (c+k)++y.toList++(arrOf st).toList.drop (c+k+(d - k+m))->Q _h (SortSt.mk' κ xs (l++(c,d+p,pw)::r).toArray g _n):=λxs ex=>by
  have lk:((arrOf st).toList.take<|c+k).length=c+k:=by rw[cE,lT];lia
  have u:∀i,i<c+k \/ a+m<=i->xs[i]? = (arrOf st)[i]?:=λi F=>by
   rw[<-_w,<-_w,ex];rcases F with F | F
   .rw[ed,ce<|by lia,nN,_o F]
   .rw[ci (by rw[av,lk,T];lia),av,lk,T,nE];congr 1;lia
  have K:∀i,c+k<=i->i<a+m->∃x,xs[i]? = _a x/\y.toList[i - (c+k)]? = _a x:=λi n o=>by
   have e:xs[i]? = y.toList[i - (c+k)]?:=by
    rw[<-_w,ex,ce<|by rw[av,lk,T];lia,ci<|by lia,lk]
   have hl:i - (c+k)<y.toList.length:=by lia
   exact⟨_,e.trans<|af hl,af hl⟩
  have val:∀x∈y.toList,(∃t,c+k<=t/\t<a/\R ρ (arrOf st) t=ρ x) \/ ∃t,a<=t/\t<a+m/\R ρ (arrOf st) t=ρ x:=λx f=>by
   rcases aE.mp (O.1.mem_iff.mp f) with f | f
   .obtain⟨t,C,D,e⟩:=JC f;exact .inl ⟨t,C,D,JV e⟩
   .obtain⟨t,C,D,e⟩:=JC f;exact .inr ⟨t,C,D,JV e⟩
  refine h xs g ?_ (λi F=>u i<|by lia) λi j n o B=>?_
  .refine Ì.mpr ?_;have pp:=((O.1.append_left<|(arrOf st).toList.take<|c+k).append_right<|(arrOf st).toList.drop<|c+k+(d - k+m));rw[<-eT,<-ex] at pp;exact pp
  .by_cases F:i<c+k
   .rw[Jv (u i<|.inl F)];have a1:=V i n F;by_cases J:j<c+k
    .rw[Jv (u j<|.inl J)];exact H i j n o<|by lia
    .by_cases L:j<a+m
     .obtain⟨x,LS,LG⟩:=K j (by lia) L;rw[JV LS];rcases val x (am LG) with⟨t,C,D,t3⟩ | ⟨t,C,D,t3⟩
      .have:=H i t n (by lia) D;lia
      .have:=G a t (ai _) C<|by lia
       lia
     .rw[Jv (u j<|.inr<|by lia)];have:=G a j (ai _) (by lia) B;lia
   .by_cases ac:i<a+m
    .obtain⟨x,LS,LG⟩:=K i (by lia) ac;rw[JV LS];by_cases L:j<a+m
     .obtain⟨z,NN,X'⟩:=K j (by lia) L;rw[JV NN];rcases kR i j with I | I
      .have:=Ô<|O.2.at (show i - (c+k)<j - (c+k) by lia) LG X'
       lia
      .obtain rfl:i=j:=by lia
       rw[LS] at NN;cases NN;exact ai _
     .rw[Jv (u j<|.inr<|by lia)];rcases val x (am LG) with⟨t,C,D,t3⟩ | ⟨t,C,D,t3⟩
      .have a2:=H t (a - 1) (by lia) (by lia)<|by lia
       have a3:=X j (by lia) B;lia
      .have:=G t j C (by lia) B;lia
    .rw[Jv (u i<|.inr<|by lia),Jv<|u j<|.inr<|by lia];exact G i j (by lia) o B
 have fin:=f _ pb;refine _x ?_;have en:(failedOf st).isNone=true:=by rw[hf];rfl
 show Q (failedOf st).isNone _;rw[en];rw[<-N,<-hf] at fin;exact fin
end
end Sm
end PartSortO
section PartSortP
set_option maxHeartbeats 800000
namespace Sm
open PySem PyProof.Rows
section
variable{w:_O}{E:vSP}{ρ:_M->_d}{S:_M->Prop}{κ:â}
def JR(ρ:_M->_d)(xs:_E _M):_d->_b (_d×_d×_d)->_d->Prop
 |a,[],b=>a=b
 |a,(p,n,_)::r,b=>p=a/\1<=n/\Up ρ xs a (a+n)/\JR ρ xs (a+n) r b
theorem JR.le{xs:_E _M}:∀{a b:_d}(ps:_b<|_d × _d × _d),JR ρ xs a ps b->a+ps.length<=b
 |a,b,[],h=>ke h
 |a,b,(p,n,q)::r,h=>by
  have:=JR.le r h.2.2.2;have:=h.2.1;rw[zdl];lia
theorem JR.congr{xs ys:_E _M}:∀{a b:_d}(ps:_b<|_d × _d × _d),(∀i,a<=i->i<b->ys[i]? = xs[i]?)->JR ρ xs a ps b->JR ρ ys a ps b
 |a,b,[],_,h=>h
 |a,b,(p,n,q)::r,e,h=>by
  have l:=JR.le r h.2.2.2;refine⟨h.1,h.2.1,λi j d c f=>?_,JR.congr r (λi d c=>e i (by lia) c) h.2.2.2⟩;rw[Jv (e i d<|by lia),Jv<|e j (by lia)<|by lia];exact h.2.2.1 i j d c f
theorem JR.split{xs:_E _M}:∀{a b:_d}(l r:_b<|_d × _d × _d),JR ρ xs a (l++r) b->∃c,JR ρ xs a l c/\JR ρ xs c r b
 |a,b,[],r,h=>⟨a,U,h⟩
 |a,b,(p,n,q)::l,r,h=>by
  obtain⟨c,e,d⟩:=JR.split l r h.2.2.2;exact⟨c,⟨h.1,h.2.1,h.2.2.1,e⟩,d⟩
theorem JR.join{xs:_E _M}:∀{a b c:_d}(l r:_b<|_d × _d × _d),JR ρ xs a l c->JR ρ xs c r b->JR ρ xs a (l++r) b
 |a,b,c,[],r,h,g=>by cases h;exact g
 |a,b,c,(p,n,q)::l,r,h,g=>⟨h.1,h.2.1,h.2.2.1,JR.join l r h.2.2.2 g⟩
theorem JR.modify{xs:_E _M}{f:_d×_d×_d->_d×_d×_d}(g:∀x,(f x).1=x.1/\(f x).2.1=x.2.1):∀{a b:_d}(ps:_b<|_d × _d × _d)(i:_d),JR ρ xs a ps b->JR ρ xs a (ps.modify i f) b
 |a,b,[],i,h=>by rw[List.modify_nil];exact h
 |a,b,(p,n,q)::r,0,h=>by
  rw[List.modify_zero_cons];have e:=g (p,n,q);revert e;generalize f (p,n,q)=y;obtain⟨j,k,l⟩:=y;rintro⟨d,c⟩;have d:j=p:=d;have c:k=n:=c;subst d c;exact h
 |a,b,(p,n,q)::r,i+1,h=>by
  rw[List.modify_succ_cons];exact⟨h.1,h.2.1,h.2.2.1,JR.modify g r i h.2.2.2⟩
structure Gs(ρ:_M->_d)(κ:â)(a0:_E _M)(ps:_b<|_d×_d×_d)(hi:_d)(st:ι):Prop where
 kind:kindOf st=κ
 pend:pendingOf st=ps.toArray
 fail:failedOf st=_n
 perm:(arrOf st).Perm a0
 adj:JR ρ (arrOf st) 0 ps hi
theorem Gs.size{a:_E _M}{ps:_b (_d×_d×_d)}{hi:_d}{st:ι}(h:Gs ρ κ a ps hi st):(arrOf st).size=a.size:=h.perm.size_eq
theorem Gs.push{a:_E _M}{ps:_b (_d×_d×_d)}{lo:_d}{st:ι}(h:Gs ρ κ a ps lo st)(u:Up ρ (arrOf st) lo<|lo+n)(b:1<=n):Gs ρ κ a (ps++[(lo,n,0)]) (lo+n) (setPending st<|(pendingOf st).push (lo,n,0)) :=
 ⟨h.kind,by show (pendingOf st).push _=_;rw[h.pend,List.push_toArray],h.fail,h.perm,JR.join ps _ h.adj ⟨U,b,u,U⟩⟩
theorem Gs.mod{a:_E _M}{ps:_b (_d×_d×_d)}{lo pw:_d}{st:ι}(h:Gs ρ κ a ps lo st):Gs ρ κ a (ps.modify i λx=>(x.1,x.2.1,pw)) lo (setPending st<|(pendingOf st).modify i λx=>(x.1,x.2.1,pw)) :=
 ⟨h.kind,by
  show (pendingOf st).modify i (λx=>(x.1,x.2.1,pw))=_;rw[h.pend];apply ē.mp;rw[Array.toList_modify],h.fail,h.perm,JR.modify (f:=λx:_d×_d×_d=>(x.1,x.2.1,pw)) (λ_=>⟨U,U⟩) ps i h.adj⟩
theorem Nr{b:_E _M}{ps:_b (_d×_d×_d)}{hi:_d}{st:ι}{Q:_V->ι->Prop}(p:LC prog w A E s S (Lr ρ) κ)(o:∀x∈b.toList,S x)(G:Gs ρ κ b ps hi st)(hz:hi<=b.size)(y:i+1<ps.length)
  (h:∀i4 LL,Gs ρ κ b LL hi i4->LL.length+1=ps.length->(∀i,hi<=i->(arrOf i4)[i]? = (arrOf st)[i]?)->Q _h i4):wpS (_z prog w) A E s (mergeAt' i) Q st:=by
 have d:ps=ps.take i++ps.drop i:=(eR ..).symm;have j:(ps.take i).length=i:=by rw[cE];lia
 obtain⟨⟨L,I,pw⟩,t,e⟩:∃x t,ps.drop i=x::t:=by
  cases hd:ps.drop i with
  |nil=>have:=congrArg Ρ hd;rw[gz,mE] at this;lia
  |cons x t=>exact⟨x,t,U⟩
 obtain⟨⟨F,K,J⟩,r,rfl⟩:∃x r,t=x::r:=by
  cases t with
  |nil=>have:=congrArg Ρ e;rw[gz,zdl,mE] at this;lia
  |cons x r=>exact⟨x,r,U⟩
 rw[e] at d;generalize ps.take i=l at d j;subst d j;clear e;obtain⟨c,n,rfl,k,u,rfl,C,z,f⟩:=JR.split l _ G.adj;have D:=JR.le r f;refine Tg p (λx q=>o x<|(Ì.mp G.perm).mem_iff.mp q) G.kind G.fail G.pend U k C (by rw[G.size];lia) u z λH g m a up=>?_;refine h _ _ ⟨U,U,U,m.trans G.perm,?_⟩ ?_ λi hi=>a i<|.inr<|by lia
 .refine JR.join l _ (JR.congr l (λi _ v=>a i<|.inl v) n) ⟨U,by lia,by rw[<-YV];exact up,?_⟩;rw[<-YV];exact JR.congr r (λi B _=>a i<|.inr B) f
 .rw[av,av];rfl
theorem S5{a:_E _M}{st:ι}{Q:LU->ι->Prop}(K:LC prog w A E s S (Lr ρ) κ)(P:∀x∈a.toList,S x)(hk:kindOf st=κ)(hp:pendingOf st = #[])(Y:failedOf st=_n)(ha:arrOf st=a)
  (h:∀i4,(arrOf i4).Perm a->failedOf i4=_n->Up ρ (arrOf i4) 0 a.size->Q () i4):wpS (_z prog w) A E s sortRuns' Q st:=by
 rw[sortRuns'_eq];refine _y<|Ļ ?_
 dsimp only;rw[ha];generalize minRun' a.size a.size 0=L;refine _y (Ó (χ (I:=λx c i4=>∃lo ps,c=(_n,lo)/\Gs ρ κ a ps lo i4/\x<=lo/\lo<=a.size)
  (Q:=λc i4=>∃ps,c=(_n,a.size)/\Gs ρ κ a ps a.size i4) ?sa ?ea ⟨0,[],U,⟨hk,hp,Y,by rw[ha],U⟩,ai _,cK _⟩) ?pa)
 case ea =>
  rintro c i4 ⟨lo,ps,rfl,G,f,D⟩;obtain rfl:lo=a.size:=by lia
  exact⟨ps,U,G⟩
 case pa =>
  rintro c i4 ⟨ps,rfl,G⟩;dsimp only;have l0:=JR.le ps G.adj;refine _y<|Ó (χ (I:=λx c i4=>∃ps,c=(_n,())/\Gs ρ κ a ps a.size i4/\(ps.length<=1 \/ ps.length+x<=a.size)) (Q:=λc i4=>∃ps,c=(_n,())/\Gs ρ κ a ps a.size i4/\ps.length<=1) ?sb ?eb ⟨ps,U,G,.inr<|by lia⟩) ?pb
  case eb =>
   rintro c i4 ⟨ps,rfl,G,f⟩;exact⟨ps,U,G,by lia⟩
  case pb =>
   rintro c i4 ⟨ps,rfl,G,f⟩;refine _x<|h i4 G.perm G.fail ?_
   have ad:=G.adj
   match ps,f,ad with
   |[],_,ad=>exact λi j f D h3=>by have:0=a.size:=ad;lia
   |[(p,n,q)],_,ad =>
    obtain⟨rfl,v,u,e⟩:=ad;have e:0+n=a.size:=e;rw[e] at u;exact u
   |_::_::_,f,_=>simp at f
  case sb =>
   rintro x c i4 _ V ⟨ps,rfl,G,f⟩;refine _y<|Ļ ?_
   have sz:(pendingOf i4).size=ps.length:=by rw[G.pend,bp]
   rw[sz];by_cases r:ps.length<=1
   .rw[_o r];exact _x ⟨ps,U,G,r⟩
   .rw[_l r];refine _y<|Nr K P G (ai _) ?ix λg LL G' l' _=>?_
    case ix =>
     generalize Option.any _ _=b
     cases b
     .rw[_l et];lia
     .rw[_o U];lia
    exact _x ⟨LL,U,G',by lia⟩
 case sa =>
  rintro x c i4 _ V ⟨lo,ps,rfl,G,f,D⟩;dsimp only;by_cases r:lo ≥ a.size
  .rw[_o r];obtain rfl:lo=a.size:=by lia
   exact _x ⟨ps,U,G⟩
  rw[_l r];have B0:Bs κ ps.toArray (arrOf i4) lo i4:=⟨G.kind,G.pend,G.fail,Ř _,λ_ _=>rfl⟩;have sz:=G.size;have C:∀x∈(arrOf i4).toList,S x:=λx V=>P x<|(Ì.mp G.perm).mem_iff.mp V
  refine _y<|Vi K C B0 (by lia) (by lia) λm g T O m2 M=>?_
  dsimp only;have nx:∀n d,Bs κ ps.toArray (arrOf i4) lo d->Up ρ (arrOf d) lo (lo+n)->Gs ρ κ a ps lo d:=λn d B u=>⟨B.kind,B.pend,B.fail,B.perm.trans G.perm,JR.congr ps (λi _ D=>B.pre i D) G.adj⟩;by_cases N:m<L
  case' pos =>
   rw[_o N];refine _y<|ś<|Ç ⟨U,?_⟩
   refine _y<|Z3 K C T O (by lia) (by lia) M λd B2 k=>?_
   simp only[UO,ζ,Ñ];have v:1<=min (a.size - lo) L:=by lia
   have F:lo+min (a.size - lo) L<=a.size:=by lia
   have J:=nx _ d B2 k;generalize min (a.size - lo) L=n at k v F |-
  case' neg =>
   rw[_l N];have J:=nx _ g T M;have k:=M;have v:=O;have F:lo+m<=a.size:=by lia
   clear M O m2 N;generalize m=n at k v F |-;clear T;generalize g=d at J k |-
  all_goals
   refine _y<|Ļ ?_
   generalize (pendingOf d).back? = bk
   match bk with
   |none=>exact _y<|ì<|_x ⟨_,_,U,J.push k v,by lia,F⟩
   |some (s1,X,q1) =>
    dsimp only;generalize power' a.size (2 * s1+X) (2 * s1+X+X+n) a.size=pw;refine _y<|Ó (χ (I:=λx c i4=>c=(_n,())/\∃ps,Gs ρ κ a ps lo i4/\Up ρ (arrOf i4) lo (lo+n)) (Q:=λc i4=>c=(_n,())/\∃ps,Gs ρ κ a ps lo i4/\Up ρ (arrOf i4) lo (lo+n)) ?sc ?ec ⟨U,ps,J,k⟩) ?pc
    case ec=>exact λc i4 h=>h
    case pc =>
     rintro c W ⟨rfl,l,o,z⟩;exact _y<|ì<|_y<|ì<|_x ⟨_,_,U,Gs.push o.mod z v,by lia,F⟩
    case sc =>
     rintro t c W _ ht ⟨rfl,l,o,z⟩;refine _y<|Ļ ?_
     have Z:(pendingOf W).size=l.length:=by rw[o.pend,bp]
     rw[Z];by_cases hl:l.length > 1
     .rw[_o hl];obtain⟨⟨f1,f2,HC⟩,Y⟩:∃y,(pendingOf W)[l.length - 2]? = _a y:=⟨_,_u<|by lia⟩;rw[Y];dsimp only;by_cases ho:HC<=pw
      .rw[_o ho];exact _x ⟨U,l,o,z⟩
      .rw[_l ho];refine _y<|Nr K P o D (by lia) λAH R G5 l5 H=>?_
       refine _x ⟨U,R,G5,λi j i1 i2 i3=>?_⟩;rw[Jv (H i i1),Jv<|H j<|by lia];exact z i j i1 i2 i3
     .rw[_l hl];exact _x ⟨U,l,o,z⟩
end
end Sm
end PartSortP
section PartSortX
set_option maxHeartbeats 800000
namespace Sx
open PySem PySem.W PySem.Calls PyProof.Rows Sm Sq
section
variable{β:Type}{blt:β->β->_V}
structure Or(blt:β->β->_V):Prop where
 irr:∀a,blt a a=_r
 asy:∀a b,blt a b=_h->blt b a=_r
 tr:∀a b c,blt b a=_r->blt c b=_r->blt c a=_r
theorem Vy{p q:β->_V}(h:∀z,p z=_h->q z=_h):∀l:_b β,l.countP p<=l.countP q
 |[]=>ai _
 |z::l=>by
  have:=Vy h l;rw[lP,lP]
  cases hp:p z with
  |false=>simp;lia
  |true=>rw[h z hp];simp;lia
theorem bQ{p q:β->_V}(h:∀z,p z=_h->q z=_h){a:β}(c:q a=_h)(d:p a=_r):∀l:_b β,a∈l->l.countP p<l.countP q
 |z::l,b=>by
  rw[lP,lP];rcases bq.mp b with rfl | b
  .have:=Vy h l;rw[c,d];simp;lia
  .have:=bQ h c d l b
   cases hp:p z with
   |false=>simp;lia
   |true=>rw[h z hp];simp;lia
def rk(blt:β->β->_V)(ts:_b β)(c:β):Nat:=ts.countP λz=>blt z c
theorem j7(O:Or blt){ts:_b β}{a b:β}(d:a∈ts):decide (rk blt ts a<rk blt ts b)=blt a b:=by
 cases h:blt a b with
 |true =>
  refine _v<|bQ (p:=λz=>blt z a) (q:=λz=>blt z b) (λz c=>?_) h (O.irr a) ts d
  cases hq:blt z b with
  |true=>rfl
  |false=>rw[O.tr a b z (O.asy a b h) hq] at c;cases c
 |false =>
  refine _L<|Nat.not_lt.mpr<|Vy (p:=λz=>blt z b) (q:=λz=>blt z a) (λz c=>?_) ts
  cases hq:blt z a with
  |true=>rfl
  |false=>rw[O.tr b a z h hq] at c;cases c
theorem Sy{α γ:Type}{f:α->γ}:∀(l:_b γ)(r:_b α),l.Perm (r.map f)->∃ix:_b α,ix.Perm r/\l=ix.map f
 |[],r,h=>by
  have:=h.symm.eq_nil;rw[mT] at this;subst this;exact⟨[],.refl _,U⟩
 |x::l,r,h=>by
  obtain⟨i,c,rfl⟩:=ay.mp<|h.mem_iff.mp<|be ..;obtain⟨a,b,rfl⟩:=List.append_of_mem c;have d:(f i::l).Perm<|f i::(a++b).map f:=h.trans<|by rw[<-df];exact J8.map f
  obtain⟨ix,p,e⟩:=Sy l (a++b)<|List.perm_cons _ |>.mp d;exact⟨i::ix,(p.cons i).trans J8.symm,by rw[e];rfl⟩
end
section
variable{w:_O}{E:vSP}{β:Type}{blt:β->β->_V}{d:β}
theorem Wo{κ:â}{k vs:_b _j}{ts:_b β}{Q:LU×ι->_C->Prop}(O:Or blt)(K:k.length=vs.length)(hl:k.length=ts.length)(fn:∀(i j:_d) v a b,k[i]? = _a v->k[j]? = _a v->ts[i]? = _a a->ts[j]? = _a b->a=b)
  (FB:∀(i j:_d) u v a b,k[i]? = _a u->k[j]? = _a v->ts[i]? = _a a->ts[j]? = _a b->∀C:_V->_C->Prop,C (blt a b) s->wpAny (_z prog w) A (keyLt' κ u v) C (λ_ _=>Χ) s)
  (h:∀(st:ι)(f:_b _d),(arrOf st).map (·.2)=(f.map λi=>vs.getD i _J).toArray->failedOf st=_n->f.Perm (_B vs.length)->f.Pairwise (λi j=>blt (ts.getD j d) (ts.getD i d)=_r)->Q ((),st) s) :
  wpAny (_z prog w) A (sortRuns'.run<|SortSt.mk' κ (k.toArray.zip vs.toArray) #[] 7 _n) Q E s:=by
 have H:∀v,(∃i:_d,k[i]? = _a v)->∃c,∀(i:_d) a,k[i]? = _a v->ts[i]? = _a a->c=a:=λv ⟨i,m⟩=>by
  have li:=(ag.mp m).1;exact⟨ts[i]'(by lia),λj a n D=>fn i j v _ _ m n (af<|by lia) D⟩
 obtain⟨val,t⟩:∃val:_j->β,∀(i:_d) v a,k[i]? = _a v->ts[i]? = _a a->val v=a:=by
  refine⟨λv=>by
   classical
   exact if g:∃i:_d,k[i]? = _a v then _bw (H v g) else d,λi v a G D=>?_⟩
  dsimp only;rw[dif_pos ⟨i,G⟩];exact _bx (H v ⟨i,G⟩) i a G D
 have za:∀i:_d,(k.toArray.zip vs.toArray).toList[i]? = (k.zip vs)[i]?:=λi=>by rw[Ĕ]
 have Z:LC prog w A E s (λx=>∃i:_d,k[i]? = _a x.1) (Lr λx=>rk blt ts<|val x.1) κ:=by
  rintro x y st Q ⟨i,m⟩ ⟨j,n⟩ kd q;have li:=(ag.mp m).1;have lj:=(ag.mp n).1;have J:ts[i]? = _a (ts[i]'(by lia)):=af<|by lia
  have L:ts[j]? = _a (ts[j]'(by lia)):=af<|by lia
  rw[lt'_eq];refine _y<|Ļ ?_
  rw[kd];refine _y<|ś<|ð<|ν (FB i j _ _ _ _ m n J L (λb B=>B=s/\b=blt (ts[i]'(by lia)) (ts[j]'(by lia))) ⟨U,U⟩) (λb B z=>?_) λ_ _ z=>z.elim
  obtain⟨rfl,rfl⟩:=z;refine⟨U,_x ?_⟩;have e:=j7 O (b:=ts[j]'(by lia)) (show ts[i]'(by lia)∈ts from List.getElem_mem _);rw[<-e,<-t i _ _ m J,<-t j _ _ n L];exact q
 have hS:∀x∈(k.toArray.zip vs.toArray).toList,∃i:_d,k[i]? = _a x.1:=λx N=>by
  rw[Ĕ] at N;have:=(Ľ (show (x.1,x.2)∈k.zip vs from N)).1;exact iO.mp this
 refine ν (S5 (Q:=λ_ l=>∃f:_b _d,(arrOf l).map (·.2)=(f.map λi=>vs.getD i _J).toArray/\failedOf l=_n/\f.Perm (_B vs.length)/\f.Pairwise (λi j=>blt (ts.getD j d) (ts.getD i d)=_r)) Z hS U U U U λl X ff up=>?_) ?_ λ_ _ z=>z
 .have W:(k.toArray.zip vs.toArray).toList=(_B vs.length).map λi=>(k.getD i _J,vs.getD i _J):=by
   rw[Ĕ];refine ô (by simp[K]) λi P h2=>?_;have Y:i<k.length:=by simp at P;lia
   have T:i<vs.length:=by simp at P;lia
   simp[_K,Y,T]
  have S:=Ì.mp X;rw[W] at S;obtain⟨f,r,I⟩:=Sy _ _ S;refine⟨f,?_,ff,r,?_⟩
  .apply ē.mp;rw[ũ,I,bi];rfl
  .rw[eS];intro p q o M ZO;have zx:(k.toArray.zip vs.toArray).size=vs.length:=by rw[N3,bp,bp,K,Nat.min_self]
   have lx:f.length=vs.length:=by rw[r.length_eq,dQ]
   have u:=up p q (cK _) (by lia)<|by lia
   have g:∀p (o:p<f.length),R (λx=>rk blt ts<|val x.1) (arrOf l) p=rk blt ts (ts.getD f[p] d):=λp o=>by
    have F:(arrOf l)[p]? = _a (k.getD f[p] _J,vs.getD f[p] _J):=by
     rw[<-_w,I,ar,af o];rfl
    have V:f[p]<vs.length:=dL.mp<|r.mem_iff.mp<|de o
    have t1:ts[f[p]]? = _a (ts.getD f[p] d):=by
     have:f[p]<ts.length:=by lia
     simp[_K,this]
    have k1:k[f[p]]? = _a (k.getD f[p] _J):=by
     have:f[p]<k.length:=by lia
     simp[_K,this]
    rw[JV F];dsimp only;rw[t _ _ _ k1 t1]
   rw[g p o,g q M] at u;have V:f[q]<vs.length:=dL.mp<|r.mem_iff.mp<|de M
   have tm:ts.getD f[q] d∈ts:=by
    have:f[q]<ts.length:=by lia
    simp[_K,this]
   rw[<-j7 O tm];exact _L<|by lia
 .rintro⟨⟨⟩,l⟩ B ⟨rfl,f,F,e2,e3,e4⟩;exact h l f F e2 e3 e4
end
end Sx
end PartSortX
section PartSortY
set_option maxHeartbeats 800000
namespace Sx
open PySem PySem.W PySem.Calls PyProof.Rows Sm Sq
section
variable{w:_O}{E:vSP}{β:Type}{blt:β->β->_V}{d:β}
theorem Uu{vs:_b _j}{ts:_b β}{κ:â}{P:PySem.Fin->_C->Prop}(O:Or blt)(r:s.heap.get? a=_a (seqObj "list" vs.toArray n))(D:vs.length<=sizeLine)(N:vs.length=ts.length)
  (fn:∀(i j:_d) v a b,vs[i]? = _a v->vs[j]? = _a v->ts[i]? = _a a->ts[j]? = _a b->a=b)
  (B:∀h6:Θ,(∀b o,b≠a->s.heap.get? b=_a o->h6.get? b=_a o)->2<=vs.length->∀Q:â->_C->Prop,Q κ (ñ h6 s.gens s.drawn s.toks s.os)->wpAny (_z prog w) A (keyKind' vs.toArray) Q E (ñ h6 s.gens s.drawn s.toks s.os))
  (z:∀h6:Θ,(∀b o,b≠a->s.heap.get? b=_a o->h6.get? b=_a o)->∀(i j:_d) u v a b,vs[i]? = _a u->vs[j]? = _a v->ts[i]? = _a a->ts[j]? = _a b->∀C:_V->_C->Prop,C (blt a b) (ñ h6 s.gens s.drawn s.toks s.os)->wpAny (_z prog w) A (keyLt' κ u v) C (λ_ _=>Χ) (ñ h6 s.gens s.drawn s.toks s.os))
  (h:∀ix:_b _d,ix.Perm (_B vs.length)->ix.Pairwise (λi j=>blt (ts.getD j d) (ts.getD i d)=_r)->P (.done<|.ret .none) { s with heap:=sortedHeap s.heap a vs (ix.map λi=>vs.getD i _J).toArray }) :
  wpAny (_z prog w) A (É.«list.sort» ⟨[.ref a],[]⟩) P E s:=by
 obtain⟨m,t⟩:∃m,(s.heap.update a (_Y λ_=>(#[]:_E _j))).get? a=_a (seqObj "list" #[] m):=⟨_,ō r λ_=>#[]⟩;have f:∀b o,b≠a->s.heap.get? b=_a o->(((s.heap.update a<|_Y λ_=>(#[]:_E _j)).push<|seqObj "tuple" vs.toArray 0).push<|seqObj "list" #[] 0).get? b=_a o:=λb o G e=>_e _<|_e _<|(_F _ _<|_T G).trans e
 have l:(((s.heap.update a<|_Y λ_=>(#[]:_E _j)).push<|seqObj "tuple" vs.toArray 0).push<|seqObj "list" #[] 0).get? a=_a (seqObj "list" #[] m):=_e _<|_e _ t
 have F:=B _ f;have H:=z _ f;clear B z;rw[list_sort_plain];refine _c<|FY r U ?_
 refine _c<|Ĉ r U ?_ (by simpa using D)<|Ε _
 refine _c<|Ŝ t U<|_c<|yA ?_ D
 refine _c<|ģ (π ?_)<|cK _
 show wpAny (_z prog w) A _ P E (ñ (((s.heap.update a<|_Y λ_=>(#[]:_E _j)).push<|seqObj "tuple" vs.toArray 0).push<|seqObj "list" #[] 0) s.gens s.drawn s.toks s.os);dsimp only;by_cases c:vs.toArray.size<2
 .have g:vs.length<2:=by simpa using c
  rw[_o c,_o c];refine _c<|_k (a:=general') ?_
  rw[StateT.run_pure];refine _c<|_k<|_c<|Ŝ l U ?_
  have p:(vs.toArray.zip vs.toArray).map (·.2)=((_B vs.length).map λi=>vs.getD i _J).toArray:=by
   rw[W5];apply ē.mp;rw[ũ,Ĕ];exact Kj<|ai _
  have q:=h (_B vs.length) (Ă _) (by
   rw[eS];intro i j M J I;simp at M J;lia)
  rw[<-p] at q;refine _c<|Ĉ l U ?_ (Ε _)<|by show ((vs.toArray.zip vs.toArray).map<|λx=>x.2).size<=_;rw[Array.size_map,N3,_Z];lia
  simp only[d5,ζ,Ñ];exact _k q
 .have g:2<=vs.length:=by have:¬ vs.length<2:=(by simpa using c);lia
  rw[_l c,_l c];refine _c<|F g _ ?_
  refine _c<|Wo (d:=d) O U N fn H λst ix p L y pw=>?_
  have q:=h ix y pw;have k:(arrOf st).map (λx=>x.2)=(ix.map λi=>vs.getD i _J).toArray:=p;refine _c<|Ŝ l U ?_
  have K:ix.length=vs.length:=by rw[y.length_eq,dQ]
  rw[<-k] at q;refine _c<|Ĉ l U ?_ (Ε _)<|by show ((arrOf st).map<|λx=>x.2).size<=_;rw[k];simp[K];lia
  dsimp only;rw[L];simp only[d5,ζ,Ñ];exact _k q
theorem Tp{vs:_b _j}{ts:_b β}{κ:â}(O:Or blt)(F:s.heap.IsList l vs.toArray)(q:vs.length<=sizeLine)(y:vs.length=ts.length)
  (fn:∀(i j:_d) v a b,vs[i]? = _a v->vs[j]? = _a v->ts[i]? = _a a->ts[j]? = _a b->a=b)
  (G:∀(A:ù)(E:vSP)(f:Θ),(∀b o,s.heap.get? b=_a o->f.get? b=_a o)->2<=vs.length->∀Q:â->_C->Prop,Q κ (ñ f s.gens s.drawn s.toks s.os)->wpAny (_z prog w) A (keyKind' vs.toArray) Q E (ñ f s.gens s.drawn s.toks s.os))
  (x:∀(A:ù)(f:Θ),(∀b o,s.heap.get? b=_a o->f.get? b=_a o)->∀(i j:_d) u v a b,vs[i]? = _a u->vs[j]? = _a v->ts[i]? = _a a->ts[j]? = _a b->∀C:_V->_C->Prop,C (blt a b) (ñ f s.gens s.drawn s.toks s.os)->wpAny (_z prog w) A (keyLt' κ u v) C (λ_ _=>Χ) (ñ f s.gens s.drawn s.toks s.os))
  (h:∀D h' c ix,s.heap.objs.size<=D->(∀b o,s.heap.get? b=_a o->h'.get? b=_a o)->h'.get? D=_a { cls:=.type "list",data:=.seq (Η (λi=>vs.getD i _J) ix).toArray c }->ix.Perm (_B vs.length)->ix.Pairwise (λi j=>blt (ts.getD j d) (ts.getD i d)=_r)->Q (.ref D) { s with heap:=h' }) :
  wpAny (_z prog w) A (call (.builtin "sorted") [.ref l]) Q E s:=by
 refine ī u' f' f_ (GE _) ?_;unfold É.«sorted»;refine _c (m:=checkCount "sorted" 1 1 _)<|_k<|_c<|collect_list F (_c<|ģ ?_ q) q
 have n:∀b o,s.heap.get? b=_a o->((s.heap.push<|seqObj "list" #[] 0).update s.heap.objs.size (_Y (· ++ vs.toArray))).get? b=_a o:=λb o e=>(_F _ _<|gg<|_q e).trans<|_e _ e
 have r:s.heap.objs.size<=((s.heap.push<|seqObj "list" #[] 0).update s.heap.objs.size (_Y (· ++ vs.toArray))).objs.size:=by rw[Ĵ,ŉ];exact kc _
 generalize (s.heap.push (seqObj "list" #[] 0)).update s.heap.objs.size (_Y (· ++ vs.toArray))=g at n r |-;have p:(g.push<|seqObj "list" vs.toArray 0).get? g.objs.size=_a (seqObj "list" vs.toArray 0):=_p _ U;have up:∀f:Θ,(∀b o,b≠g.objs.size->(g.push<|seqObj "list" vs.toArray 0).get? b=_a o->f.get? b=_a o)->∀b o,s.heap.get? b=_a o->f.get? b=_a o:=λf k b o e=>k b o (cf<|ba (_q e) r)<|_e _<|n b o e
 refine _c<|π<|Α ŝ ⟨_,p,U⟩ Ŏ (Uu (d:=d) O p q y fn (λf k=>G _ _ f<|up f k) (λf k=>x _ f<|up f k) λix B pw=>⟨_,U,?_⟩)<|zw _
 obtain⟨c,z⟩:=B1 (out:=(Η (λi=>vs.getD i _J) ix).toArray) p;refine _k ⟨_,U,h g.objs.size _ c ix r (λb o e=>?_) z B pw⟩;have t:=_q<|n b o e
 rw[zz (cf t) (by rw[ŉ];exact gX t)];exact _e _<|n b o e
def yP(a b:_i):Bool:=decide (a<b)
theorem Ve:Or yP:=⟨λa=>_L<|by lia,λa b h=>by have:=_G h;exact _L<|by lia,λa b c d e=>by
 have:=Ô d;have:=Ô e;exact _L<|by lia⟩
theorem M5:∀{vs:_b _j}{ns:_b _i},Υ vs ns->∀(i:_d) v n,vs[i]? = _a v->ns[i]? = _a n->∃t,v=.int n t
 |_,_,.nil,i,v,n,a,_=>by simp at a
 |_,_,.cons m t r,0,v,n,a,b=>by
  simp at a b;subst a b;exact⟨t,U⟩
 |_,_,.cons m t r,i+1,v,n,a,b=>M5 r i v n (by simpa using a)<|by simpa using b
theorem KZ:∀{vs:_b _j}{ns:_b _i},Υ vs ns->vs.length=ns.length
 |_,_,.nil=>rfl
 |_,_,.cons m t r=>congrArg (· + 1)<|KZ r
theorem ints_of:∀{vs:_b _j}{ns:_b _i},vs.length=ns.length->(∀(i:_d) v n,vs[i]? = _a v->ns[i]? = _a n->∃t,v=.int n t)->Υ vs ns
 |[],[],_,_=>.nil
 |[],_::_,h,_=>by simp at h
 |_::_,[],h,_=>by simp at h
 |v::vs,n::ns,h,g=>by
  obtain⟨t,rfl⟩:=g 0 v n U U;exact .cons n t<|ints_of (by simpa using h) λi v m b a=>g (i+1) v m (by simpa using b)<|by simpa using a
theorem Z9{vs:_b _j}(M:s.heap.IsList l vs.toArray)(y:Υ vs ns)(S:vs.length<=sizeLine)
  (h:∀D h' c us ms,s.heap.objs.size<=D->(∀b o,s.heap.get? b=_a o->h'.get? b=_a o)->h'.get? D=_a { cls:=.type "list",data:=.seq (Ŧ us) c }->Υ us ms->ms.Perm ns->ms.Pairwise (· <= ·)->Q (.ref D) { s with heap:=h' }) :
  wpAny (_z prog w) A (call (.builtin "sorted") [.ref l]) Q E s:=by
 have J:=KZ y;have p:=M5 y;refine Tp (blt:=yP) (d:=0) (ts:=ns) (κ:=oneType') Ve M S J (λi j v a b f F G B=>?_) (λA E R k m Q q=>?_) (λA R k i j u v a b F f G B C c=>?_) λD h' c K L P g H pw=>?_
 .obtain⟨t,rfl⟩:=p i v a f G;obtain⟨O,e⟩:=p j _ b F B
  cases e;rfl
 .match vs,y,m with
  |[],_,m=>simp at m
  |[_],_,m=>simp at m
  |v₁::v₂::rest,y,_ =>
   rw[GI y];exact _k q
 .obtain⟨t,rfl⟩:=p i u a F G;obtain⟨O,rfl⟩:=p j v b f B;rw[zA];exact tq c
 .refine h D h' c _ (K.map λi=>ns.getD i 0) L P g (ints_of (by simp) λi v n f r=>?_) ?_ ?_
  .rw[ar] at f r
   cases hi:K[i]? with
   |none=>rw[hi] at f;cases f
   |some z =>
    rw[hi] at f r;have I:z<vs.length:=dL.mp<|H.mem_iff.mp<|am hi
    have x:z<ns.length:=by lia
    have N:vs.getD z _J=vs[z]:=by simp[_K,I]
    have T:ns.getD z 0=ns[z]:=by simp[_K,x]
    simp only[ŭ,Ń] at f r;rw[N] at f;rw[T] at r;exact p z v n (by rw[<-f];exact af I)<|by rw[<-r];exact af x
  .have:(_B vs.length).map (λi=>ns.getD i 0)=ns:=by
    refine ô (by simp[J]) λi V m=>?_;simp[_K,m]
   have q:=H.map<|λi=>ns.getD i 0
   rw[this] at q;exact q
  .rw[ft];exact pw.imp λ{i j} e=>GO.mp<|Ô e
end
end Sx
end PartSortY
section PartSortZ
set_option maxHeartbeats 800000
namespace Sx
open PySem PySem.W PySem.Calls PyProof.Rows Sm Sq
theorem xU:Or Hm:=⟨n_,nF,xJ⟩
theorem xP:Or F_:=⟨oF,pN,vD⟩
theorem _root_.Sq.Lz.fn{v:_j}{x y:T3}(a:Lz h v x)(b:Lz h v y):x=y:=by
 obtain⟨p,o,u,C,A,n,rfl,g,c,d⟩:=a;obtain⟨t,E,j,q,w,m,e,i,z,f⟩:=b
 cases e;rw[g] at i
 cases i;rw[d] at f;obtain⟨k,B,r⟩:=x;obtain⟨l,s,D⟩:=y;simp at f;obtain⟨⟨⟨rfl,_⟩,⟨rfl,_⟩,rfl,_⟩,_⟩:=f;rfl
theorem _root_.Sq.Jk.fn{v:_j}{x y:T2}(a:Jk h v x)(b:Jk h v y):x=y:=by
 obtain⟨p,o,t,z,n,rfl,g,c,d⟩:=a;obtain⟨s,A,j,q,m,e,i,u,f⟩:=b
 cases e;rw[g] at i
 cases i;rw[d] at f;obtain⟨k,w⟩:=x;obtain⟨l,r⟩:=y;simp at f;obtain⟨⟨⟨rfl,_⟩,rfl,_⟩,_⟩:=f;rfl
section
variable{w:_O}{E:vSP}
theorem aY{vs:_b _j}{ts:_b T3}(B:s.heap.IsList l vs.toArray)(r:vs.length=ts.length)(f:∀(i:_d) v t,vs[i]? = _a v->ts[i]? = _a t->Lz s.heap v t)(I:vs.length<=sizeLine)
  (h:∀D h' c ix,s.heap.objs.size<=D->(∀b o,s.heap.get? b=_a o->h'.get? b=_a o)->h'.get? D=_a { cls:=.type "list",data:=.seq (Η (λi=>vs.getD i _J) ix).toArray c }->ix.Perm (_B vs.length)->ix.Pairwise (λi j=>Hm (ts.getD j (0,0,0)) (ts.getD i (0,0,0))=_r)->Q (.ref D) { s with heap:=h' }) :
  wpAny (_z prog w) A (call (.builtin "sorted") [.ref l]) Q E s:=by
 refine Tp (κ:=tuples' _h) (d:=(0,0,0)) xU B I r (λi j v x y a m n g=>(f i v x a n).fn<|f j v y m g) (λA E p k J Q q=>?_) (λA p k i j u v x y m a n g C c=>oO ((f i u x m n).keep λb o e _=>k b o e) ((f j v y a g).keep λb o e _=>k b o e) c) h;obtain⟨fs,G,K,z⟩:=Wg (h:=p) vs ts r λi v t a H=>(f i v t a H).keep λb o e _=>k b o e;refine kat_kind (T:=.type "int") G (by lia) (λv a=>?_) (by decide) ?_
 .obtain⟨i,k,rfl⟩:=z v a;exact .now
 .have F:(Ö "int" != Ö "tuple")=true:=by decide
  rw[F];exact q
theorem vQ{g:_g}{vs f:_b _j}{ts:_b T2}{e q:_d}{P:PySem.Fin->_C->Prop}(B:g≠a)(O:s.heap.get? g=_a (seqObj "list" f.toArray e))(Y:s.heap.get? a=_a (seqObj "list" #[] q))(K:f.length=vs.length)(L:f.length=ts.length)
  (m:∀(i:_d) v t,f[i]? = _a v->ts[i]? = _a t->Jk s.heap v t)(zl:vs.length<=sizeLine)
  (h:∀h' tk c ix,(∀b o,b≠g->b≠a->s.heap.get? b=_a o->h'.get? b=_a o)->h'.get? a=_a (seqObj "list" (Η (λi=>vs.getD i _J) ix).toArray c)->ix.Perm (_B vs.length)->ix.Pairwise (λi j=>F_ (ts.getD j (0,0)) (ts.getD i (0,0))=_r)->P (.done<|.ret .none) { s with heap:=h',toks:=tk }) :
  wpAny (_z prog w) A (ksk_end a _r vs.toArray q (.ref g) f.toArray) P E s:=by
 have fin:∀(st:ι)(ix:_b _d),(arrOf st).map (·.2)=(ix.map λi=>vs.getD i _J).toArray->failedOf st=_n->ix.Perm (_B vs.length)->ix.Pairwise (λi j=>F_ (ts.getD j (0,0)) (ts.getD i (0,0))=_r)->wpAny (_z prog w) A (ksk_tail a _r q (.ref g) st) P E s:=λst ix I H p pw=>by
  have W:ix.length=vs.length:=by rw[p.length_eq,dQ]
  have G:(s.heap.update g<|_Y λ_=>(#[]:_E _j)).get? a=_a (seqObj "list" #[] q):=(_F _ _ B).trans Y;unfold ksk_tail;dsimp only;refine _c<|Ĉ O U ?_ (by rw[bp];lia)<|cK _
  refine _c<|MV<|_c<|Ŝ G U ?_
  simp only[ζ,Ñ];rw[I,H];refine _c<|Ĉ G U ?_ (Ε _)<|by simp[W];lia
  simp only[d5,ζ,Ñ];obtain⟨c,gc⟩:∃c,((s.heap.update g (_Y λ_=>(#[]:_E _j))).update a (_Y λ_=>(Η (λi=>vs.getD i _J) ix).toArray)).get? a=_a (seqObj "list" (Η (λi=>vs.getD i _J) ix).toArray c):=⟨_,ō G λ_=>(Η (λi=>vs.getD i _J) ix).toArray⟩;exact _k<|h _ _ c ix (λb o M X z=>(_F _ _<|_T X).trans<|(_F _ _<|_T M).trans z) gc p pw
 unfold ksk_end;simp only[ζ,Ñ];by_cases l:vs.toArray.size<2
 .have F:vs.length<2:=by simpa using l
  rw[_o l,_o l];refine _c<|_k (a:=general') ?_
  rw[StateT.run_pure];refine _c<|_k ?_
  refine fin _ (_B vs.length) ?_ rfl (Ă _) (by
   rw[eS];intro i j Z R Q;simp at Z R;lia)
  rw[W5];apply ē.mp;show ((f.toArray.zip vs.toArray).map (·.2)).toList=_;rw[ũ,Ĕ];exact Kj<|ke K.symm
 .have F:2<=vs.length:=by have:¬ vs.length<2:=(by simpa using l);lia
  rw[_l l,_l l];obtain⟨fs,V,lf,N⟩:=aF f ts L m;refine _c<|kat_kind (T:=.type "int") V (by lia) (λv n=>?_) (by decide) ?_
  .obtain⟨i,k,rfl⟩:=N v n;exact .now
  .have S:(Ö "int" != Ö "tuple")=true:=by decide
   rw[S];refine _c<|Wo (d:=(0,0)) xP K L (λi j v x y n D J r=>(m i v x n J).fn<|m j v y D r) (λi j u v x y D n J r C c=>iQ (m i u x D J) (m j v y n r) c) λst ix I H p pw=>?_
   exact fin st ix I H p pw
theorem mZ{l:_g}{f:_j}{vs:_b _j}{ts:_b T2}{R:_d}{P:PySem.Fin->_C->Prop}(r:l≠a)(Y:s.heap.get? l=_a (seqObj "list" #[] 0))(gA:s.heap.get? a=_a (seqObj "list" #[] R))(hl:vs.length=ts.length)(zl:vs.length<=sizeLine)
  (cl:∀(i:_d) v t,vs[i]? = _a v->ts[i]? = _a t->jo prog w A f s l v t)
  (h:∀h' tk c ix,(∀b o,b≠l->b≠a->s.heap.get? b=_a o->h'.get? b=_a o)->h'.get? a=_a (seqObj "list" (Η (λi=>vs.getD i _J) ix).toArray c)->ix.Perm (_B vs.length)->ix.Pairwise (λi j=>F_ (ts.getD j (0,0)) (ts.getD i (0,0))=_r)->P (.done<|.ret .none) { s with heap:=h',toks:=tk }) :
  wpAny (_z prog w) A (_aY a f _r vs.toArray R<|.ref l) P E s:=by
 unfold _aY;refine _c<|Ç ?_
 rw[List.forIn_toArray];refine _c (ksk_fold (λi H=>∃n F d e,H = { s with heap:=n,toks:=F }/\d.length=i/\n.get? l=_a (seqObj "list" (Ŧ d) e)/\(∀b o,b≠l->s.heap.get? b=_a o->n.get? b=_a o)/\s.heap.objs.size<=n.objs.size/\∀(j:_d) v t,d[j]? = _a v->ts[j]? = _a t->Jk n v t) vs 0 s
  ⟨s.heap,s.toks,[],0,U,U,Y,λb o _ z=>z,Τ _,λj v t z=>by simp at z⟩ (λj x H S K=>?_) λH Z=>?_)
 .obtain⟨n,F,d,e,rfl,V,D,kp,sz,L⟩:=K;have hj:j<vs.length:=(ag.mp S).1;obtain⟨t,Q⟩:∃t,ts[j]? = _a t:=⟨_,af<|by lia⟩;refine _c<|ð<|ν (cl j x t S Q n F kp sz (λk T=>∃m C,T = { s with heap:=m,toks:=C }/\Jk m k t/\(∀b o,n.get? b=_a o->m.get? b=_a o)/\n.objs.size<=m.objs.size) λk m C x1 x2 W=>⟨m,C,U,x1,x2,W⟩) (λk T z=>?_) λ_ _ z=>z.elim
  obtain⟨m,C,rfl,pk,M,z2⟩:=z;dsimp only;have I:=M _ _ D;obtain⟨c,gc⟩:∃c,(m.update l (_Y (·.push k))).get? l=_a (seqObj "list" (Ŧ d |>.push k) c):=⟨_,ō I (·.push k)⟩;have B:∀b o,m.get? b=_a o->o.cls=.type "tuple"->(m.update l (_Y (·.push k))).get? b=_a o:=λb o z cz=>(_F _ _ (λq=>by rw[<-q,I] at z;cases z;simp at cz)).trans z;refine _c<|Ĉ I U ?_ (by rw[bp];lia)<|by rw[Array.size_push,bp];lia
  refine _k ⟨U,_,C,d++[k],c,U,by rw[ς,V];simp,?_,λb o N z=>(_F _ _<|_T N).trans<|M _ _<|kp b o N z,?_,λi v u p G=>?_⟩
  .rw[gc];simp
  .show s.heap.objs.size<=(m.update l (_Y (·.push k))).objs.size;rw[Ĵ];exact bo sz z2
  .by_cases K:i<d.length
   .rw[ce K] at p;exact ((L i v u p G).keep λb o z _=>M b o z).keep B
   .have y:=(ag.mp p).1;rw[av] at y;have e9:i=d.length:=by simp at y;lia
    subst e9;rw[ci (ai _)] at p;simp at p;have e8:d.length=j:=by lia
    rw[e8,Q] at G
    cases G
    cases p;exact pk.keep B
 .obtain⟨n,F,d,e,rfl,V,D,kp,sz,L⟩:=Z;have J:d.length=vs.length:=by lia
  refine _c<|FY D U ?_
  refine vQ r D (kp _ _ (_T r) gA) J (by lia) L zl λh' tk c ix kk g X pw=>?_;exact h h' tk c ix (λb o O b2 z=>kk b o O b2<|kp b o O z) g X pw
theorem Zk{q:_g}{vs:_b _j}{ts:_b T2}(M:s.heap.IsList l vs.toArray)(K:vs.length=ts.length)(n:vs.length<=sizeLine)
  (cl:∀(H:_C)(F:_g),(∃h1,H = { s with heap:=h1 }/\∀b o,s.heap.get? b=_a o->h1.get? b=_a o)->s.heap.objs.size<=F->∀(i:_d) v t,vs[i]? = _a v->ts[i]? = _a t->jo prog w A.in1.in1 (.ref q) H F v t)
  (h:∀D h' tk c ix,s.heap.objs.size<=D->(∀b o,s.heap.get? b=_a o->h'.get? b=_a o)->h'.get? D=_a { cls:=.type "list",data:=.seq (Η (λi=>vs.getD i _J) ix).toArray c }->ix.Perm (_B vs.length)->ix.Pairwise (λi j=>F_ (ts.getD j (0,0)) (ts.getD i (0,0))=_r)->Q (.ref D) { s with heap:=h',toks:=tk }) :
  wpAny (_z prog w) A (call (.builtin "sorted") [.ref l] [(Ø "key",.ref q)]) Q E s:=by
 refine call_function_entry_kw u' f' f_ (ksk_s1 _ _) ?_;unfold É.«sorted»;refine _c (m:=checkCount "sorted" 1 1 _)<|_k<|_c<|collect_list M (_c<|ģ ?_ n) n
 have J:∀b o,s.heap.get? b=_a o->((s.heap.push<|seqObj "list" #[] 0).update s.heap.objs.size (_Y (· ++ vs.toArray))).get? b=_a o:=λb o e=>(_F _ _<|gg<|_q e).trans<|_e _ e
 have f:s.heap.objs.size<=((s.heap.push<|seqObj "list" #[] 0).update s.heap.objs.size (_Y (· ++ vs.toArray))).objs.size:=by rw[Ĵ,ŉ];exact kc _
 generalize (s.heap.push (seqObj "list" #[] 0)).update s.heap.objs.size (_Y (· ++ vs.toArray))=a at J f |-;have k:(a.push<|seqObj "list" vs.toArray 0).get? a.objs.size=_a (seqObj "list" vs.toArray 0):=_p _ U;refine _c<|π<|wpAny_call_entry_kw ŝ ⟨_,k,U⟩ Ŏ ?_<|ksk_l1 _ _
 show wpAny (_z prog w) A.in1.in1 (É.«list.sort» ⟨[.ref a.objs.size],[(Ø "key",.ref q)]⟩) _ _ _;rw[ksk_t1];unfold ksk_tree;have P:a.objs.size<(a.push<|seqObj "list" vs.toArray 0).objs.size:=_q k;obtain⟨x,B⟩:∃x,((a.push (seqObj "list" vs.toArray 0)).update a.objs.size (_Y λ_=>(#[]:_E _j))).get? a.objs.size=_a (seqObj "list" #[] x):=⟨_,ō k λ_=>#[]⟩;have C:∀b o,s.heap.get? b=_a o->((a.push<|seqObj "list" vs.toArray 0).update a.objs.size<|_Y λ_=>(#[]:_E _j)).get? b=_a o:=λb o z=>(_F _ _<|gg<|ba (_q z) f).trans<|_e _<|J b o z
 have u:a.objs.size<((a.push<|seqObj "list" vs.toArray 0).update a.objs.size<|_Y λ_=>(#[]:_E _j)).objs.size:=by rw[Ĵ];exact P
 refine _c<|FY k U ?_
 refine _c<|Ĉ k U ?_ (by simpa using n)<|Ε _
 generalize (a.push (seqObj "list" vs.toArray 0)).update a.objs.size (_Y λ_=>(#[]:_E _j))=d at B C u |-;refine _c<|Ŝ B U<|_c<|yA ?_ n
 have y:∀b o,d.get? b=_a o->(d.push<|seqObj "tuple" vs.toArray 0).get? b=_a o:=λb o z=>_e _ z;have r:d.objs.size<(d.push<|seqObj "tuple" vs.toArray 0).objs.size:=by rw[ŉ];exact gy _
 show wpAny (_z prog w) A.in1.in1 _ _ _ (ñ (d.push<|seqObj "tuple" vs.toArray 0) s.gens s.drawn s.toks s.os);generalize d.push (seqObj "tuple" vs.toArray 0)=p at y r |-;refine _c<|ģ (π ?_)<|cK _
 show wpAny (_z prog w) A.in1.in1 (_aY a.objs.size (.ref q) _r vs.toArray x<|.ref p.objs.size) _ _ (ñ (p.push<|seqObj "list" #[] 0) s.gens s.drawn s.toks s.os);have N:p.objs.size≠a.objs.size:=gg<|iE u r
 have I:∀b o,s.heap.get? b=_a o->(p.push<|seqObj "list" #[] 0).get? b=_a o:=λb o z=>_e _<|y b o<|C b o z
 refine mZ N (_p _ U) (_e _<|y _ _ B) K n (cl _ p.objs.size ⟨_,U,I⟩<|bo f<|fh<|iE u r) λh' tk c ix O g L pw=>⟨_,U,?_⟩;refine _k ⟨_,U,h a.objs.size h' tk c ix f (λb o z=>?_) g L pw⟩;have G:=_q z;exact O b o (cf<|ba G<|bo f<|fh<|iE u r) (cf<|ba G f)<|I b o z
end
end Sx
end PartSortZ
namespace L2
open PySem PySem.Spec PyProof.Rows Og
noncomputable abbrev Jw(t:Sq.T3):_b V:=[.int t.1,.int t.2.1,.int t.2.2]
theorem IW:∀{xs:_b V}{us:_b _j},Vals xs us->∀{i:_d}{u:_j},us[i]? = _a u->∃x,xs[i]? = _a x/\RelV x u
 |_,_,.nil,i,u,h=>by simp at h
 |x::xs,a::us,.cons r t,i,u,h=>by
  cases i with
  |zero=>exact⟨x,U,by simp at h;exact h ▸ r⟩
  |succ i=>exact IW t<|by simpa using h
theorem WD(I:Inv X b9 σ H s){t:Sq.T3}{x:V}(h:TupAt H (Jw t) x)(r:RelV x u):Sq.Lz s.heap u t:=by
 obtain⟨T,rfl,p⟩:=h
 cases r;obtain⟨j,a,m,_⟩:=I.tuple (show Fd X.K H T (Jw t) from .inl<|.inl p)
 cases a with
 |cons f a =>
  cases a with
  |cons g a =>
   cases a with
   |cons b a =>
    cases a;obtain⟨i,rfl⟩:=f;obtain⟨l,rfl⟩:=g;obtain⟨k,rfl⟩:=b;obtain⟨o,e,c,n,d⟩:=m;exact⟨T,o,i,l,k,n,U,e,c,d⟩
theorem KH(Z:X.calm=_h):Eo X (.builtin "sorted") (λxs H Q=>∃(a:_g)(ts:_b Sq.T3)(vs:_b V),xs=[V.ref a]/\Cp X.K H a vs/\Paired (λt y=>TupAt H (Jw t) y) ts vs/\vs.length<40000/\∀(p:_g)(ix:_b _d),H p=_n->ix.Perm (_B vs.length)->ix.Pairwise (λi j=>Sq.Hm (ts.getD j (0,0,0)) (ts.getD i (0,0,0))=_r)->Q (.ref p) (upd H p<|.lst<|ix.map λi=>vs.getD i .non)):=by
 intro W s σ H xs R Q I r h;obtain⟨a,ts,vs,rfl,C,A,xt,q⟩:=h;obtain⟨u,rfl,O⟩:=vals1 r
 cases O;obtain⟨b,l,P,Y⟩:=I.list C;have S:=l.length;have lt:=A.length;refine Sx.aY (ts:=ts) P.isList (by lia) (λi v t M F=>?_) (by rw[ĥ];lia) λD T c ix le k e d pw=>?_
 .obtain⟨x,g,m⟩:=IW l M;obtain⟨t',w,G⟩:=Do A g;rw[F] at w
  cases w;exact WD I G m
 .have B:H D=none:=I.hok.fresh le;have K:b.length=vs.length:=by lia
  rw[K] at d;have N:Vals (ix.map λi=>vs.getD i .non)<|ix.map λi=>b.getD i .none:=by
   have n:∀i∈ix,i<vs.length:=λi z=>dL.mp<|d.mem_iff.mp z
   clear e d pw
   induction ix with
   |nil=>exact .nil
   |cons i ix L =>
    refine .cons ?_<|L λj E=>n j<|aT _ E
    have z:=n i<|be ..
    have f:i<b.length:=by lia
    obtain⟨x,g,m⟩:=IW l<|af f;show RelV (vs.getD i V.non) (b.getD i _J);rw[ax,ax,g,af f];exact m
  have J:(ix.map λi=>vs.getD i .non).length<=sizeLine:=by
   rw[ah,d.length_eq,dQ,ĥ];lia
  exact⟨.ref D,_,I.jh (o:=.lst<|ix.map λi=>vs.getD i .non) (t':=s.toks) (d':=s.drawn) k le ⟨J,_,c,N,e⟩,U,q D ix B d pw⟩
open PySem PySem.Spec PyProof.Rows
theorem lF:∀{ns:_b _i}{us:_b _j},Vals (ns.map V.int) us->Υ us ns
 |[],_,r=>by cases r;exact .nil
 |n::ns,_,r=>by
  cases r with
  |cons r t =>
   obtain⟨tk,rfl⟩:=r;exact .cons n tk<|lF t
theorem aj:∀{ns:_b _i}{us:_b _j},Υ us ns->Vals (ns.map V.int) us
 |_,_,.nil=>.nil
 |_,_,.cons n t r=>.cons ⟨t,U⟩<|aj r
open PySem PySem.Spec PySem.Calls PyProof.Rows
abbrev RK(X:Cx)(x z y3:_A)(scope:Scope):=JT X [x,z,y3] X.N scope
abbrev Jl(X:Cx)(x z y3:_A)(scope:Scope):Prop:=Dd X [x,z,y3] X.N scope
def M6(J:It)(σ:St)(H1:Hp)(Q:VK)(g:TG)(tt:TT)(te:TE):Prop:=∀D,H1 D=_n->∃W:_d->_d->_b V->Hp->Prop,(∃m,W 0 m [] (upd H1 D<|.lst []))/\∀i m ys H2,W i m ys H2 ->
 (J.stop i H2/\Q (.ref D) H2) \/ (J.go i H2/\∀x H3,J.yld i H2 x H3->∀v0 v1 v2,g x (v0::v1::v2::σ) H3 λσ' JJ=>(∃w0 w1 w2,σ'=w0::w1::w2::σ)/\tt σ' JJ λb H4 =>
  if b=_h then te σ' H4 λy H5=>H5 D=_a (.lst ys)/\ys.length<sizeLine/\∃m',m'<m/\W (i+1) m' (ys++[y]) (upd H5 D<|.lst<|ys++[y])
  else ∃m',m'<m/\W (i+1) m' ys H4)
abbrev aJ(wi:TI)(g:TG)(tt:TT)(te:TE):TE:=λσ H Q=>wi σ H λJ H1=>M6 J σ H1 Q g tt te
theorem M6.g{J:It}{Q:VK}{g:TG}(h:M6 J σ H Q g tt te):JH (λτ=>∃v0 v1 v2,τ=v0::v1::v2::σ) J H Q g tt te:=λD j =>
 let ⟨W,a,b⟩:=h D j
 ⟨W,a,λi m f c w=>(b i m f c w).imp id λq=>⟨q.1,λx d y _ e=>by obtain⟨v0,v1,v2,rfl⟩:=e;exact q.2 x d y v0 v1 v2⟩⟩
theorem Ub{z a:_A}{osc:Scope}{N:_b _A}(c:X.env.scope=osc)(b:X.N=N)(h:aW [x,z,a] (N) scope osc N=_h):Jl X x z a scope:=by
 subst b;exact Nv c U h
section
variable{z y3:_A}
theorem qb{a b:ĵ}{k:_d}{e:_C}{d:Hp}(c:X.calm=_h)(S:Jl X x z y3 scope) :
  PG (RK X x z y3 scope C e d fp) (.Tuple [.Name x px,.Name z a,.Name y3 b] k pos) (Qo X.K 3<|Eh (Ci 0)<|Eh (Ci 1)<|Eh (Ci 2) Q6):=HS (n:=3) c<|Bq (Ph S U)<|Bq (Ph S U)<|Bq (Ph S U) FP
theorem oR{c b e:ĵ}{k:_d}{d:TI}(a:X.calm=_h)(S:Jl X x z y3 scope)(hi:PI X (.Tuple [.Name x px,.Name z c,.Name y3 b] k e) iter d)
  (i:∀C s₀ H₀ fp,Pk (RK X x z y3 scope C s₀ H₀ fp) qc tt) (g:∀C s₀ H₀ fp,PE (RK X x z y3 scope C s₀ H₀ fp) qA te) (j:∀x,foldedSetIterable iter X.env x=pure x:=by intro _;rfl) :
  PE X (.ListComp qA [⟨.Tuple [.Name x px,.Name z c,.Name y3 b] k e,iter,qc,0⟩] scope pos) (aJ d (Qo X.K 3<|Eh (Ci 0)<|Eh (Ci 1)<|Eh (Ci 2) Q6) tt te):=J7 (F:=λσ τ=>∃v0 h f,τ=v0::h::f::σ) (λ_=>⟨_,_,_,U⟩) (λ_ _ _ _ q=>q.g) a S hi (λ_ _ _ _=>qb a S) i g j
end
section
variable{Q:VK}
theorem PB{K:_s}{α:Type}{l:_b α}(e:α->_b V)(p:α->_V)(f:α->_b V)(A:Cp K H1 a vs)(J:Paired (λx v=>TupAt H1 (e x) v) l vs)(P:∀x,∃a b c,e x=[a,b,c])(hz:vs.length<sizeLine)
  (X:∀x∈l,∀a b c,e x=[a,b,c]->∀H,Al H1 H->∀R:_V->Hp->Prop,(∀H',Al H H'->R (p x) H')->tt (_a a::_a b::_a c::σ) H R)
  (M:∀x∈l,p x=_h->∀a b c,e x=[a,b,c]->∀H,Al H1 H->∀R:VK,(∀y H',Al H H'->TupAt H' (f x) y->R y H')->te (_a a::_a b::_a c::σ) H R)
  (hq:∀D H ys,H1 D=_n->Al H1 H->H D=_a (.lst ys)->Paired (λx y=>TupAt H (f x) y) (l.filter p) ys->Q (.ref D) H):M6 (dG K a) σ H1 Q (Qo K 3<|Eh (Ci 0)<|Eh (Ci 1)<|Eh (Ci 2) Q6) tt te:=by
 intro D t;have s0:Al H1<|upd H1 D<|.lst []:=λb o e=>by rw[An (Ak e t)];exact e
 have Z:=J.length;refine⟨λi m ys H=>m=vs.length - i/\i<=vs.length/\H D=_a (.lst ys)/\Paired (λx y=>TupAt H (f x) y) ((l.take i).filter p) ys/\Al H1 H,⟨vs.length,by simp,Ε _,Ai,by simpa using Paired.nil,s0⟩,?_⟩;rintro i m ys H ⟨rfl,hi,q,n,j⟩;by_cases k:i<vs.length
 .obtain⟨y,s⟩:∃y,vs[i]? = _a y:=⟨vs[i],by simp[k]⟩;obtain⟨x,G,T,rfl,E⟩:=Og.Do J s;obtain⟨u,z,w,B⟩:=P x;have F:=am G;refine .inr ⟨⟨vs,_,j.seq A,s⟩,λy2 O N=>?_⟩;obtain⟨rfl,AT⟩:=N;have I:=AT vs<|j.seq A
  rw[s] at I
  cases I;intro u0 u1 u2;rw[B] at E;refine⟨[u,z,w],oz<|j _ _ E,U,U,⟨_,_,_,U⟩,?_⟩;refine X x F u z w B O j _ λS h=>?_;have L:ys.length<=i:=by
   rw[<-n.length];exact bo (dE ..)<|by rw[cE];lia
  have g:(l.take<|i+1).filter p=(l.take i).filter p++(if p x=_h then [x] else []):=by
   rw[ck,G,hU];congr 1;by_cases d:p x=_h
   .simp[d]
   .simp[d]
  by_cases d:p x=_h
  .rw[_o d];refine M x F d u z w B S (j.trans h) _ λy H5 r Y=>⟨r _ _<|h _ _ q,by lia,vs.length - (i+1),by lia,U,k,Ai,?_,?_⟩
   .rw[g,_o d];exact Paired.snoc (Bv (Ao (h.trans r) n)<|r _ _<|h _ _ q)<|Y.upd<|r _ _<|h _ _ q
   .intro b o C;rw[An (Ak C t)];exact r _ _<|h _ _<|j _ _ C
  .rw[_l d];refine⟨vs.length - (i+1),by lia,U,k,h _ _ q,?_,j.trans h⟩;rw[g,_l d,fN];exact Ao h n
 .have e:i=vs.length:=by lia
  subst e;refine .inl ⟨⟨vs,j.seq A,ai _⟩,hq D H ys t j q ?_⟩;rw[dt (by lia)] at n;exact n
end
end L2
namespace Sq
open PySem PySem.Spec PySem.Calls PyProof.Rows
noncomputable abbrev HW(x:_A)(p1 q1 s1 p2 q2 s2 tp:ĵ)(j1 j2 k:_d):Expr:=.Tuple [.Subscript (.Name x p1) (.Constant (.int 1) j1 q1) s1,.Subscript (.Name x p2) (.Constant (.int 0) j2 q2) s2] k tp
section
variable{w:_O}
theorem item_at{E:vSP}{b:ŧ}{p q sp:ĵ}{f:_d}{i:_i}{m:_A->_t _j}{o:ü}{its:_E _j}
  (D:b.scope.kind=.function)(l:b.kindOf x=_a .local)(g:s.heap.Ns b.locals m)(B:m x=_a (.ref a))(k:(x == ("__debug__" : _A))=_r)
  (e:s.heap.get? a=_a o)(d:o.cls=.type "tuple")(c:o.data=.seq its n)(hi:seqIndex? i its.size=_a j)(z : -(2 ^ 63)<=i)(t:i<2 ^ 63)(y:its[j]? = _a u)
  (h:∀tk,Q u { s with toks:=tk }):wpAny (_z prog w) A (eval (.Subscript (.Name x p) (.Constant (.int i) f q) sp) b) Q E s:=by
 refine Ų<|xC (LY D l g B<|Po ?_) k
 have C:xh s.heap a its:=⟨o,e,d,n,c⟩;exact Ň (x:=u) (s:={ s with toks:=s.toks+1 }) ⟨o,e,d⟩ QN.lookup (_a6 (j:=j) (Q:=λr v=>r=u/\Q r v) C z t hi y ⟨U,h _⟩)<|by with_unfolding_all rfl
theorem Za{o:ü}{name:_A}{c:_ac}{G z ct v:_j}{t:T3}{K Q F L C O M:ĵ}{j1 D k:_d}{R:vSP}
  (d:A.depth<recursionLimit)(ho:s.heap.get? f=_a o)(T:o.data=.func (GU name qual c (HW x K Q F L C O M j1 D k) scope [] G z ct))(sM:s.heap.CodeRec z qual)(m:s.heap.NoLimit)
  (Z:∀v:_j,bindArgs (GU name qual c (HW x K Q F L C O M j1 D k) scope [] G z ct) ⟨[v],[]⟩=pure [(x,v)])(r:scope.names.lookup x=_a .local)(X:∀y∈scope.names,y.2≠.cell)
  (V:scope.isCoroutine=_r)(C1:scope.isGenerator=_r)(q:scope.kind=.function)(H:(x == ("__debug__" : _A))=_r)
  (Y:Lz s.heap v t)
  (h:∀kv h2 xo,Jk h2 kv (t.2.1,t.1)->(∀b o,s.heap.get? b=_a o->h2.get? b=_a o)->s.heap.objs.size<=h2.objs.size->R kv { s with heap:=h2,toks:=xo }) :
  wpAny (_z prog w) A (call (.ref f) [v]) R (λ_ _=>Χ) s:=by
 refine ı<|W.kla_callFunE d ho T V C1 U sM ?_
 rw[Z v];refine _k<|M4 X (λy S=>by rw[al.mp S];exact r) (λl i Mc=>?_) q
 have g:∀b o,s.heap.get? b=_a o->l.get? b=_a o:=λb o e=>Mc.extBut b o (cf<|_q e)<|_e _ e
 have p:s.heap.objs.size<=l.objs.size:=by
  obtain⟨_,_,_,e,_⟩:=i;exact fh<|_q e
 refine⟨m.keeps g,W.kla_codeExpr<|OI ?_⟩;obtain⟨a,oa,N,P,k3,n,rfl,ea,J,I⟩:=Y;have E:=g _ _ ea;have B:(λy=>[(x,_Q a)].reverse.lookup y) x=_a (.ref a):=by
  show [(x,_Q a)].lookup x=_;rw[iA,ń]
 refine Κ<|item_at (j:=1) (u:=.int t.2.1 P) q (show scope.names.lookup x=_a .local from r) i B H E J I U (by decide) (by decide) U λC3=>?_
 refine Κ<|item_at (j:=0) (u:=.int t.1 N) q (show scope.names.lookup x=_a .local from r) i B H E J I U (by decide) (by decide) U λxo=>?_
 refine æ ⟨by show 2<=sizeLine;decide,?_⟩;refine h _ _ _ ⟨l.objs.size,_,P,N,0,U,_p _ U,U,U⟩ (λb o e=>_e _<|g b o e) ?_;rw[ε];exact kK p
end
end Sq
namespace L2
open PySem PySem.Spec PySem.Calls PyProof.Rows Og
noncomputable def QB(c:_g)(qual:_A):HO:=.ext λh=>h.CodeRec (.ref c) qual
theorem bD{w:_O}{c:_g}(g:h.CodeRec (.ref c) qual):Cd P w H h c<|QB c qual:=by
 refine⟨g,?_,λi f b k=>?_⟩
 .obtain⟨d,o,a,t,e,q,r⟩:=g
  cases e;exact⟨o,q⟩
 .obtain⟨d,o,a,t,e,q,r⟩:=b
  cases e;exact⟨_,o,a,t,U,k _ q,r⟩
def Rk(H:Hp)(P:_g)(pos:ĵ)(qual:_A):Prop:=H P=_a (.tbl #[]) \/ ∃c',H P=_a (.tbl #[rawInt pos.line,rawInt pos.col,.ref c'])/\H c'=_a (QB c' qual)
theorem Rk.same{P:_g}(t:Rk H P pos qual)(s:Al H H'):Rk H' P pos qual:=by
 rcases t with t | ⟨b,a,c⟩
 .exact .inl<|s _ _ t
 .exact .inr ⟨b,s _ _ a,s _ _ c⟩
structure Hl(mg:_A->_t _j)(base:Θ)(c P:_g):Prop where
 hd:W.CodeHd base c P
 bm:∃bm o,mg "__builtins__" = _a (.ref bm)/\bm≠builtinsNs/\base.get? bm=_a o/\o.cls=.type "module" /\ o.dict=_a builtinsNs/\o.data=.plain
def Yo(t:Sq.T3):Sq.T2:=(t.2.1,t.1)
inductive QD(K:_s)(P:_g)(pos:ĵ)(qual:_A)(Q:VK)(v:V)(H1:Hp):Prop
|mk(a:_g)(ts:_b Sq.T3)(vs:_b V)(_:v=.ref a)(_:Cp K H1 a vs)(_:Paired (λt y=>TupAt H1 (Jw t) y) ts vs)(_:vs.length<40000)(_:Rk H1 P pos qual)(_:∀(p:_g)(ix:_b _d)(H2:Hp),H1 p=_n->H2 p=_n->(∀b o,b≠P->H1 b=_a o->H2 b=_a o)->Rk H2 P pos qual->ix.Perm (_B vs.length) -> ix.Pairwise (λi j=>Sq.F_ (Yo<|ts.getD j (0,0,0)) (Yo<|ts.getD i (0,0,0))=_r)->Q (.ref p) (upd H2 p<|.lst<|ix.map λi=>vs.getD i .non))
abbrev bj(K:_s)(P:_g)(pos:ĵ)(qual:_A)(te:TE):TE:=λσ H Q=>te σ H λv H1=>QD K P pos qual Q v H1
theorem Inv.grow{P c:_g}{ps:_E _j}{tk:_d}(I:Inv X b9 σ H s)(g:H P=_a (.tbl #[]))(r:_ai P s.heap h')(h:s.heap.objs.size<=c)(i:h'.CodeRec (.ref c) qual)
  (k:h'.get? P=_a (ŕ #[rawInt pos.line,rawInt pos.col,.ref c])) (o:ü) :
  Inv X b9 σ (upd (upd H c<|QB c qual) P<|.tbl #[rawInt pos.line,rawInt pos.col,.ref c]) { s with heap:=h'.push o,toks:=tk }:=by
 have p:H c=none:=I.hok.fresh h;have t:s.heap.get? P=_a (ŕ #[]):=I.hok P _ g;have w:c≠P:=gg<|ba (_q t) h
 have kp:∀b u,b≠P->s.heap.get? b=_a u->(h'.push o).get? b=_a u:=λb u a e=>_e _<|r b u a e
 have f:∀{b:_g}{u:HO},b≠P->H b=_a u->upd (upd H c<|QB c qual) P (.tbl #[rawInt pos.line,rawInt pos.col,.ref c]) b=_a u:=λ{b u} a e=>by
  rw[An a,An<|Ak e p];exact e
 refine I.un ⟨λb u q n _ _=>kp b u (λz=>by rw[z,g] at n;cases n) q,λb u q n _ _=>⟨u.slots,kp b u (λz=>by rw[z,g] at n;cases n) q⟩,λb u q n _=>?_,λb u q _=>?_,λb m q=>f (λz=>by rw[z,g] at q;cases q) q,λb u m q=>f (λz=>by rw[z,g] at q;cases q) q,λb ps q=>?_⟩ λb u e=>?_
 .have a:b≠P:=λz=>by rw[z,g] at n;cases n
  rw[An a,An<|cf<|ba (_q q) h];exact n
 .by_cases a:b=P
  .subst a;exact⟨_,_e _ k⟩
  .exact⟨u,kp b u a q⟩
 .by_cases a:b=P
  .subst a;rw[g] at q
   cases q;exact⟨#[rawInt pos.line,rawInt pos.col,.ref c],by rw[Ai];rfl⟩
  .exact⟨#[],by rw[f a q];simp⟩
 .by_cases a:b=P
  .subst a;rw[Ai] at e
   cases e;exact _e _ k
  .rw[An a] at e;by_cases l:b=c
   .subst l;rw[Ai] at e
    cases e;exact bD<|i.push o
   .rw[An l] at e;refine (I.hok b u e).stay (λd v j q=>kp d v ?_ q) (λd q=>f (λz=>by rw[z,g] at q;cases q) q) λd m q=>f (λz=>by rw[z,g] at q;cases q) q;rcases j with rfl | j
    .exact a
    .exact λz=>by rw[z,g] at j;cases j
section
variable{c P:_g}{e:Expr}{params:_ac}{p kp wl p1 q1 w1 p2 q2 w2 tp:ĵ}{j1 j2 kk:_d}
theorem VG(B':X.env.code=.ref c)(T:Hl X.mg X.base c P)(hr:Df 0 X.A)(hg:Gl X "sorted")(hm:X.mg "sorted" = _n)(he:PE X e te)
  (No:defaultsOf params X.env=([],[]))(Z:closureFor scope X.env=pure [])
  (tI:∀(S oC ct v:_j),bindArgs (GU "<lambda>" (X.env.qual ++ "<lambda>") params (Sq.HW x p1 q1 w1 p2 q2 w2 tp j1 j2 kk) scope [] S oC ct) ⟨[v],[]⟩=pure [(x,v)])
  (x':scope.names.lookup x=_a .local)(rX:∀y∈scope.names,y.2≠.cell)(IY:scope.isCoroutine=_r)(C1:scope.isGenerator=_r)(hk:scope.kind=.function)(sQ:(x == ("__debug__" : _A))=_r)
  (aK:starEach [e] X.env=[(_r,eval e X.env)]) :
  PE X (.Call (.Name "sorted" p) [e] [⟨_a "key",.Lambda params (Sq.HW x p1 q1 w1 p2 q2 w2 tp j1 j2 kk) scope wl,kp⟩] pos) (bj X.K P wl (X.env.qual ++ "<lambda>") te):=by
 intro b9 s σ H Q I h;refine ê<|H_ I hg hm fb ?_
 have L:backTo pos (starEach [e] X.env)=[(_r,eval e X.env)]:=by rw[aK];rfl
 refine _aD ?_ (by rw[L];rfl)<|by rw[L];rfl
 rw[L];refine Κ<|CP (he b9 s σ H _ I h) λu s1 ⟨v,H1,d,rv,a,ts,A,ev,N,hp,xt,tb,q⟩=>æ ?_
 subst ev;obtain rfl:u=_Q a:=rv;refine _aE<|W.kla_eval No ?_
 have fin:∀(f:_g)(oC ct:_j)(w:Hp)(s2:_C),Inv X b9 σ w s2->(∃o:ü,s2.heap.get? f=_a o/\o.data=.func (GU "<lambda>" (X.env.qual ++ "<lambda>") params (Sq.HW x p1 q1 w1 p2 q2 w2 tp j1 j2 kk) scope [] ((X.mg "__name__").getD .none) oC ct)) ->
   s2.heap.CodeRec oC (X.env.qual ++ "<lambda>")->(∀b o,b≠P->H1 b=_a o->w b=_a o)->Rk w P wl (X.env.qual ++ "<lambda>")->(∀b,s2.heap.objs.size<=b->H1 b=_n) ->
   wpAny (_z X.prog X.w) X.A (call (.builtin "sorted") [.ref a] [(Ø "key",.ref f)]) (EP X b9 σ Q) X.xe s2:=λf oC ct w Rl O hf sM kH aP fr=>by
  obtain⟨of,UB,DF⟩:=hf;have M:∀{b:_g}{u:HO},H1 b=_a u->(∀ps,u≠.tbl ps)->w b=_a u:=λ{b u} e aa=>kH b u (λz=>by
   rcases tb with t | ⟨m,t,_⟩
   .rw[z,t] at e;exact aa _ (_m e).symm
   .rw[z,t] at e;exact aa _ (_m e).symm) e
  have aM:Cp X.K w a A:=by
   rcases N with (N | ⟨o,N⟩) | N
   .exact .inl<|.inl<|M N (λ_ z=>by cases z)
   .exact .inl<|.inr ⟨o,M N (λ_ z=>by cases z)⟩
   .exact .inr N
  have ac:Paired (λt y=>TupAt w (Jw t) y) ts A:=Paired.Em hp λt y ⟨T1,e1,e2⟩=>⟨T1,e1,M e2 (λ_ z=>by cases z)⟩;obtain⟨C,qo,pl,hz⟩:=O.list aM;have lv:=qo.length;have lt:=ac.length;have aZ:f<Rl.heap.objs.size:=_q UB;refine Sx.Zk (ts:=ts.map Yo) pl.isList (by rw[ah];lia) (by lia) (λs3 kS as aB i v t hv ht=>?_) λD Y tk cc r le k e S pw=>?_
  .obtain⟨h3,rfl,k3⟩:=as;rw[ar] at ht;obtain⟨t3,zC,rfl⟩:=aS.mp ht;obtain⟨y,hy,ry⟩:=IW qo hv;obtain⟨t',zv,IJ⟩:=Do ac hy;rw[zC] at zv
   cases zv;have tr:=WD O IJ ry;intro h4 aD k4 z4 R hR;have B:∀b o,Rl.heap.get? b=_a o->h4.get? b=_a o:=λb o e=>k4 b o (cf<|ba (_q e) aB)<|k3 b o e
   refine Sq.Za (s:={ Rl with heap:=h4,toks:=aD }) (by have:=hr.depth;exact this) (B _ _ UB) DF (sM.keeps B) (O.nolimit.keeps B) (tI _ _ _) x' rX IY C1 hk sQ (tr.keep λb o e _=>B b o e) λkv h2 xo g1 g2 g3=>hR kv h2 xo g1 g2 g3
  .have hn:w D=none:=O.hok.fresh le;have li:C.length=A.length:=by lia
   rw[li] at S;have n:∀i∈r,i<A.length:=λi hi=>dL.mp<|S.mem_iff.mp hi
   have vv:Vals (r.map λi=>A.getD i .non)<|r.map λi=>C.getD i .none:=by
    clear e S pw
    induction r with
    |nil=>exact .nil
    |cons i r ih =>
     refine .cons ?_<|ih λj hj=>n j<|aT _ hj
     have hi:=n i<|be ..
     have an:i<C.length:=by lia
     obtain⟨x,hx,rx⟩:=IW qo<|af an;show RelV (A.getD i V.non) (C.getD i _J);rw[ax,ax,hx,af an];exact rx
   have zl:(r.map λi=>A.getD i V.non).length<=sizeLine:=by
    rw[ah,S.length_eq,dQ,ĥ];lia
   have gd:∀i,i<A.length->(ts.map Yo).getD i (0,0)=Yo (ts.getD i (0,0,0)):=λi hi=>by
    rw[_K,_K,ċ,Ã (show i<ts.length by lia)];rfl
   have ap:r.Pairwise<|λi j=>Sq.F_ (Yo<|ts.getD j (0,0,0)) (Yo<|ts.getD i (0,0,0))=false:=by
    refine Ş (λ{i j} hi hj hh=>?_) pw;rw[gd i (n i hi),gd j<|n j hj] at hh;exact hh
   exact⟨.ref D,_,O.laid (o:=.lst<|r.map λi=>A.getD i .non) (t':=tk) k le ⟨zl,_,cc,vv,e⟩,U,q D r w (fr D le) hn kH aP S ap⟩
 have a0:=X.env;obtain⟨bm,ob,b1,b2,b3,b4,b5,b6⟩:=T.bm;have g:=d.mod.glob.keeps d.bk;have F:=d.bk _ _ b3;have ab:bm≠mainGlobals:=λq=>by
  obtain⟨o,es,ep,e,hd,_⟩:=g;rw[q,e] at F;cases F;rw[hd] at b6;cases b6
 rcases tb with t0 | ⟨m,t1,t2⟩
 .have K:s1.heap.get? P=_a (ŕ #[]):=d.hok P _ t0;have aw:mainGlobals≠P:=λq=>by
   obtain⟨o,es,ep,e,hd,_⟩:=g;rw[q,K] at e;cases e;cases hd
  have G:bm≠P:=λq=>by
   rw[q,K] at F;cases F;cases b4
  refine W.kla_makeFunction (ps:=#[]) (mg:=X.mg) Z d.ok.glob g B' (T.hd.keeps d.bk) K trivial U aw ⟨bm,ob,b1,b2,ab,G,F,b4,b5,b6⟩ λm IH Y tk hx E a1 l MA=>?_;refine ŷ ?_;have O:=d.grow (pos:=wl) (tk:=tk) (ps:=#[]) t0 hx E l (by simpa using MA)<|W.kla_obj "<lambda>" (X.env.qual ++ "<lambda>") params (Sq.HW x p1 q1 w1 p2 q2 w2 tp j1 j2 kk) scope [] ((X.mg "__name__").getD .none) m IH
  have aN:m≠P:=gg<|ba (_q K) E
  refine fin Y.objs.size (.ref m) IH _ _ O ⟨_,_p _ U,U⟩ (l.push _) (λb o n e=>by rw[An n,An<|Ak e<|d.hok.fresh E];exact e) (.inr ⟨m,Ai,by rw[An aN,Ai]⟩)<|λb n=>d.hok.fresh ?_
  have J:(Y.push<|W.kla_obj "<lambda>" (X.env.qual ++ "<lambda>") params (Sq.HW x p1 q1 w1 p2 q2 w2 tp j1 j2 kk) scope [] ((X.mg "__name__").getD .none) m IH).objs.size<=b:=n;rw[ε] at J;lia
 .have K:s1.heap.get? P=_a (ŕ #[rawInt wl.line,rawInt wl.col,.ref m]):=d.hok P _ t1;have G:bm≠P:=λq=>by
   rw[q,K] at F;cases F;cases b4
  have l:s1.heap.CodeRec (.ref m)<|X.env.qual ++ "<lambda>":=(d.hok m _ t2).1
  refine W.kla_makeFunctionHit (mg:=X.mg) (cv:=.ref m) Z d.ok.glob g B' (T.hd.keeps d.bk) K (by simp[TriplesOk,rawInt]) ?_ ⟨bm,ob,b1,b2,ab,G,F,b4,b5,b6⟩ λIH Y tk kx E=>?_
  .simp[codeAmong,rawInt]
  refine ŷ ?_;refine fin Y.objs.size (.ref m) IH H1 _ (d.kept (t':=tk) λb o e=>_e _<|kx b o e) ⟨_,_p _ U,U⟩ ((l.keeps kx).push _) (λb o _ e=>e) (.inr ⟨m,t1,t2⟩)<|λb n=>d.hok.fresh ?_
  have J:(Y.push _).objs.size<=b:=n;rw[ε] at J;lia
end
open PySem PySem.Spec PyProof.Rows
def wO(Ps:_b _g)(H:Hp):Prop:=∀b,H b=_n \/ (∃o xs,H b=_a (.frz o<|.lst xs)) \/ (b∈Ps/\H b=_a (.tbl #[]))
theorem XN{w:_O}{K:_s}{mb:_A->_t _j}{CX:YM}{k:_d}{fa:_g}{f:_C}{vs:_b _j}{tabs:_b (_g×_g)}
  (KX:K.In f.heap)(S:f.heap.Ns mainGlobals mg)(c:f.heap.Ns builtinsNs mb)(ab:∀x:_A,x≠"__name__"->mb x=bootBuiltins x)(P':f.heap.NoLimit)(hg:f.gens = #[])
  (L:_an tabs f.heap)(sg:_ao K=_h)(Y:∃bm o,mg "__builtins__" = _a (.ref bm)/\bm≠builtinsNs/\f.heap.get? bm=_a o/\o.cls=.type "module" /\ o.dict=_a builtinsNs/\o.data=.plain)
  (E:f.heap.get? a=_a { cls:=.type "list",data:=.seq vs.toArray })(hi:Υ vs ns)(hl:ns.length<=sizeLine)(hr:Df k callerA)
  (F:∀base:Θ,K.In base->base.Ns mainGlobals mg->(∀q∈tabs,Hl mg base q.1 q.2)->Gu P w K mg base CX k fa fd [x] sp)(tI:∀(s:_C)(u:_j),Ż s fd ⟨[u],[]⟩ [(x,u)])
  (xy:∀H:Hp,(∀q∈tabs,H q.2=_a (.tbl #[]))->Cp K H a (ns.map V.int)->sp [.ref a] H (λv _=>v=.bl _h) λ_ _ _=>Χ)
  (MQ:∀H e s',CX [] H f (λ_ _ _=>Χ) e s'->Χ) :
  codeAny (_z P w) callerA (.call (.ref fa) ⟨[.ref a],[]⟩) (λr s'=>r=.ok (.ret<|.bool _h)/\OldK f.heap s'.heap/\s'.os=f.os/\ķ s'.gens) f:=by
 have rv:=QF hi;have OZ:=hi.length;have i:∀b,b∈tabs.map (·.2)->f.heap.get? b=_a (ŕ #[]):=λb c=>by
  obtain⟨q,j,rfl⟩:=ay.mp c;exact (L q j).2
 have aP:a ∉ tabs.map (·.2):=λz=>by
  have:=i a z;rw[E] at this
  cases this
 have C:∀H:Hp,wO (tabs.map (·.2)) H->(∀q∈tabs,H q.2=_a (.tbl #[]))->Cp K H a (ns.map V.int)->Fe P w H f.heap->(∀b,H b≠_n->b=a \/ b∈tabs.map (·.2))->(H a≠_n->K.lookup a=_n) ->
   codeAny (_z P w) callerA (.call (.ref fa) ⟨[.ref a],[]⟩) (λr s'=>r=.ok (.ret<|.bool _h)/\OldK f.heap s'.heap/\s'.os=f.os/\ķ s'.gens) f:=by
  intro H hO E7 hS O Z hK;have g:∀{b:_g}{o:ü},f.heap.get? b=_a o->H b=_n->(Pg f.heap H).get? b=_a o:=λe n=>Zt e n;have ac:∀{b:_g}{o:ü}{I:_E DictEntry}{Q:_d},f.heap.get? b=_a o->o.data=.dict I Q->H b=none:=λ{b o I Q} e d=>by
   cases q:H b with
   |none=>rfl
   |some u =>
    rcases Z b (by rw[q];simp) with p | p
    .subst p;rw[E] at e;cases e;have d':OS vs.toArray _=Data.dict I Q:=d
     cases d'
    .rw[i b p] at e
     cases e
     cases d
  have B:∀{b:_g}{m:_A->_t _j},f.heap.Ns b m->(Pg f.heap H).Ns b m:=λ{b m} ⟨o,I,Q,e,d,r⟩=>⟨o,I,Q,g e<|ac e d,d,r⟩;have R:K.In<|Pg f.heap H:=λb o e=>g (KX b o e) (by
   cases q:H b with
   |none=>rfl
   |some u =>
    rcases Z b (by rw[q];simp) with p | p
    .subst p;rw[hK (by rw[q];simp)] at e;cases e
    .have D:=KX b o e;rw[i b p] at D;have M:=eM.mp sg (b,o) (W.mem_of_lookupK e)
     cases D;exact _D (show _r=_h from M) _P)
  have hM:Mod K mg<|Pg f.heap H:=⟨R,B S,⟨mb,B c,ab⟩,let ⟨mc,h1,M⟩:=P';⟨mc,B h1,M⟩⟩
  have e0:Vm P w K mg (Pg f.heap H) callerA [] f H:=⟨U,hM,λb o e=>iW e,_am<|X5 _ _,trivial,λb c=>_D (show b∈([]:_b _g) from c) (by simp),O,.of_eq hg⟩;have tk:∀q∈tabs,Hl mg (Pg f.heap H) q.1 q.2:=λq j=>by
   have plain:∀{b:_g}{o:ü},f.heap.get? b=_a o->(∀T n,o.data≠.seq T n)->o.cls≠.none->H b=none:=λ{b o} e h1 M=>by
    cases z:H b with
    |none=>rfl
    |some u =>
     rcases Z b (by rw[z];simp) with p | p
     .subst p;rw[E] at e;cases e;exact _D U<|h1 _ _
     .rw[i b p] at e
      cases e;exact _D U M
   obtain⟨o,AV,QY,tf,FL,tg,aa,G,tt,J,r1,r2,r3⟩:=(L q j).1;obtain⟨bm,ob,b1,b2,b3,b4,b5,b6⟩:=Y;refine⟨⟨o,AV,QY,tf,FL,tg,aa,G,tt,g J (plain J (λT n z=>by rw[r2] at z;cases z) (λz=>by rw[r1] at z;cases z)),r1,r2,r3⟩,bm,ob,b1,b2,g b3 (plain b3 (λT n z=>by rw[b6] at z;cases z) (λz=>by rw[b4] at z;cases z)),b4,b5,b6⟩
  refine é ((F _ R (B S) tk).run callerA [] f H ⟨[.ref a],[]⟩ [.ref a] [.ref a] _ _ hr e0 (tI f<|.ref a) (.cons U .nil) (xy H E7 hS)) λr s' h=>?_
  cases r with
  |error e=>exact (MQ H e s' h).elim
  |ok fl =>
   cases fl with
   |next=>exact Ν h
   |brk=>exact Ν h
   |cont=>exact Ν h
   |ret u =>
    obtain⟨v,H',os,N,un,FX,r',q⟩:=h;have q':v=.bl true:=q;subst q';obtain rfl:u=Ź true:=r';have l:∀b o,b∈tabs.map (·.2)->f.heap.get? b=_a o->isCodeTable f.heap b/\o=ŕ #[]/\∃ps,s'.heap.get? b=_a (ŕ ps):=λb o c e=>by
     obtain⟨q,j,rfl⟩:=ay.mp c;have D:=(L q j).2;rw[e] at D;obtain⟨an,hm⟩:=un.tbls _ _<|E7 q j;exact⟨((L q j).1.tab (L q j).2).isCodeTable,_m D,_,FX _ _ hm⟩
    have keep:∀b o,b ∉ tabs.map (·.2)->f.heap.get? b=_a o->s'.heap.get? b=_a o:=λb o c e=>by
     cases q:H b with
     |none=>exact un.keep b o e q (by intro z;exact _D (show b∈([]:_b _g) from z)<|by simp)<|by simp
     |some u =>
      rcases hO b with z | ⟨ob,T,z⟩ | ⟨z,_⟩
      .rw[q] at z;cases z
      .have z2:=un.frzs b ob _ z;obtain⟨J,_⟩:=O b _ z;obtain⟨D,_⟩:=FX b _ z2;rw[e] at J;cases J;exact D
      .exact _D z c
    refine⟨U,⟨λb o e=>?_,λb o e=>?_⟩,os,N⟩
    .by_cases c:b∈tabs.map (·.2)
     .obtain⟨ht,rfl,ps,hP⟩:=l b o c e;exact .inr<|.inl ⟨ht,U,#[],ps,U,by rw[Array.empty_append];exact hP⟩
     .exact .inl<|keep b o c e
    .by_cases c:b∈tabs.map (·.2)
     .obtain⟨_,_,ps,hP⟩:=l b o c e;exact⟨_,hP⟩
     .exact⟨o,keep b o c e⟩
 have t:∀(X:Hp),(∀b u,X b=_a u->b=a)->∀q∈tabs,(λb=>if b∈tabs.map (·.2) then _a (HO.tbl #[]) else X b) q.2=_a (.tbl #[]):=λX _ q j=>_o<|cS j
 cases hk:K.lookup a with
 |some o =>
  have e:=KX a o hk;rw[E] at e
  cases e;refine C (λb=>if b∈tabs.map (·.2) then _a (.tbl #[]) else _n) (λb=>?_) (t (λ_=>_n) (λb u z=>by cases z)) (.inr ⟨_,vs.toArray,_,hk,rfl,rfl,rfl,by rw[_Z,OZ];exact hl,by simpa using rv⟩) (λb u z=>?_) (λb z=>?_) λz=>_D (_l aP) z
  .by_cases c:b∈tabs.map (·.2)
   .exact .inr<|.inr ⟨c,_o c⟩
   .exact .inl<|_l c
  .by_cases c:b∈tabs.map (·.2)
   .have A:=(_o c).symm.trans z
    cases A;exact i b c
   .have A:=(_l c).symm.trans z
    cases A
  .by_cases c:b∈tabs.map (·.2)
   .exact .inr c
   .exact _D (_l c) z
 |none =>
  refine C (λb=>if b∈tabs.map (·.2) then _a (.tbl #[]) else if b=a then _a (.frz { cls:=.type "list",data:=.seq vs.toArray } (.lst<|ns.map V.int)) else _n) (λb=>?_) (λq j=>_o<|cS j) (.inl<|.inr ⟨{ cls:=.type "list",data:=.seq vs.toArray },(_l aP).trans<|_o U⟩) (λb u z=>?_) (λb z=>?_) λ_=>hk
  .by_cases c:b∈tabs.map (·.2)
   .exact .inr<|.inr ⟨c,_o c⟩
   .by_cases y:b=a
    .exact .inr<|.inl ⟨_,_,(_l c).trans<|_o y⟩
    .exact .inl<|(_l c).trans<|_l y
  .by_cases c:b∈tabs.map (·.2)
   .have A:=(_o c).symm.trans z
    cases A;exact i b c
   .have z1:=(_l c).symm.trans z;by_cases y:b=a
    .have A:=(_o y).symm.trans z1
     cases A;subst y;exact⟨E,by rw[ah];exact hl,vs,_,rv,E⟩
    .have A:=(_l y).symm.trans z1
     cases A
  .by_cases c:b∈tabs.map (·.2)
   .exact .inr c
   .by_cases y:b=a
    .exact .inl y
    .exact _D ((_l c).trans<|_l y) z
theorem Y4{l:UX}{k:_d}{q:Ð}{p:_b _A}{z:(_A->_t _j)->Θ->Prop}{m:_O->Θ->Prop}{d:DefRec}{K:ň->_s}{CX:_O->YM}{sp:_O->Sp}{tabs:_b (_g×_g)}
  (A:l.most=_a n)(i:n<=sizeLine)(t:d.params.defaults=[])(Z:Df k callerA)
  (hY:∀(w:_O)(h:Θ),m w h->(K w.params).In h)(I:∀w:_O,_ao (K w.params)=_h)
  (P:∀(w:_O)(mg j:_A->_t _j)(Q:ExcName->_t _j)(h:Θ),Top q (W.looseW q p) Q mg j h->(K w.params).In h->_an tabs h)
  (F:∀(w:_O)(mg:_A->_t _j)(c:_g)(h:Θ),(K w.params).In h->h.Ns mainGlobals mg->mg d.name=_a (.ref c) ->
   ∃fd:ė,(∀(s:_C)(u:_j),Ż s fd ⟨[u],[]⟩ [(x,u)]) /\
    ∀base:Θ,(K w.params).In base->base.Ns mainGlobals mg->(∀q∈tabs,Hl mg base q.1 q.2)->Gu l.prog w (K w.params) mg base (CX w) k c fd [x] (sp w))
  (E:∀(w:_O)(H:Hp)(a:_g)(ns:_b _i),ns.length<=n->(∀q∈tabs,H q.2=_a (.tbl #[]))->Cp (K w.params) H a (ns.map V.int)->sp w [.ref a] H (λv _=>v=.bl _h) λ_ _ _=>Χ)
  (MQ:∀(w:_O)(H:Hp)(s:_C)(e:_j)(s':_C),CX w [] H s (λ_ _ _=>Χ) e s'->Χ) :
  W.WalkO q p z m l.row.toRowW d [] (λf vs=>PySem.call f vs):=by
 refine Att.TF A t λw s₀ r mg j c o pm cd rV a vs ns G Y ho hd sM X DV yn b B=>?_;have g:=hY w _ Y;obtain⟨fd,y,T⟩:=F w mg c _ g G.T.g X;obtain⟨M,S,D,R,b3,L,O,N⟩:=G.T.bmain;exact XN g G.T.g G.T.b G.T.builtins G.T.nolimit B (P w mg j _ _ G.T g) (I w) ⟨M,S,D,R,b3,L,O,N⟩ DV yn (bo b i) Z T y (λH C J=>E w H a ns b C J) λH e s'=>MQ w H r e s'
end L2
namespace Bw
abbrev Tr:=_i×_i×_i
abbrev Dr:=_b Tr
def Chain:_i->Dr->Prop
 |_,[]=>True
 |t,x::r=>x.1=t/\x.1<x.2.1/\Chain x.2.1 r
def cnt(x:Tr):Nat:=(x.2.1 - x.1).toNat
noncomputable def tk(P:_i):Dr->_b _i
 |[]=>[]
 |x::r=>Ü (cnt x) (x.2.2 - P)++tk P r
noncomputable def stp(e x:_i):Int:=max 0<|e+x
def EF(e:_i)(W:_b _i):Int:=W.foldl stp e
abbrev E(W:_b _i):Int:=EF 0 W
noncomputable def fl(BY:_i):_i->_b _i->_t _d
 |_,[]=>_n
 |e,x::r=>if e+x > BY then _a 0 else (fl BY (stp e x) r).map (· + 1)
noncomputable def good(BY e x:_i)(c:_d):Int:=if BY - e - x<0 then 0 else if -x ≥ 0 then (c:_i) else min (c:_i) ((BY - e) / x)
noncomputable def ps:_i->_b _i->_b _i
 |s,[]=>[s]
 |s,x::r=>s::ps (s+x) r
end Bw
namespace Bw
noncomputable def ov(f b:_i)(x:Tr):Int:=max 0<|min x.2.1 b - max x.1 f
noncomputable def byS(P f b:_i)(x:Tr):Int:=(x.2.2 - P) * ov f b x
end Bw
namespace Bw
open PySem L2 Og
theorem M8{α:Type}{xs:_b α}{v:α}:TQ (xs++[v]) (-1)=_a v:=by
 unfold TQ kj;rw[_l (by decide),_o<|by simp;lia];simp;rw[show (-1+((xs.length:_i)+1)).toNat=xs.length by lia];simp
abbrev K3(x:Tr):_b V:=[.int x.1,.int x.2.1,.int x.2.2]
structure Ly(H:Hp)(a:_g)(d:Dr)(ys:_b V):Prop where
 l:H a=_a (.lst ys)
 p:Paired (λx v=>TupAt H (K3 x) v) d ys
theorem Ly.mono{d:Dr}(h:Ly H a d ys)(s:Al H H'):Ly H' a d ys:=⟨s _ _ h.l,Ao s h.p⟩
theorem Ly.len{d:Dr}(h:Ly H a d ys):d.length=ys.length:=h.p.length
theorem Ly.at{d:Dr}(h:Ly H a d ys)(hi:ys[i]? = _a y):∃x T,d[i]? = _a x/\x∈d/\y=.ref T/\H T=_a (.tup<|K3 x):=by
 obtain⟨x,b,T,e,q⟩:=Og.Do h.p hi;exact⟨x,T,b,am b,e,q⟩
theorem Tz{α:Type}{l:_b α}{x:α}(h:l[i]? = _a x):l=l.take i++x::l.drop (i+1)/\l.take (i+1)=l.take i++[x]:=by
 obtain⟨a,e⟩:=ag.mp h;refine⟨?_,?_⟩
 .rw[<-e,<-tz a,eR]
 .rw[ck,h];rfl
def Bd(d:Dr):Prop:=∀x∈d,0<=x.2.2/\x.2.2<2 ^ 41/\x.2.1 - x.1<2 ^ 35
theorem Xy{c A B:Prop}[sv c](a:c)(h:A):if decide c=_h then A else B:=by
 rw[_v a];exact h
theorem UJ{c A B:Prop}[sv c](a:¬ c)(h:B):if decide c=_h then A else B:=by
 rw[_L a];exact h
theorem Ly.snoc{T:_g}{d:Dr}{x:Tr}(A:Ly H l d ys)(a:H T=_a (.tup<|K3 x)):Ly (L2.upd H l<|.lst<|ys++[.ref T]) l (d++[x]) (ys++[.ref T]) :=
 ⟨Ai,Paired.snoc (Bv A.p A.l)<|TupAt.upd ⟨T,U,a⟩ A.l⟩
inductive XD(K:_s)(vs:_b V)(H:Hp)(Q:VK)(f6:XK):Prop
|mk(a:_g)(k:_d)(ns:_b _i)(_:vs=[.ref a,.int (k:_d)])(_:Cp K H a (ns.map V.int))(_:∀c,Q (.int c) H)
inductive Q9(vs:_b V)(H:Hp)(Q:VK)(f6:XK):Prop
|mk(x:V)(b:_V)(_:vs=[x])(_:(∃i,x=.int i/\b=_h) \/ (x=.non/\b=_r))(_:Q (.bl b) H)
noncomputable def gd(th ri c:_i):Int:=if th+ri<0 then 0 else if ri ≥ 0 then c else if th / -ri<c then th / -ri else c
inductive Zw(vs:_b V)(H:Hp)(Q:VK)(f6:XK):Prop
|mk(l:_g)(d:Dr)(ys:_b V)(P f b:_i)(_:vs=[.ref l,.int P,.int f,.int b])(_:Ly H l d ys)(_:Bd d)(_:0<=P)(_:P<2 ^ 60)(_:Q (.int (d.map (byS P f b)).sum) H)
inductive Vr(vs:_b V)(H:Hp)(Q:VK)(f6:XK):Prop
 | mk(l:_g)(d:Dr)(ys:_b V)(P BY T:_i):vs=[.ref l,.int P,.int BY,.int T]->Ly H l d ys->Chain 0 d->Bd d->d.length<=100->0<=P->P<2 ^ 60->0<=BY->0<=T->T<(tk P d).length->(∀H',Al H H'->Q (.bl _h) H')->Vr vs H Q f6
end Bw
namespace Ro
abbrev T3:=_i×_i×_i
def DN(l:_b T3)(tr t:_i):Prop:=∃h∈l,h.1=tr/\h.2.1<=t/\t<h.2.2
theorem DN.app{a b:_b T3}{d:_i}:DN (a++b) d t ↔ DN a d t \/ DN b d t:=by
 constructor
 .rintro⟨h,c,r⟩;rcases aE.mp c with c | c
  .exact .inl ⟨h,c,r⟩
  .exact .inr ⟨h,c,r⟩
 .rintro (⟨h,c,r⟩ | ⟨h,c,r⟩)
  .exact⟨h,cm _ c,r⟩
  .exact⟨h,db _ c,r⟩
theorem DN.one{h:T3}{a:_i}:DN [h] a t ↔ h.1=a/\h.2.1<=t/\t<h.2.2:=by
 constructor
 .rintro⟨g,b,r⟩;rw[al.mp b] at r;exact r
 .intro r;exact⟨h,al.mpr U,r⟩
theorem DN.perm{a b:_b T3}(p:∀x,x∈a ↔ x∈b){d:_i}:DN a d t ↔ DN b d t :=
 ⟨λ⟨h,c,r⟩=>⟨h,(p h).mp c,r⟩,λ⟨h,c,r⟩=>⟨h,(p h).mpr c,r⟩⟩
def Sep(l:_b T3):Prop:=(∀h∈l,h.2.1<h.2.2)/\∀g∈l,∀h∈l,g.1=h.1->g=h \/ g.2.2<h.2.1 \/ h.2.2<g.2.1
def UW(a b:T3):Prop:=a.2.1<b.2.1 \/ (a.2.1=b.2.1/\a.1<b.1)
structure Canon(l:_b T3):Prop where
 sep:Sep l
 srt:l.Pairwise UW
theorem Sep.mem{l:_b T3}(s:Sep l){k f b:_i}:(k,f,b)∈l ↔ f<b/\(∀t,f<=t->t<b->DN l k t)/\¬ DN l k (f - 1)/\¬ DN l k b:=by
 have j:∀{h:T3},h∈l->¬ DN l h.1 (h.2.1 - 1)/\¬ DN l h.1 h.2.2:=λ{h} c=>by
  have z:=s.1 h c;refine⟨?_,?_⟩
  .rintro⟨g,a,e,m,n⟩;rcases s.2 g a h c e with d | d | d
   .rw[d] at m;lia
   .lia
   .lia
  .rintro⟨g,a,e,m,n⟩;rcases s.2 g a h c e with d | d | d
   .rw[d] at n;lia
   .lia
   .lia
 constructor
 .intro c;obtain⟨p,o⟩:=j c;exact⟨s.1 _ c,λt r q=>⟨_,c,U,r,q⟩,p,o⟩
 .rintro⟨u,x,r,q⟩;obtain⟨g,a,e,m,n⟩:=x f (nc _) u;obtain⟨p,o⟩:=j a;have B:=s.1 g a;rw[e] at p o;have w:g.2.1=f:=by
   by_cases i:g.2.1<f
   .exact _D ⟨g,a,e,by lia,by lia⟩ r
   .lia
  have y:g.2.2=b:=by
   by_cases i:g.2.2<b
   .exact _D (x g.2.2 (by lia) i) o
   .by_cases v:b<g.2.2
    .exact _D ⟨g,a,e,by lia,v⟩ q
    .lia
  have:g=(k,f,b):=by
   obtain⟨m,n,A⟩:=g;simp only at e w y;rw[e,w,y]
  rw[<-this];exact a
theorem Gg{α:Type}{R:α->α->Prop}(d:∀a,¬ R a a)(f:∀a b,R a b->¬ R b a):∀{l m:_b α},l.Pairwise R->m.Pairwise R->(∀x,x∈l ↔ x∈m)->l=m
 |[],[],_,_,_=>rfl
 |[],y::m,_,_,h=>by
  have:=(h y).mpr<|be ..
  cases this
 |x::l,[],_,_,h=>by
  have:=(h x).mp<|be ..
  cases this
 |x::l,y::m,s,n,h=>by
  obtain⟨j,q⟩:=fF.mp s;obtain⟨k,o⟩:=fF.mp n;have i:x=y:=by
   rcases bq.mp ((h x).mp (be ..)) with e | r
   .exact e
   .rcases bq.mp ((h y).mpr (be ..)) with e | p
    .exact e.symm
    .exact _D (j y p)<|f _ _<|k x r
  subst i;rw[Gg d f q o λz=>?_];constructor
  .intro g;rcases bq.mp ((h z).mp (aT _ g)) with e | c
   .subst e;exact _D (j _ g)<|d _
   .exact c
  .intro g;rcases bq.mp ((h z).mpr (aT _ g)) with e | c
   .subst e;exact _D (k _ g)<|d _
   .exact c
theorem HR{a b:_b T3}(c:Canon a)(d:Canon b)(h:∀tr t,DN a tr t ↔ DN b tr t):a=b:=by
 refine Gg (R:=UW) (λx g=>?_) (λx y e i=>?_) c.srt d.srt λx=>?_
 .unfold UW at g;lia
 .unfold UW at e i;lia
 .obtain⟨tr,f,j⟩:=x;rw[c.sep.mem,d.sep.mem];simp only[h]
def qN(a b:T3):Prop:=a.1<b.1 \/ (a.1=b.1/\(a.2.1<b.2.1 \/ (a.2.1=b.2.1/\a.2.2<=b.2.2)))
structure Uj(pre hs:_b T3):Prop where
 pos:∀h∈hs,h.2.1<h.2.2
 ord:hs.Pairwise λa b=>a.1<b.1 \/ (a.1=b.1/\a.2.2<b.2.1)
 cov:∀tr t,DN hs tr t ↔ DN pre tr t
 lst:∀ini h,hs=ini++[h]->∃g∈pre,g.1=h.1/\g.2.1=h.2.1
 mx:∀h∈hs,∃g∈pre,g.1=h.1/\h.2.1<=g.2.1
theorem Uj.nil:Uj [] []:=⟨λ_ h=>_D h Μ,.nil,λ_ _=>Iff.rfl,λa h e=>by simp at e,λ_ h=>_D h Μ⟩
theorem Uj.push{f i:_b T3}{s:T3}(M:Uj f i)(A:s.2.1<s.2.2)(n:∀g∈f,qN g s)(k:∀ini h,i=ini++[h]->¬ (h.1=s.1/\s.2.1<=h.2.2)):Uj (f++[s])<|i++[s]:=by
 have m:∀h∈i,h.1<s.1 \/ (h.1=s.1/\h.2.2<s.2.1):=λh c=>by
  have d:∀ini z,i=ini++[z]->z.1<s.1 \/ (z.1=s.1/\z.2.2<s.2.1):=λini z e=>by
   obtain⟨g,l,D,C⟩:=M.mx z<|by rw[e];simp
   have u:=n g l;have v:=k ini z e;unfold qN at u;by_cases o:z.1=s.1
   .refine .inr ⟨o,?_⟩;by_cases y:s.2.1<=z.2.2
    .exact _D ⟨o,y⟩ v
    .lia
   .lia
  rcases zB i with e | ⟨ini,z,e⟩
  .rw[e] at c;cases c
  .have j:i=ini++[z]:=by rw[e];simp
   have w:=d ini z j;have B:=M.pos z<|by rw[j];simp
   rw[j] at c;rcases aE.mp c with c | c
   .have p:=M.ord;rw[j,fk] at p;have:=p.2.2 h c z<|al.mpr U
    lia
   .rw[al.mp c];exact w
 refine⟨λh c=>?_,?_,λE t=>?_,λini h e=>?_,λh c=>?_⟩
 .rcases aE.mp c with c | c
  .exact M.pos h c
  .rw[al.mp c];exact A
 .rw[fk];refine⟨M.ord,ic _ _,λa x b q=>?_⟩;rw[al.mp q];exact m a x
 .rw[DN.app,DN.app,M.cov]
 .have:h=s:=by
   have:=congrArg Ŗ e;simp at this;exact this.symm
  subst this;exact⟨h,by simp,U,U⟩
 .rcases aE.mp c with c | c
  .obtain⟨g,l,r⟩:=M.mx h c;exact⟨g,cm _ l,r⟩
  .rw[al.mp c];exact⟨s,by simp,U,_aF _⟩
theorem Uj.join{i f:_b T3}{h s:T3}(M:Uj i<|f++[h])(n:∀g∈i,qN g s)(A:h.1=s.1)(D:s.2.1<=h.2.2):Uj (i++[s])<|f++[(s.1,h.2.1,max h.2.2 s.2.2)]:=by
 have F:=M.pos h<|by simp
 obtain⟨g,p,G,z⟩:=M.lst f h U;have u:=n g p;unfold qN at u;have w:h.2.1<=s.2.1:=by lia
 have m:=M.ord;rw[fk] at m;refine⟨λk d=>?_,?_,λC t=>?_,λE k e=>?_,λk d=>?_⟩
 .rcases aE.mp d with d | d
  .exact M.pos k<|cm _ d
  .rw[al.mp d];show h.2.1<max h.2.2 s.2.2;lia
 .rw[fk];refine⟨m.1,ic _ _,λa x b q=>?_⟩;rw[al.mp q];have:=m.2.2 a x h<|al.mpr U
  show a.1<s.1 \/ (a.1=s.1/\a.2.2<h.2.1);lia
 .rw[DN.app,DN.app,<-M.cov,DN.app,DN.one,DN.one,DN.one];show (_ \/ (s.1=C/\h.2.1<=t/\t<max h.2.2 s.2.2)) ↔ _;rw[A];constructor
  .rintro (c | ⟨j,l,o⟩)
   .exact .inl<|.inl c
   .by_cases v:t<h.2.2
    .exact .inl<|.inr ⟨j,l,v⟩
    .exact .inr ⟨j,by lia,by lia⟩
  .rintro ((c | ⟨j,l,o⟩) | ⟨j,l,o⟩)
   .exact .inl c
   .exact .inr ⟨j,l,by lia⟩
   .exact .inr ⟨j,by lia,by lia⟩
 .have:k=(s.1,h.2.1,max h.2.2 s.2.2):=by
   have:=congrArg Ŗ e;simp at this;exact this.symm
  subst this;exact⟨g,Õ _ p,by show g.1=s.1;lia,z⟩
 .rcases aE.mp d with d | d
  .obtain⟨B,y,r⟩:=M.mx k<|cm _ d;exact⟨B,cm _ y,r⟩
  .rw[al.mp d];exact⟨s,by simp,U,w⟩
theorem Uj.sep{j p:_b T3}(M:Uj j p):Sep p:=by
 refine⟨M.pos,?_⟩;have k:∀{l:_b T3},l.Pairwise (λa b=>a.1<b.1 \/ (a.1=b.1/\a.2.2<b.2.1))->∀g∈l,∀h∈l,g.1=h.1->g=h \/ g.2.2<h.2.1 \/ h.2.2<g.2.1:=λ{l}=>by
  induction l with
  |nil=>intro _ g f;cases f
  |cons x l q =>
   intro r g f h n e;obtain⟨o,s⟩:=fF.mp r;rcases bq.mp f with m | d
   .rcases bq.mp n with i | c
    .exact .inl<|m.trans i.symm
    .have:=o h c;rw[<-m] at this;lia
   .rcases bq.mp n with i | c
    .have:=o g d;rw[<-i] at this;lia
    .exact q s g d h c e
 exact k M.ord
theorem Sep.perm{a b:_b T3}(s:Sep a)(p:∀x,x∈b->x∈a):Sep b:=⟨λh c=>s.1 h<|p h c,λg d h c e=>s.2 g (p g d) h (p h c) e⟩
theorem Xm{l:_b T3}(s:Sep l)(d:l.Nodup)(f:l.Pairwise λa b=>¬ UW b a):l.Pairwise UW:=by
 have h:∀{l:_b T3},Sep l->l.Nodup->l.Pairwise (λa b=>¬ UW b a)->l.Pairwise UW:=λ{l}=>by
  induction l with
  |nil=>intro _ _ _;exact .nil
  |cons x l n =>
   intro s d f;obtain⟨q,m⟩:=fF.mp f;obtain⟨i,o⟩:=fR.mp d;refine fF.mpr ⟨λy c=>?_,n (s.perm λz k=>aT _ k) o m⟩;have p:=q y c;have r:=s.1 x<|be ..
   have j:=s.1 y<|aT _ c
   unfold UW at p |-;by_cases e:x.2.1=y.2.1/\x.1=y.1
   .rcases s.2 x (be ..) y (aT _ c) e.2 with g | g | g
    .exact _D (g ▸ c) i
    .lia
    .lia
   .lia
 exact h s d f
end Ro
namespace Ro
open PySem L2 Og
abbrev Cz:=Bw.Ly
structure M7 where
 P1:_g
 pos1:ĵ
 q1:_A
def Tb(B:M7)(H:Hp):Prop:=Rk H B.P1 B.pos1 B.q1
def Kp(B:M7)(H H':Hp):Prop:=∀b o,(∀ps,o≠.tbl ps)->H b=_a o->H' b=_a o
theorem Kp.of{B:M7}(s:Al H H'):Kp B H H':=λb o _ e=>s b o e
theorem Kp.trans{B:M7}(a:Kp B H H1)(b:Kp B H1 H2):Kp B H H2:=λc o n e=>b c o n<|a c o n e
theorem Tb.same{B:M7}(t:Tb B H)(s:Al H H'):Tb B H':=Rk.same t s
theorem Cz.kp{B:M7}{d:_b T3}(h:Cz H a d ys)(k:Kp B H H'):Cz H' a d ys :=
 ⟨k _ _ (λ_ z=>by cases z) h.l,Paired.Em h.p λx v ⟨T,e,q⟩=>⟨T,e,k _ _ (λ_ z=>by cases z) q⟩⟩
theorem Mi{ts:_b T3}(f:Paired (λt y=>TupAt H (Jw t) y) ts vs){a:_b _d}(b:∀i∈a,i<vs.length):Paired (λt y=>TupAt H (Jw t) y) (a.map λi=>ts.getD i (0,0,0))<|a.map λi=>vs.getD i .non:=by
 induction a with
 |nil=>exact .nil
 |cons i a e =>
  refine .cons ?_<|e λj d=>b j<|aT _ d
  have c:=b i<|be ..
  obtain⟨t,g,h⟩:=Do f<|af c;show TupAt H (Jw<|ts.getD i (0,0,0)) (vs.getD i .non);rw[ax,ax,g,af c];exact h
theorem Ig{α:Type}{ts:_b α}{z:α}{b:_b _d}(c:b.Perm<|_B ts.length)(x:α):x∈b.map (λi=>ts.getD i z) ↔ x∈ts:=by
 rw[ay];constructor
 .rintro⟨i,a,rfl⟩;have:=dL.mp<|c.mem_iff.mp a
  rw[ax,af this];exact de this
 .intro d;obtain⟨i,a,e⟩:=io d;exact⟨i,c.mem_iff.mpr<|dL.mpr a,by rw[ax,af a];exact e⟩
theorem VP{α:Type}{ts:_b α}{z:α}{b:_b _d}(c:b.Perm<|_B ts.length)(d:ts.Nodup):(b.map λi=>ts.getD i z).Nodup:=by
 have e:ts=(_B ts.length).map λi=>ts.getD i z:=by
  refine gp λi=>?_;by_cases a:i<ts.length
  .rw[ar,Cb a,af a];show _a _=_a (ts.getD i z);rw[ax,af a];rfl
  .rw[Ē (by lia),Ē<|by simp;lia]
 have f:(b.map λi=>ts.getD i z).Perm ts:=by
  have:=c.map λi=>ts.getD i z;rw[<-e] at this;exact this
 exact f.nodup_iff.mpr d
theorem gM{ts:_b T3}{a:_b _d}(pw:a.Pairwise<|λi j=>Sq.Hm (ts.getD j (0,0,0)) (ts.getD i (0,0,0))=_r):(a.map λi=>ts.getD i (0,0,0)).Pairwise qN:=by
 rw[ft];refine pw.imp λ{i j} h=>?_;rw[Sq.K9] at h;unfold qN;lia
theorem Zu{ts:_b T3}{c:_b _d}(pw:c.Pairwise<|λi j=>Sq.F_ (Yo<|ts.getD j (0,0,0)) (Yo<|ts.getD i (0,0,0))=_r):(c.map λi=>ts.getD i (0,0,0)).Pairwise λa b=>¬ UW b a:=by
 rw[ft];refine pw.imp λ{i j} h=>?_;rw[Sq.Nk] at h;unfold UW;exact h
theorem canon_of{a:_b T3}{b:_b _d}(s:Sep a)(e:a.Nodup)(d:b.Perm<|_B a.length)(pw:b.Pairwise<|λi j=>Sq.F_ (Yo<|a.getD j (0,0,0)) (Yo<|a.getD i (0,0,0))=_r):Canon (b.map λi=>a.getD i (0,0,0)) :=
 ⟨s.perm λx c=>(Ig d x).mp c,Xm (s.perm λx c=>(Ig d x).mp c) (VP d e)<|Zu pw⟩
theorem Uj.nodup{a b:_b T3}(M:Uj a b):b.Nodup:=by
 have c:=M.pos;have j:=M.ord;clear M
 induction b with
 |nil=>exact .nil
 |cons x l g =>
  obtain⟨i,f⟩:=fF.mp j;refine fR.mpr ⟨λe=>?_,g (λh d=>c h<|aT _ d) f⟩;have m:=i x e;have k:=c x<|be ..
  lia
structure d9(K:_s)(x qual:_A)(st:ĭ)(f:_g)(fd:ė)(c:_g):Prop where
 ex:∃(oc:_j)(od:_t _g)(kV rV pm:_j)(an:_t _g)(ct:_j)(wb:_E<|_t _j),
  fd=Ħ x qual (Ei st) (DX st) (Ae st) .none kV rV pm an (.ref c) ct/\K.lookup f=_a ⟨oc,od,.func fd,wb⟩/\ű K (.ref c) qual=_h
 kp:Ć K (.ref f)=_h
theorem d9.ok{w:_O}{K:_s}{c:_g}{N ps:_b _A}{k:_d}(F:d9 K x qual st f fd c)(S:Aq N ps<|Ae st)(len:∀vs H Q E,sp vs H Q E->vs.length=ps.length)
  (b:∀(A:ù)(a:_b ŧ)(s:_C)(H:Hp)(vs:_b V)(Q:VK)(E:XK),Df k (A.deeper<|_aG qual (Ae st) s.heap.objs.size f<|.ref c)->sp vs H Q E ->
   ∃t,Ra (Mp BW P w K mg base N qual (Ae st) f (.ref c) A a s H E).m7 (DX st) t/\t { nx:=λ_ H'=>Q .non H',rt:=Q } (start N vs) H):Gu P w K mg base BW (k+1) f fd ps sp:=by
 obtain⟨n,p,kV,r,l,j,o,m,rfl,i,e⟩:=F.ex;refine ZK i e S len λA a s H vs Q E d g=>?_;obtain⟨t,h,q⟩:=b A a s H vs Q E d g;exact⟨t,h.m7,q⟩
theorem Uc{τ:_b _i}(h:τ.Nodup)(k:_i):(Wd.GC τ k).Nodup:=by
 unfold Wd.GC;split
 .exact h
 .rename_i c;exact Ţ.mpr ⟨h,by simp,λx b y a=>by
   rw[al.mp a];intro q;exact c<|q ▸ b⟩
theorem MT:∀(ns τ:_b _i),τ.Nodup->(ns.foldl Wd.GC τ).Nodup
 |[],_,h=>h
 |n::ns,τ,h=>MT ns _<|Uc h n
theorem Vs{ms:_b _i}(c:ms.Perm<|ns.foldl Wd.GC [])(d:ms.Pairwise (· <= ·)):ms.Pairwise (· < ·)/\∀x,x∈ms ↔ x∈ns:=by
 have e:ms.Nodup:=c.nodup_iff.mpr<|MT ns [] .nil
 refine⟨?_,λx=>?_⟩
 .have:=kX.mpr ⟨d,e⟩;refine this.imp λ{a b} h=>?_;have g:=h.1;have f:a≠b:=h.2;lia
 .rw[c.mem_iff,Wd.Pq];simp
theorem Ip{α:Type}[Ķ α]:∀{l m:_b α},l.Nodup->(∀x∈l,x∈m)->l.length<=m.length
 |[],m,_,_=>cK _
 |x::l,m,d,h=>by
  obtain⟨f,g⟩:=fR.mp d;have c:=h x<|be ..
  have:=Ip (m:=m.erase x) g λy b=>by
   have a:y≠x:=λe=>f<|e ▸ b
   exact (AI a).mpr<|h y<|aT _ b
  rw[ve c] at this;have i:=kF c;rw[zdl];lia
theorem Ul{l m:_b _i}(d:l.Pairwise (· < ·))(c:m.Pairwise (· < ·))(h:∀x,x∈l ↔ x∈m):l=m:=Gg (R:=(· < ·)) (λa h=>by lia) (λa b e f=>by lia) d c h
theorem WQ{K:_s}{Q:VK}{d:_b T3}(p:T3->_V)(f:T3->V)(A:Cz H1 l d ys)(hz:ys.length<sizeLine)
  (B:∀x∈d,∀T,H1 T=_a (.tup<|Jw x)->∀H,Al H1 H->∀R:_V->Hp->Prop,(∀H',Al H H'->R (p x) H')->tt (_a (.ref T)::σ) H R)
  (w:∀x∈d,p x=_h->∀T,H1 T=_a (.tup<|Jw x)->∀H,Al H1 H->∀R:VK,(∀H',Al H H'->R (f x) H')->te (_a (.ref T)::σ) H R)
  (C:∀D H,H1 D=_n->Al H1 H->H D=_a (.lst<|(d.filter p).map f)->Q (.ref D) H):FJ (dG K l) σ H1 Q tt te:=by
 let m:V->T3:=λv=>match v with | .ref T=>(match H1 T with | some (.tup [.int a,.int b,.int c])=>(a,b,c) | _=>(0,0,0)) | _=>(0,0,0)
 have e:∀{x:T3}{T:_g},H1 T=_a (.tup<|Jw x)->m (.ref T)=x:=λ{x T} h=>by
  show (match H1 T with | some (.tup [.int a,.int b,.int c])=>(a,b,c) | _=>(0,0,0))=x;rw[h]
 refine DG (K:=K) (xs:=ys) (λv=>p<|m v) (λv=>f<|m v) (.inl<|.inl A.l) hz (λy q H' n R k=>?_) (λy q j H' n R k=>?_)<|λD E z n I=>C D E z n ?_
 .obtain⟨i,s⟩:=ge q;obtain⟨x,o,F,r,rfl,g⟩:=A.at s;rw[e g] at k;exact B x r o g H' n R k
 .obtain⟨i,s⟩:=ge q;obtain⟨x,o,F,r,rfl,g⟩:=A.at s;rw[e g] at k j;exact w x r j o g H' n R k
 .rw[I];congr 2;have t:∀{d:_b T3}{ys:_b V},Paired (λx v=>TupAt H1 (Jw x) v) d ys->(ys.filter λv=>p<|m v).map (λv=>f<|m v)=(d.filter p).map f:=λ{d ys} J=>by
   induction J with
   |nil=>rfl
   | @cons x v d ys L M u =>
    obtain⟨o,rfl,g⟩:=L;have G:p (m<|.ref o)=p x:=by rw[e g]
    rw[eJ,eJ,G];by_cases j:p x=_h
    .rw[_o j,_o j,df,df,u,e g]
    .rw[_l j,_l j,u]
  exact t A.p
theorem VH{K:_s}{Q:VK}(ok:T3->Prop)(p:Cp K H1 a xs)(hz:xs.length<sizeLine)
  (E:∀x∈xs,∀H,Al H1 H->∀R:_V->Hp->Prop,(∀H',Al H H'->R _h H')->tt (_a x::σ) H R)
  (w:∀x∈xs,∀H,Al H1 H->∀R:VK,(∀T t H',Al H H'->H' T=_a (.tup<|Jw t)->ok t->R (.ref T) H')->te (_a x::σ) H R)
  (J:∀D H ts ys,H1 D=_n->Al H1 H->Cz H D ts ys->(∀t∈ts,ok t)->ts.length=xs.length->Q (.ref D) H):FJ (dG K a) σ H1 Q tt te:=by
 intro D j;have I:Al H1<|upd H1 D<|.lst []:=λb o e=>by rw[An (Ak e j)];exact e
 refine⟨λi m ys H=>m=xs.length - i/\i<=xs.length/\Al H1 H/\∃ts,Cz H D ts ys/\(∀t∈ts,ok t)/\ts.length=i,⟨xs.length,by simp,Ε _,I,[],⟨Ai,.nil⟩,λ_ h=>_D h Μ,U⟩,?_⟩;rintro i m ys H ⟨rfl,N,c,ts,A,d,r⟩;by_cases f:i<xs.length
 .obtain⟨x,l⟩:∃x,xs[i]? = _a x:=⟨xs[i],by simp[f]⟩;refine .inr ⟨⟨xs,x,c.seq p,l⟩,λy M B=>?_⟩;obtain⟨rfl,n⟩:=B;have u:=n xs<|c.seq p
  rw[l] at u
  cases u;have q:x∈xs:=am l;have g:ys.length<sizeLine:=by rw[<-A.len];lia
  refine E x q _ c _ λC k=>?_;rw[_o U];refine w x q C (c.trans k) _ λT t L v F G=>?_;have s:=A.mono<|k.trans v
  refine⟨s.l,g,xs.length - (i+1),by lia,U,f,λb o e=>?_,ts++[t],s.snoc F,λz hz=>?_,by rw[av,r];rfl⟩
  .rw[An (Ak e j)];exact v _ _<|k _ _<|c _ _ e
  .rcases aE.mp hz with hz | hz
   .exact d z hz
   .rw[al.mp hz];exact G
 .have e:i=xs.length:=by lia
  subst e;exact .inl ⟨⟨xs,c.seq p,ai _⟩,J D H ts ys j c A d r⟩
inductive GD(H:Hp)(r:_g)(len:_i)(hs:_b T3):Prop
|mk(p zs:_)(_:H r=_a (.tup [.int len,.ref p]))(_:Cz H p hs zs)
inductive dU(H H':Hp)(r:_g)(len:_i)(hs:_b T3):Prop
|mk(p zs:_)(_:H p=_n)(_:H' r=_a (.tup [.int len,.ref p]))(_:Cz H' p hs zs)
theorem dU.ro{r:_g}{len:_i}{a:_b T3}(h:dU H H' r len a):GD H' r len a:=by
 obtain⟨p,b,_,e,A⟩:=h;exact⟨p,b,e,A⟩
theorem SQ(I:Inv X b9 σ H s)(m:A.units<cLine){t:T3}(n:H a=_a (.tup<|Jw t))(l:H b=_a (.tup<|Jw t)):ħ A s (.ref a) (.ref b) true:=by
 by_cases c:a=b
 .subst c;exact Ď _
 .obtain⟨r,i,o,_⟩:=I.tuple (show Fd X.K H a (Jw t) from .inl<|.inl n);obtain⟨p,g,q,_⟩:=I.tuple (show Fd X.K H b (Jw t) from .inl<|.inl l);have u:=i.length;have k:=g.length;have h:=wq (A:=A) (e:=λj=>QZ ((Jw t).getD j .non)<|(Jw t).getD j .non) o q m (λj w v=>by
   have f:j<r.length:=by simpa using w
   have d:j<p.length:=by simpa using v
   simp only[Æ];exact Qg (Gd i f) (Gd g d) (WT U<|by lia)<|WT U<|by lia)
  refine Ġ c ?_;rw[bp,bp,<-u,<-k,jY,S7 U] at h;exact h
theorem Ny(hu:X.A.units+8<cLine):Ga X (compareOp .Eq) (λx y H Q=>∃r1 r2 len hs,x=V.ref r1/\y=V.ref r2/\GD H r1 len hs/\GD H r2 len hs/\Q (.bl _h) H):=by
 intro b9 s σ H x y v u Q I M F h;obtain⟨r1,r2,len,hs,rfl,rfl,⟨p,S,E,d⟩,⟨m,L,Y,i⟩,k⟩:=h
 cases M
 cases F;obtain⟨i1,v1,J,_⟩:=I.tuple (show Fd X.K H r1 _ from .inl<|.inl E);obtain⟨i2,W,K,_⟩:=I.tuple (show Fd X.K H r2 _ from .inl<|.inl Y);obtain⟨a1,b1,rfl,⟨T,rfl⟩,O⟩:=Vals.two v1;obtain⟨a2,b2,rfl,⟨Z,rfl⟩,q2⟩:=Vals.two W
 cases O
 cases q2;have a:ħ X.A.in1 s (.ref p) (.ref m) true:=by
  by_cases c:p=m
  .subst c;exact Ď _
  .obtain⟨B,C,R,_⟩:=I.list (show Cp X.K H p S from .inl<|.inl d.l);obtain⟨j2,w,m2,_⟩:=I.list (show Cp X.K H m L from .inl<|.inl i.l);have n1:=C.length;have n2:=w.length;have n3:=d.len;have n4:=i.len;have h:=ŏ (A:=X.A.in1) (e:=λ_=>_h) R.isList m2.isList (by simp;lia) (by show X.A.units+1<cLine;lia) (λj l z=>by
    have b:j<B.length:=by simpa using l
    have f:j<j2.length:=by simpa using z
    simp only[Æ];have r:j<hs.length:=by lia
    obtain⟨z1,n,P⟩:=Og.Cj d.p (af r);obtain⟨z2,o,y2⟩:=Og.Cj i.p (af r);obtain⟨T1,rfl,g⟩:=P;obtain⟨T2,rfl,D⟩:=y2;obtain⟨u1,t,N⟩:=C.get n;obtain⟨u2,q,G⟩:=w.get o;rw[af b] at t;rw[af f] at q
    cases N
    cases G;rw[_m t,_m q];exact SQ I (by show X.A.units+1+1<cLine;lia) g D)
   refine Ġ c ?_;have e:((_B B.toArray.size).all λ_=>_h)=true:=eM.mpr λ_ _=>rfl;rw[e] at h;exact h
 refine G2 (e:=λ_=>_h) J K (by lia) (λj l z=>?_) ⟨.bl _h,H,I,?_,k⟩
 .have b:j<2:=l
  match j,b with
  |0,_ =>
   have:=Ŀ (A:=X.A.in1) (s:=s) len T len Z;rw[ń] at this;exact this
  |1,_=>exact a
 .rfl
inductive rY(B:M7)(vs:_b V)(H:Hp)(Q:VK)(f6:XK):Prop
|mk(a:_g)(ts:_b T3)(ys:_b V)(_:vs=[.ref a])(_:Cz H a ts ys)(_:ys.length<400)(_:∀t∈ts,t.2.1<t.2.2)(_:Tb B H)(_:∀(p:_g)(hs:_b T3)(zs:_b V)(H':Hp),H p=_n->Kp B H H'->Tb B H'->Cz H' p hs zs->Canon hs->(∀tr t,DN hs tr t ↔ DN ts tr t)->hs.length<=ts.length->Q (.ref p) H')
def SN(len:_i)(t:T3):Prop:=0<=t.1/\t.1<1200/\0<=t.2.1/\t.2.1<t.2.2/\t.2.2<=len
inductive m9(vs:_b V)(H:Hp)(Q:VK)(f6:XK):Prop
|mk(i:_i)(_:vs=[.int i])(_:0<=i)(_:i<1200)(_:Q (.bl _h) H)
inductive gJ(vs:_b V)(H:Hp)(Q:VK)(f6:XK):Prop
|mk(i:_i)(_:vs=[.int i])(_:0<=i)(_:i<=1000000000000)(_:Q (.bl _h) H)
inductive rW(vs:_b V)(H:Hp)(Q:VK)(f6:XK):Prop
|mk(T:_g)(t:T3)(len:_i)(_:vs=[.ref T,.int len])(_:H T=_a (.tup (Jw t)))(_:SN len t)(_:Q (.bl _h) H)
inductive jL(vs:_b V)(H:Hp)(Q:VK)(f6:XK):Prop
|mk(a:_g)(ts:_b T3)(ys:_b V)(len:_i)(_:vs=[.ref a,.int len])(_:Cz H a ts ys)(_:ys.length<30000)(_:∀t∈ts,SN len t)(_:∀H',Al H H'->Q (.bl _h) H')
inductive oN(B:M7)(vs:_b V)(H:Hp)(Q:VK)(f6:XK):Prop
|mk(a:_g)(ts:_b T3)(ys:_b V)(len:_i)(_:vs=[.int len,.ref a])(_:len<=1000000000000)(_:Cz H a ts ys)(_:ys.length<400)(_:∀t∈ts,t.2.1<t.2.2)(_:Tb B H)(_:∀(r:_g)(hs:_b T3)(H':Hp),Kp B H H'->Tb B H'->dU H H' r len hs->Canon hs->(∀tr t,DN hs tr t ↔ DN ts tr t)->hs.length<=ts.length->Q (.ref r) H')
inductive Ol(B:M7)(vs:_b V)(H:Hp)(Q:VK)(f6:XK):Prop
|mk(a:_g)(ts:_b T3)(ys:_b V)(len:_i)(_:vs=[.int len,.ref a])(_:0<=len)(_:len<=1000000000000)(_:Cz H a ts ys)(_:ys.length<400)(_:∀t∈ts,SN len t)(_:Tb B H)(_:∀(r:_g)(hs:_b T3)(H':Hp),Kp B H H'->Tb B H'->dU H H' r len hs->Canon hs->(∀tr t,DN hs tr t ↔ DN ts tr t)->hs.length<=ts.length->Q (.ref r) H')
theorem Xz{g:_b T3}(c:Canon g){d:_i}{ms:_b _i}(p:ms.Perm ((g.filter λh=>decide (h.2.1<=d) && decide (d<h.2.2)).map (·.1)))(q:ms.Pairwise (· <= ·)):ms.Pairwise (· < ·)/\∀x,x∈ms ↔ DN g x d:=by
 have m:∀x,x∈ms ↔ DN g x d:=λx=>by
  rw[p.mem_iff,ay];constructor
  .rintro⟨h,m,rfl⟩;obtain⟨j,f⟩:=cy.mp m;simp at f;exact⟨h,j,U,f.1,f.2⟩
  .rintro⟨h,j,rfl,f,v⟩;exact⟨h,LN.mpr ⟨j,by simp;exact⟨f,v⟩⟩,U⟩
 have y:((g.filter λh=>decide (h.2.1<=d) && decide (d<h.2.2)).map (·.1)).Nodup:=by
  have k:(g.filter λh=>decide (h.2.1<=d) && decide (d<h.2.2)).Pairwise UW:=c.srt.sublist List.filter_sublist;have i:∀x∈(g.filter λh=>decide (h.2.1<=d) && decide (d<h.2.2)),x∈g/\x.2.1<=d/\d<x.2.2:=λx t=>by
   obtain⟨j,f⟩:=cy.mp t;simp at f;exact⟨j,f.1,f.2⟩
  generalize (g.filter λh=>decide (h.2.1<=d) && decide (d<h.2.2))=l at k i;refine ft.mpr<|Ş (λ{a b} w r n=>?_) k
  obtain⟨u,A,B⟩:=i a w;obtain⟨s,z,C⟩:=i b r;intro e;rcases c.sep.2 a u b s e with o | o | o
  .subst o;unfold UW at n;lia
  .lia
  .lia
 refine⟨?_,m⟩;have:=kX.mpr ⟨q,p.nodup_iff.mpr y⟩;refine this.imp λ{a b} h=>?_;have j:=h.1;have f:a≠b:=h.2;lia
inductive LQ(vs:_b V)(H:Hp)(Q:VK)(f6:XK):Prop
|mk(c b m:_i)(_:vs=[.int c,.int b,.int m])(_:0<m)(_:0<=b)(_:b<2147483647)(_:∀r:_i,0<=r->r<m->Q (.int r) H)
inductive cj(vs:_b V)(H:Hp)(Q:VK)(f6:XK):Prop
|mk(c:_i)(_:vs=[.int c])(_:∀(n:_i) H',Al H H'->0<=n->n<=1000000000000->Q (.int n) H')
inductive XS(K:_s)(vs:_b V)(H:Hp)(Q:VK)(f6:XK):Prop
|mk(l:_g)(ps:_b _i)(c len:_i)(_:vs=[.ref l,.int c])(_:Cp K H l (ps.map V.int))(_:2<=ps.length)(_:ps.length<=16)(_:ps.Pairwise (· < ·))(_:∀x∈ps,0<=x/\x<=len)(_:∀(T:_g) (t:T3) H',Al H H'->H' T=_a (.tup (Jw t))->SN len t->t.2.1∈ps->t.2.2∈ps->Q (.ref T) H')
inductive Z5(vs:_b V)(H:Hp)(Q:VK)(f6:XK):Prop
|mk(a:_g)(ts:_b T3)(ys:_b V)(i9:_i)(_:vs=[.ref a,.int i9])(_:Cz H a ts ys)(_:ys.length<64)(_:∀(l:_g)(ms:_b _i)(H':Hp),Al H H'->H' l=_a (.lst (ms.map V.int))->ms.Pairwise (· < ·)->(∀x,x∈ms ↔ DN ts x i9)->Q (.ref l) H')
inductive aV(vs:_b V)(H:Hp)(Q:VK)(f6:XK):Prop
|mk(r a:_g)(len i9:_i)(hs ts:_b T3)(ys:_b V)(_:vs=[.ref r,.ref a,.int i9])(_:GD H r len hs)(_:Canon hs)(_:hs.length<64)(_:Cz H a ts ys)(_:ys.length<64)(_:∀tr t,DN hs tr t ↔ DN ts tr t)(_:∀H',Al H H'->Q (.bl _h) H')
end Ro
namespace L2
open PySem PySem.Spec PySem.Calls PyProof.Rows
inductive lG(h:Θ)(x T C:_g)(od:_t _g)(fl:_j):Prop
|mk(vs ts:_E _j)(sl:_E (_t _j:_))(oT:ü)(_:h.get? x=_a ⟨.ref C,od,.fields vs,sl⟩)(_:vs[1]? = _a (.ref T))(_:T≠x)(_:h.get? T=_a oT)(_:oT.data=.fields ts)(_:ts[3]? = _a fl)
structure Mv(fs:_b _g)(x T:_g)(h h':Θ):Prop where
 keep:∀b o,h.get? b=_a o->b≠x->b≠T->b ∉ fs->h'.get? b=_a o
 any:∀b o,h.get? b=_a o->b≠x->b≠T->∃sl,h'.get? b=_a { o with slots:=sl }
section
variable{M:xB}{E:vSP}{env:ŧ}{outer:_b ŧ}{L x T:_g}{od:_t _g}{Q:LU->_C->Prop}
theorem NZ{vs:_E _j}{j:_E (_t _j)}{head:_j}{D:_V}(p:A.frames=_a (env::outer))(t:s.heap.FunFrames base<|env::outer)(B:env.frame=_a L)
  (r:s.heap.get? x=_a ⟨.ref C,od,.fields vs,j⟩)(hsz:1<vs.size)
  (h:∀h' T',lG h' x T' C od (rawInt L)->Mv (frs<|env::outer) x x s.heap h'->s.heap.get? T'=_n->Q () { s with heap:=h' }) :
  wpAny M A (do let a <-frameOf env;let pl <-entryPlaceOf L D;let b <-EntryCells.newEntry head a .none (rawInt L) .none pl;setField (.ref x) 1 b) Q E s:=by
 have g:x ∉ (env::outer).filterMap (·.frame):=λv=>by
  obtain⟨_,o,k,F⟩:=t.mem v;rw[r] at k;injection k with k;subst k;exact F vs U
 refine _c<|wpAny_frameOf_fun p t B λc i=>?_
 refine _c<|wpAny_entryPlaceOf λpl d=>?_
 unfold EntryCells.newEntry newFields;refine _c<|_X ?_<|d.sizeOk5 _ _ _ _ _
 have f:c.get? x=_a ⟨.ref C,od,.fields vs,j⟩:=(i.2.1 x g).trans r;have u:=_e (h:=c) { cls:=.type "traceback",dict:=_n,data:=.fields ([head,.ref L,.none,rawInt L,.none]++(if pl.isEmpty then Ü 6 _J else pl)).toArray } f;refine ω u U hsz ?_;have e:c.objs.size≠x:=gg<|_q f
 have m:=á (o:=⟨.ref C,od,.fields vs,j⟩) U (·.setIfInBounds 1 (_Q c.objs.size));have q:=_W (ξ (·.setIfInBounds 1 (_Q c.objs.size))) u<|ĕ m
 have w:=(_F (c.push { cls:=.type "traceback",dict:=_n,data:=.fields ([head,.ref L,.none,rawInt L,.none]++(if pl.isEmpty then Ü 6 _J else pl)).toArray })
  (ξ (·.setIfInBounds 1 (_Q c.objs.size))) (_T e)).trans (_p c U)
 refine h _ c.objs.size ⟨_,_,j,_,q,by simp[hsz],e,w,U,by first | (simp;done) | (rcases d with rfl | ⟨_,_,_,_,_,_,_,rfl⟩ <;> simp)⟩ ⟨λb o l n _ y=>?_,λb o l n _=>?_⟩ ?_
 .rw[_F _ _ (_T n)];exact _e _<|(i.2.1 b y).trans l
 .obtain⟨z,G⟩:=i.2.2 b o l;rw[_F _ _ (_T n)];exact⟨z,_e _ G⟩
 .refine ğ ?_;rw[i.1];exact ai _
theorem Vg{vs:_E _j}{e:_E (_t _j)}(a:A.frames=_a (env::outer))(f:s.heap.FunFrames base<|env::outer)(d:env.frame=_a L)
  (b:s.heap.get? x=_a ⟨.ref C,od,.fields vs,e⟩)(c:vs[1]? = _a .none)
  (h:∀h' T',lG h' x T' C od (rawInt L)->Mv (frs<|env::outer) x x s.heap h'->s.heap.get? T'=_n->Q () { s with heap:=h' }):wpAny M A (noteFrame (.ref x) env) Q E s:=by
 unfold noteFrame;simp only[d];refine _c<|υ b U c ?_
 rw[_l (by decide)];exact NZ a f d b (Ο.mp c).1 h
theorem V8(p:A.frames=_a (env::outer))(J:s.heap.FunFrames base<|env::outer)(u:env.frame=_a L)(F:lG s.heap x T C od .none)
  (h:∀h' T',lG h' x T' C od (rawInt L)->Mv (frs<|env::outer) x T s.heap h'->s.heap.get? T'=_n->Q () { s with heap:=h' }):wpAny M A (noteFrame (.ref x) env) Q E s:=by
 obtain⟨D,G,K,N,t,B,j,i,g,w⟩:=F;have e:=(Ο.mp w).1;unfold noteFrame;simp only[u];refine _c<|υ t U B ?_
 rw[_o (show (_Q T != _J)=_h from by simp)];refine _c<|υ i g w ?_
 rw[_l (show ¬ ((_J == rawInt L)=_h) from by simp[rawInt])];refine _c<|ω i g e ?_
 have a:∀b,b≠T->(s.heap.update T (ξ (·.setIfInBounds 3 _J))).get? b=s.heap.get? b:=λb c=>_F _ _<|_T c
 have k:=_W (ξ (·.setIfInBounds 3 _J)) i<|ĕ<|á g _
 have d:∀b o,s.heap.get? b=_a o->(∀D,o.data≠.fields D)->b≠T:=λb o c r q=>by
  rw[q,i] at c;injection c with c;subst c;exact r G g
 refine NZ (s:={ s with heap:=s.heap.update T (ξ (·.setIfInBounds 3 _J)) }) p (J.of_keeps λb o c r=>⟨o,(a b<|d b o c r).trans c,U⟩) u ((a x<|_T j).trans t) (Ο.mp B).1 λh' T' y m n=>?_;have I:T'≠T:=λz=>by
  subst z;have v:(s.heap.update T' (ξ (·.setIfInBounds 3 _J))).get? T'=none:=n;rw[k] at v;cases v
 exact h h' T' y ⟨λb o c f l H=>m.keep b o ((a b l).trans c) f f H,λb o c f l=>m.any b o ((a b l).trans c) f f⟩<|(a T' I).symm.trans n
theorem GZ{fl:_j}(m:lG s.heap x T C od fl)(h:∀h',lG h' x T C od .none->Mv [] x T s.heap h'->Q () { s with heap:=h' }):wpAny M A (setFlight (.ref x) _n) Q E s:=by
 obtain⟨r,n,q,t,j,k,e,l,g,p⟩:=m;have c:3<n.size:=(Ο.mp p).1;have a:∀b,b≠T->(s.heap.update T (ξ (·.setIfInBounds 3 ((_n:_t _g).elim _J λf=>rawInt f)))).get? b=s.heap.get? b :=
  λb d=>_F _ _<|_T d
 unfold setFlight;refine _c<|υ j U k ?_
 rw[_o (show (_Q T != _J)=_h from by simp)];refine ω l g c<|h _ ?_ ⟨λb o d _ i _=>(a b i).trans d,λb o d _ i=>⟨o.slots,(a b i).trans d⟩⟩
 exact⟨r,_,q,_,(a x<|_T e).trans j,k,e,_W _ l<|ĕ<|á g _,á g _,by simp[c]⟩
end
section
variable{w:_O}{fs:_b _g}{h1 h2 h3:Θ}{x T T':_g}
theorem Ud{y:_g}{o:ü}(e:h.get? b=_a o)(n:h.get? y=_n):b≠y:=λz=>by
 rw[z,n] at e
 cases e
theorem Fe.mv(k:Fe P w H h)(m:Mv fs x T h h1)(n:H x=_n)(i:H T=_n)(o:∀b∈fs,H b=_n):Fe P w H h1:=λb u e=>by
 have g:∀c,H c≠_n->c≠x/\c≠T/\c ∉ fs:=λc q=>⟨λz=>q<|z ▸ n,λz=>q<|z ▸ i,λz=>q<|o c z⟩;refine (k b u e).stay (λc v l q=>?_) (λ_ q=>q) λ_ _ q=>q;have j:H c≠none:=by
  rcases l with z | z
  .rw[z,e];simp
  .rw[z];simp
 obtain⟨f,a,d⟩:=g c j;exact m.keep c v q f a d
theorem Un.mv{k:_b _g}(u:Un k [] H H' h h1)(m:Mv fs x T h1 h2)(l:h.get? x=_n)(t:h.get? T=_n)(r:∀b∈fs,b ∉ k->h.get? b=_n):Un k [] H H' h h2:=by
 have g:∀b o,h.get? b=_a o->b≠x/\b≠T:=λb o e=>⟨Ud e l,Ud e t⟩;refine⟨λb o e n f a=>?_,λb o e n f a=>?_,u.free,λb o e a=>?_,u.tups,u.frzs,u.tbls⟩
 .obtain⟨d,c⟩:=g b o e;refine m.keep b o (u.keep b o e n f a) d c λz=>?_;have:=r b z f;rw[e] at this;cases this
 .obtain⟨d,c⟩:=g b o e;obtain⟨s,j⟩:=u.slot b o e n f a;obtain⟨p,i⟩:=m.any b _ j d c;exact⟨p,i⟩
 .obtain⟨d,c⟩:=g b o e;obtain⟨q,j⟩:=u.there b o e a;obtain⟨s,i⟩:=m.any b q j d c;exact⟨_,i⟩
end
def Rb(P:Ð)(w:_O):YM:=λouter H s E e s'=>∃(x T C:_g)(od:_t _g)(H':Hp),e=.ref x/\s'.os=s.os/\ķ s'.gens/\lG s'.heap x T C od .none/\s.heap.get? x=_n/\s.heap.get? T=_n /\
 H' x=_n/\H' T=_n/\Fe P w H' s'.heap/\Un (frs outer) [] H H' s.heap s'.heap/\E (.ref C) od H'
theorem sX{w:_O}:Fg (Rb P w) X E0:=λ_ _ _ _ _ _ _ ⟨_,_,_,_,_,_,_,_,_,_,_,_,_,_,_,h⟩=>h.elim
def vd(X:Cx)(C:_g)(E:XK):Prop:=∀(b9:_b<|_g × ü)(σ:St)(H:Hp)(s:_C)(h':Θ)(x:_g)(as:_b _j),Inv X b9 σ H s->Heap.MadeExcOf s.heap h' x (.ref C) as->E (.ref C) _n H->X.xe (.ref x) { s with heap:=h' }
theorem iI{w:_O}{K:_s}{N:_b _A}{j:_j}{a:_b ŧ}{E:XK} :
  vd (Mp (Rb P w) P w K mg base N qual scope f j A a s H E) C E:=by
 intro b9 σ d i B x as I g q;obtain⟨t,X,aa,ht⟩:=g.there;have c:∀b,i.heap.get? b=_n->s.heap.get? b=none:=λb e=>by
  cases z:s.heap.get? b with
  |none=>rfl
  |some o =>
   obtain⟨o',R⟩:=I.base.there b o z<|by show b ∉ ([]:_b _g);simp
   rw[e] at R;cases R
 have h:d x=none:=I.hok.none_of g.new;have frees:∀b∈frs (envOfC qual scope s.heap.objs.size f j::a),d b=none:=I.Ko;have G:(A.deeper<|envOfC qual scope s.heap.objs.size f j).frames=_a (envOfC qual scope s.heap.objs.size f j::a):=I.ok.frames;have M:i.heap.FunFrames base<|envOfC qual scope s.heap.objs.size f j::a:=I.stack
 have u0:Un (frs a) [] H d s.heap i.heap:=I.base;have k:Fe P w d i.heap:=I.hok;have F:∀b∈frs (envOfC qual scope s.heap.objs.size f j::a),b ∉ frs a->s.heap.get? b=none:=λb D Y=>by
  rcases Ê.mp (show b∈s.heap.objs.size::frs a from D) with z | z
  .rw[z];exact ğ<|ai _
  .exact _D z Y
 show wpAny (_z P w) (A.deeper<|envOfC qual scope s.heap.objs.size f j) (leaving (envOfC qual scope s.heap.objs.size f j)<|.ref x) _ _ _;unfold leaving;refine _c<|Vg (s:={ i with heap:=B }) (L:=s.heap.objs.size) G (M.of_keeps λb o D _=>⟨o,g.keeps b o D,U⟩) U X U λJ T y m n=>?_
 refine GZ (s:={ i with heap:=J }) y λO y3 Q=>?_;have l:i.heap.get? T=none:=by
  cases z:i.heap.get? T with
  |none=>rfl
  |some o =>
   have S:B.get? T=none:=n;rw[g.keeps T o z] at S;cases S
 have u:d T=none:=k.none_of l;have p:Fe P w d B:=k.kept g.keeps;have v:Fe P w d J:=p.mv m h h frees;have r:Fe P w d O:=v.mv Q h u (λ_ z=>nomatch z);have Z:Un (frs a) [] H d s.heap B:=u0.trans<|Un.kept g.keeps
 have uB:Un (frs a) [] H d s.heap J:=Z.mv m (c x g.new) (c x g.new) F;have V:Un (frs a) [] H d s.heap O:=uB.mv Q (c x g.new) (c T l) (λ_ z=>nomatch z);exact⟨x,T,C,_n,d,U,I.os,I.bare,y3,c x g.new,c T l,h,u,r,V,q⟩
section
variable{e:Expr}{t:TA}{np k7:ĵ}{E:XK}
abbrev mV(C:_g)(E:XK)(t:TA):TS:=λ_ σ H=>t σ H λvs H1=>vs.length<=1000/\E (.ref C) _n H1
theorem Ye(q:ł X.K C jK "ValueError.__new__" = _h)(m:Gl X x)(j:X.mg x=_a (.ref C))(y:X.calm=_h)(z:vd X C E)(p:PA X (e::es) t)
  (n:(x == ("__debug__" : _A))=false:=by decide) (f:starEach (e::es) X.env=(_r,eval e X.env)::starEach es X.env:=by rfl) (d:(backTo k7<|starEach es X.env).any (·.1)=false:=by rfl) :
  PS X (.Raise (_a<|.Call (.Name x np) (e::es) [] k7) _n pos) (mV C E t):=by
 intro g s σ H D I h;obtain⟨bm,N,nm,G,bs,hdct,sn,sub,ab,col,dd,k0,k1,k2,k3,k5,mN,A,w,o,i⟩:=Wt I.ok.mod.kin q;have a:(backTo k7<|starEach (e::es) X.env).any (·.1)=false:=by
  rw[f];show (_r || (backTo k7<|starEach es X.env).any (·.1))=_r;rw[d];rfl
 refine wpAny_Raise_call_subU (nm:=nm) (q:=G) (C:=C) (N:=N) (bs:=bs) (bm:=bm) (hdct:=hdct) (sn:=sn) (sub:=sub) (ab:=ab) (col:=col) (dd:=dd) (k0:=k0) (k1:=k1) (k2:=k2) (k3:=k3) (k5:=k5) (mN:=mN)
  PySem.F.excBase_ValueError (by decide) PySem.F.excBase_ValueError (i.hasType<|by decide) (I.ok.hd y) a o (JK I m j ⟨U,?_⟩ n)
 have:=p k7 g s σ H _ I h;rw[f] at this |-;refine ï<|CP this λk l ⟨J,B,b,r,v,F⟩=>⟨U,?_,b.bk _ _ A,w.keeps b.bk,i.keeps b.bk,λu x c=>?_⟩
 .show k.length<=sizeLine;rw[<-r.length];exact fh<|Aw v
 .exact z g σ B l u x _ b c F
end
theorem T4{w:_O}{E:vSP}{K:_s}{x O:_g}{od:_t _g}{d:Data}{m:_E (_t _j)}{b:_V}{Q:_V->_C->Prop}
  (X:K.In s.heap)(l:s.heap.get? x=_a ⟨.ref C,od,d,m⟩)(q:ł K O jK "ValueError.__new__" = _h)(k:ĳ K C (.ref O)=_a b)(h:Q b s):wpAny (_z prog w) A (excMatches (.ref x)<|.ref O) Q E s:=by
 obtain⟨j,N,P,J,bs,e,D,sub,p,n,u,v,F,I,t,y,H,i,z,r,o⟩:=Wt X q;have a:j.contains (.type "BaseException")=true:=o.hasType<|by decide
 have c:(_Q O::j).contains (.type "BaseException")=true:=by rw[List.contains_cons,a,Bool.or_true]
 have L:=_av (M:=_z prog w) X k;have f:=tc_notTuple;obtain⟨G,g,B,tk,os⟩:=s;unfold excMatches;repeat (first | with_reducible refine _aa l ?_ | with_reducible refine _aa i ?_ | (with_reducible refine wpAny_isSubtype_exc i ?_;rw[c]) | with_reducible refine L.at ?_ | wp_step)
 cases b <;> (wp_walk;exact h)
theorem Un.adopt{g:_b _g}{x:_g}(u:Un g [] H1 H2 h h')(k:h.get? x=_n)(d:H2 x=_n):Un g [] H1 (upd H2 x o) h h' :=
 ⟨u.keep,u.slot,λb c e n j=>by rw[An (Ud e k)];exact u.free b c e n j,u.there,λb i e=>by rw[An (Ak (u.tups b i e) d)];exact u.tups b i e,
  λb c v e=>by rw[An (Ak (u.frzs b c v e) d)];exact u.frzs b c v e,λb ps e=>by
   obtain⟨a,f⟩:=u.tbls b ps e;exact⟨a,by rw[An (Ak f d)];exact f⟩⟩
noncomputable abbrev Cx.inX(X:Cx)(x:_g):Cx:={ X with A:=X.A.mark<|some<|.ref x,calm:=_r }
theorem Inv.inX(I:Inv X b9 σ H s)(x:_g):Inv (X.inX x) b9 σ H s :=
 ⟨⟨I.ok.mod,I.ok.kind,I.ok.glob,I.ok.blt,I.ok.above,I.ok.inj,I.ok.has,I.ok.cab,(λz=>nomatch z),I.ok.frames,I.ok.stk,I.ok.exf,I.ok.bs,I.ok.bsz,I.ok.noex,I.ok.exfs,I.ok.Lp,I.ok.frf⟩,
  I.os,I.bare,I.base,I.loc,I.cell,I.free,I.freeC,I.pin,I.hok,I.len⟩
theorem Inv.gj{x:_g}(ok:X.Ok)(I:Inv (X.inX x) b9 σ H s):Inv X b9 σ H s:=⟨ok,I.os,I.bare,I.base,I.loc,I.cell,I.free,I.freeC,I.pin,I.hok,I.len⟩
theorem name_goes{M:xB}{E:vSP}{n:_A}{Q:LU->_C->Prop}(I:Inv X b9 σ H s)(R:X.N.Nodup)(hi:X.N[i]? = _a n)(P:X.env.kindOf n=_a .local)
  (h:∀s',Inv X b9 (σ.set i _n) H s'->Q () s'):wpAny M A (do bindName X.env n .none;unbindBehindTheSuite X.env n pos) Q E s:=by
 obtain⟨m,G,T⟩:=id I.loc;have t:(X.env.scope.kind == .class || (X.env.scope.kind == .module && X.env.locals != X.env.globals))=false:=by rw[I.ok.kind];rfl
 have C:i<σ.length:=by rw[I.len];exact (ag.mp hi).1
 refine wpAny_nameGoes_keeps P G t λO v B g=>h _ ?_;obtain⟨oL,_,_,VU,_⟩:=id G;have x:∀b o,X.s₀.heap.get? b=_a o->b≠X.env.locals:=λb o e=>cf<|ba (_q e) I.ok.above
 have f:Fe X.prog X.w H O:=λb ob e=>by
  refine (I.hok b ob e).stay (λc J u q=>(g.2 c ?_).trans q) (λ_ q=>q) λ_ _ q=>q;rintro rfl;have a:=I.free;rcases u with rfl | u
  .rw[a] at e;cases e
  .rw[a] at u;cases u
 refine⟨I.ok,I.os,I.bare,⟨λb o e n D r=>?_,λb o e n D r=>?_,I.base.free,λb o e r=>?_,I.base.tups,I.base.frzs,I.base.tbls⟩,⟨_,B,λj y S l w V=>?_⟩,λy c e=>?_,I.free,I.freeC,λp Y=>?_,f,by simpa using I.len⟩
 .exact (g.2 b<|x b o e).trans<|I.base.keep b o e n D r
 .obtain⟨N,l⟩:=I.base.slot b o e n D r;exact⟨N,(g.2 b<|x b o e).trans l⟩
 .obtain⟨o',l⟩:=I.base.there b o e r;exact⟨o',(g.2 b<|x b o e).trans l⟩
 .by_cases F:j=i
  .subst F;rw[kz C] at w
   cases w
  .rw[ma (_T F)] at w;obtain⟨L,Z,q⟩:=T j y S l w V;refine⟨L,Z,?_⟩;rcases q with⟨k,e⟩ | ⟨k,c,e,z⟩
   .refine .inl ⟨k,?_⟩;have:y≠n:=λe=>F<|Nh R l<|e ▸ hi
    simp[this,e]
   .exact .inr ⟨k,c,e,z.sameBut g<|I.iB y c e⟩
 .obtain⟨J,z⟩:=I.cell y c e;exact⟨J,z.sameBut g<|I.iB y c e⟩
 .obtain⟨e,n,K,W,d⟩:=I.pin p Y;exact⟨(g.2 p.1 K).trans e,n,K,W,d⟩
def Ends.drop(D:Ends)(i:_d):Ends:={ nx:=λσ H=>D.nx (σ.set i _n) H,rt:=D.rt,bk:=λσ H=>D.bk (σ.set i _n) H,ct:=λσ H=>D.ct (σ.set i _n) H }
section
variable{w:_O}{K:_s}
theorem Yb.okW{N ps:_b _A}{k:_d}(F:Yb K x qual st f fd)(S:Aq N ps<|Ae st)(len:∀vs H Q E,sp vs H Q E->vs.length=ps.length)
  (c:∀(b:_j)(A:ù)(a:_b ŧ)(s:_C)(H:Hp)(vs:_b V)(Q:VK)(E:XK),Df k (A.deeper<|envOfC qual (Ae st) s.heap.objs.size f b)->sp vs H Q E ->
   ∃t,Ra (Mp (Rb P w) P w K mg base N qual (Ae st) f b A a s H E) (DX st) t/\t { nx:=λ_ H'=>Q .non H',rt:=Q } (start N vs) H):Gu P w K mg base (Rb P w) (k+1) f fd ps sp:=by
 obtain⟨n,p,kV,r,m,j,b,o,l,rfl,i,e⟩:=F.ex;refine ZK i e S len λA a s H vs Q E d g=>?_;obtain⟨t,h,q⟩:=c b A a s H vs Q E d g;exact⟨t,h,q⟩
theorem Yb.oY{N ps:_b _A}{k:_d}(F:Yb K x qual st f fd)(S:Aq N ps<|Ae st)
  (c:∀{b:_j}{A:ù}{a:_b ŧ}{s:_C}(H:Hp)(vs:_b V)(Q:VK)(E:XK),Df k (A.deeper<|envOfC qual (Ae st) s.heap.objs.size f b)->sp vs H Q E ->
   ∃t,Ra (Mp (Rb P w) P w K mg base N qual (Ae st) f b A a s H E) (DX st) t/\t { nx:=λ_ H'=>Q .non H',rt:=Q } (start N vs) H)
  (len:∀vs H Q E,sp vs H Q E->vs.length=ps.length:=by intro _ _ _ _ h;cases h;subst_vars;rfl):Gu P w K mg base (Rb P w) (k+1) f fd ps sp:=F.okW S len λ_ _ _ _ H vs Q E=>c H vs Q E
end
end L2
namespace Ro
open PySem L2 Og
theorem QX:Canon []:=⟨⟨λ_ h=>_D h gI,λ_ h=>_D h gI⟩,.nil⟩
theorem Rv(I:Inv X b9 σ H s)(D:A.units+4<cLine){v:_g}{g:_b T3}{m l:_b V}(h:Cz H p g m)(t:Cz H v g l){j1 a:_b _j}(o:Vals m j1)(x:Vals l a) :
  ∀j (h1:j<j1.toArray.size) (h2:j<a.toArray.size),ħ A s j1.toArray[j] a.toArray[j] true:=λj h1 h2=>by
 have C:=o.length;have G:=h.len;have d:j<j1.length:=by simpa using h1
 have e:j<a.length:=by simpa using h2
 simp only[Æ];have k:j<g.length:=by lia
 obtain⟨B,b,y⟩:=Og.Cj h.p<|af k;obtain⟨F,c,q⟩:=Og.Cj t.p<|af k;obtain⟨z,rfl,f⟩:=y;obtain⟨T2,rfl,r⟩:=q;obtain⟨E,n,u⟩:=o.get b;obtain⟨J,i,w⟩:=x.get c;rw[af d] at n;rw[af e] at i
 cases u
 cases w;rw[_m n,_m i];exact SQ I (by lia) f r
theorem bA(q:X.A.units+8<cLine):Ga X (compareOp .Eq) (λx y H Q=>∃p p2 hs zs tJ,x=V.ref p/\y=V.ref p2/\Cz H p hs zs/\Cz H p2 hs tJ/\Q (.bl _h) H):=by
 intro w s σ H x y v u Q I l m h;obtain⟨p,p2,hs,zs,tJ,rfl,rfl,a,b,k⟩:=h
 cases l
 cases m;obtain⟨i,c,g,_⟩:=I.list (show Cp X.K H p zs from .inl<|.inl a.l);obtain⟨n,d,f,_⟩:=I.list (show Cp X.K H p2 tJ from .inl<|.inl b.l);have o:=c.length;have t:=d.length;have r:=a.len;have z:=b.len;refine Kt (e:=λj=>_h) g.isList f.isList (by simp;lia) (by lia) (Rv I (by show X.A.units+1+4<cLine;lia) a b c d) ⟨.bl _h,H,I,?_,k⟩;have e:((_B i.toArray.size).all λ_=>_h)=true:=eM.mpr λ_ _=>rfl;rw[e];exact rfl
inductive jW(B:M7)(vs:_b V)(H:Hp)(Q:VK)(f6:XK):Prop
|mk(r:_g)(len:_i)(hs:_b T3)(_:vs=[.ref r])(_:GD H r len hs)(_:Canon hs)(_:hs.length<400)(_:0<=len)(_:len<=1000000000000)(_:∀t∈hs,SN len t)(_:Tb B H)(_:∀(H':Hp),Kp B H H'->Tb B H'->Q (.bl _h) H')
end Ro
namespace L2
open PySem PySem.Spec PySem.Calls PyProof.Rows
theorem Un.zN{fs i:_b _g}{k j:Θ}(a:Un fs [] H H1 h k)(b:Un i [] H1 H2 k j)(y:∀x∈i,x∈fs \/ h.get? x=_n):Un fs [] H H2 h j where
 keep:=λc o q n f d=>by
  have p:c ∉ i:=λz=>by
   rcases y c z with e | e
   .exact f e
   .rw[q] at e;cases e
  exact b.keep c o (a.keep c o q n f d) (a.free c o q n d) p d
 slot:=λc o q n f d=>by
  obtain⟨A,e⟩:=a.slot c o q n f d;obtain⟨r,s⟩:=b.any e (a.free c o q n d) d;exact⟨r,s⟩
 free:=λc o q n d=>by
  obtain⟨g,e⟩:=a.there c o q d;exact b.free c g e (a.free c o q n d) d
 there:=λc o q d=>by
  obtain⟨g,e⟩:=a.there c o q d;exact b.there c g e d
 tups:=λc l q=>b.tups c l<|a.tups c l q
 frzs:=λc o u q=>b.frzs c o u<|a.frzs c o u q
 tbls:=λc ps q=>by
  obtain⟨t,w⟩:=a.tbls c ps q;obtain⟨m,v⟩:=b.tbls c _ w;exact⟨t++m,by rw[v,Ő]⟩
theorem Qx{w:_O}{K:_s}{N:_b _A}{d:_j}{a:_b ŧ}{E:XK} :
  Fg (Rb P w) (Mp (Rb P w) P w K mg base N qual scope f d A a s H E) E:=by
 rintro b9 σ Z i e s' I ⟨x,T,C,od,k,rfl,os,h,y,t,nT,j,wa,v,O,q⟩;have c:∀b,i.heap.get? b=_n->s.heap.get? b=none:=λb e=>by
  cases z:s.heap.get? b with
  |none=>rfl
  |some o =>
   obtain⟨o',r⟩:=I.base.there b o z<|by show b ∉ ([]:_b _g);simp
   rw[e] at r;cases r
 have D:i.os=s.os:=I.os;obtain⟨l,g,J,tk,AQ⟩:=s';obtain rfl:AQ=i.os:=os;have R:=I.call (h':=l) (g':=g) (d':=J) (t':=tk) (ch:=[]) O v h<|λb z=>_D z<|by simp
 have B:(A.deeper<|envOfC qual scope s.heap.objs.size f d).frames=_a (envOfC qual scope s.heap.objs.size f d::a):=I.ok.frames;have M:l.FunFrames base<|envOfC qual scope s.heap.objs.size f d::a:=R.stack
 have frees:∀b∈frs (envOfC qual scope s.heap.objs.size f d::a),k b=none:=R.Ko;have m:∀b∈frs (envOfC qual scope s.heap.objs.size f d::a),b∈frs a \/ s.heap.get? b=none:=λb u=>by
  rcases Ê.mp (show b∈s.heap.objs.size::frs a from u) with z | z
  .rw[z];exact .inr<|ğ<|ai _
  .exact .inl z
 have u0:Un (frs a) [] H Z s.heap i.heap:=I.base;have Y:Un (frs a) [] H k s.heap l:=u0.zN (show Un (frs<|envOfC qual scope s.heap.objs.size f d::a) [] Z k i.heap l from O) m;show wpAny (_z P w) (A.deeper<|envOfC qual scope s.heap.objs.size f d) (leaving (envOfC qual scope s.heap.objs.size f d)<|.ref x) _ _ _;unfold leaving;refine _c<|V8 (s:=⟨l,g,J,tk,i.os⟩) (L:=s.heap.objs.size) B M U y λS T3 y3 X V=>?_
 refine GZ (s:=⟨S,g,J,tk,i.os⟩) y3 λh4 y4 Q=>?_;have p:s.heap.get? T3=none:=by
  cases z:s.heap.get? T3 with
  |none=>rfl
  |some o =>
   obtain⟨o',r⟩:=Y.there T3 o z<|by simp
   have F:l.get? T3=none:=V;rw[F] at r;cases r
 have n:k T3=none:=v.none_of V;have G:∀b∈frs (envOfC qual scope s.heap.objs.size f d::a),b ∉ frs a->s.heap.get? b=none:=λb u hn=>(m b u).resolve_left hn;have u3:=Y.mv X (c x t) (c T nT) G;have u4:=u3.mv Q (c x t) p (λ_ z=>nomatch z);have k3:Fe P w k S:=Fe.mv (P:=P) (w:=w) v X j wa frees;have k4:Fe P w k h4:=k3.mv Q j n (λ_ z=>nomatch z);exact⟨x,T3,C,od,k,U,D,h,y4,c x t,p,j,n,k4,u4,q⟩
end L2
namespace Ro
open PySem L2 Og
def kJ(k:_i)(h:T3):T3:=(h.1,h.2.1 * k,h.2.2 * k)
theorem U8(S:X.A.units+8<cLine):Ga X (compareOp .NotEq) (λx y H Q=>∃r1 r2 len hs,x=V.ref r1/\y=V.ref r2/\GD H r1 len hs/\GD H r2 len hs/\Q (.bl _r) H):=by
 intro Z s σ H x y v u Q I J r h;obtain⟨r1,r2,len,hs,rfl,rfl,⟨p,t,q,c⟩,⟨d,F,G,g⟩,k⟩:=h
 cases J
 cases r;obtain⟨i1,o,w,_⟩:=I.tuple (show Fd X.K H r1 _ from .inl<|.inl q);obtain⟨Y,B,D,_⟩:=I.tuple (show Fd X.K H r2 _ from .inl<|.inl G);obtain⟨T,R,rfl,⟨z,rfl⟩,M⟩:=Vals.two o;obtain⟨P,b2,rfl,⟨L,rfl⟩,m⟩:=Vals.two B
 cases M
 cases m;have a:ħ X.A.in1 s (.ref p) (.ref d) true:=by
  by_cases b:p=d
  .subst b;exact Ď _
  .obtain⟨E,l,n,_⟩:=I.list (show Cp X.K H p t from .inl<|.inl c.l);obtain⟨N,i,C,_⟩:=I.list (show Cp X.K H d F from .inl<|.inl g.l);have O:=l.length;have n2:=i.length;have W:=c.len;have n4:=g.len;have h:=ŏ (A:=X.A.in1) (e:=λ_=>_h) n.isList C.isList (by simp;lia) (by show X.A.units+1<cLine;lia)<|Rv I (by show X.A.units+1+1+4<cLine;lia) c g l i
   refine Ġ b ?_;have e:((_B E.toArray.size).all λ_=>_h)=true:=eM.mpr λ_ _=>rfl;rw[e] at h;exact h
 refine SeqAt.RcNeAt.tuples (e:=λ_=>_h) w D (by lia) (λj K h2=>?_) _ _ _ _ ⟨.bl _r,H,I,?_,k⟩
 .have f:j<2:=K
  match j,f with
  |0,_ =>
   have:=Ŀ (A:=X.A.in1) (s:=s) len z len L;rw[ń] at this;exact this
  |1,_=>exact a
 .rfl
end Ro
namespace L2
open PySem PySem.Spec PyProof.Rows
theorem K6:Eo X (.builtin "sorted") (λxs H Q=>∃(a:_g)(ns:_b _i),xs=[V.ref a]/\Cp X.K H a (ns.map V.int)/\∀(p:_g)(ms:_b _i),H p=_n->ms.Perm ns->ms.Pairwise (· <= ·)->Q (.ref p) (upd H p<|.lst<|ms.map V.int)):=by
 intro z s σ H xs i Q I r h;obtain⟨a,ns,rfl,t,q⟩:=h;obtain⟨u,rfl,v⟩:=vals1 r
 cases v;obtain⟨f,g,w,A⟩:=I.list t;have n:=lF g;have b:f.length<=sizeLine:=by have:=g.length;lia
 refine Sx.Z9 w.isList n b λD y c i ms k x e l j pw=>?_;have m:H D=none:=I.hok.fresh k;have d:(ms.map V.int).length<=sizeLine:=by
  rw[ah,j.length_eq];have:=g.length;rw[ah] at this;lia
 exact⟨.ref D,_,I.laid (t':=s.toks) (o:=.lst<|ms.map V.int) x k ⟨d,i,c,aj l,e⟩,U,q _ ms m j pw⟩
end L2
namespace Wd
open PySem PyProof.Rows
section
variable{w:_O}{E:vSP}{σ:_b _i}
theorem ZF(S:A.handled=_n)(T:Hj prog w s.heap a (Ef w) σ)(hz:σ.length<=sizeLine)
  (h:∀D h' tk d us c ns,s.heap.objs.size<=D->(∀b o,s.heap.get? b=_a o->h'.get? b=_a o)->h'.get? D=_a { cls:=.type "list",data:=.seq (Ŧ us) c }->Υ us ns->ns.Perm σ->ns.Pairwise (· <= ·)->Q (.ref D) { s with heap:=h',toks:=tk,drawn:=d }) :
  wpAny (_z prog w) A (call (.builtin "sorted") [.ref a]) Q E s:=by
 refine ī u' f' f_ (GE _) ?_;unfold É.«sorted»;refine _c (m:=checkCount "sorted" 1 1 _)<|_k<|_c<|Xa (A:=A.in1) (by simpa using S) T λh' tk d g l k lt r P=>?_
 have len:g.length<=sizeLine:=by rw[IntsAre.length r,P.length_eq];exact hz
 have R:=Sx.KZ r;have B:=Sx.M5 r;refine _c<|ģ ?_ len
 have G:(h'.push<|seqObj "list" g.toArray 0).get? h'.objs.size=_a (seqObj "list" g.toArray 0):=_p _ U;refine _c<|π<|Α ŝ ⟨_,G,U⟩ Ŏ (Sx.Uu (blt:=Sx.yP) (d:=0) (ts:=l) (κ:=oneType') Sx.Ve G len R (λi j v x y f J K I=>?_) (λX W p Q q=>?_) (λX W i j u v x y J f K I C c=>?_) λL O pw=>⟨_,U,?_⟩)<|zw _
 .obtain⟨t,rfl⟩:=B i v x f K;obtain⟨V,e⟩:=B j _ y J I
  cases e;rfl
 .match g,r,p with
  |[],_,p=>simp at p
  |[_],_,p=>simp at p
  |v₁::v₂::rest,r,_ =>
   rw[GI r];exact _k q
 .obtain⟨t,rfl⟩:=B i u x J K;obtain⟨V,rfl⟩:=B j v y f I;rw[zA];exact tq c
 .obtain⟨c,M⟩:=B1 (out:=(Η (λi=>g.getD i _J) L).toArray) G;refine _k ⟨_,U,h h'.objs.size _ tk d _ c (L.map λi=>l.getD i 0) (Nat.le_of_lt lt) (λb o e=>?_) M (Sx.ints_of (by simp) λi v n f F=>?_) ?_ ?_⟩
  .have N:=_q<|k b o e
   rw[zz (cf N) (by rw[ŉ];exact gX N)];exact _e _<|k b o e
  .rw[ar] at f F
   cases hi:L[i]? with
   |none=>rw[hi] at f;cases f
   |some z =>
    rw[hi] at f F;have hz:z<g.length:=dL.mp<|O.mem_iff.mp<|am hi
    have H:z<l.length:=by lia
    have G:g.getD z _J=g[z]:=by simp[_K,hz]
    have M:l.getD z 0=l[z]:=by simp[_K,H]
    simp only[ŭ,Ń] at f F;rw[G] at f;rw[M] at F;exact B z v n (by rw[<-f];exact af hz)<|by rw[<-F];exact af H
  .have e:(_B g.length).map (λi=>l.getD i 0)=l:=by
    refine ô (by simp[R]) λi Y p=>?_;simp[_K,p]
   have q:=O.map<|λi=>l.getD i 0
   rw[e] at q;exact q.trans P
  .rw[ft];exact pw.imp λ{i j} e=>GO.mp<|Ô e
end
end Wd
namespace L2
open PySem PySem.Spec PyProof.Rows
theorem Q5(m:X.calm=_h):Eo X (.builtin "sorted") (λxs H Q=>∃(a:_g)(τ:_b _i),xs=[V.ref a]/\H a=_a (gW X.prog X.w a τ)/\τ.length<=sizeLine/\∀(p:_g)(ns:_b _i),H p=_n->ns.Perm τ->ns.Pairwise (· <= ·)->Q (.ref p) (upd H p<|.lst<|ns.map V.int)):=by
 intro w s σ H xs f Q I r h;obtain⟨a,τ,rfl,n,i,q⟩:=h;obtain⟨u,rfl,t⟩:=vals1 r
 cases t;obtain⟨g,_,_⟩:=(show Cd X.prog X.w H s.heap a (gW X.prog X.w a τ) from I.hok a _ n);refine Wd.ZF (I.ok.hd m) g i λD v tk d f c ns le k e j p o=>?_;have l:H D=none:=I.hok.fresh le;have b:(ns.map V.int).length<=sizeLine:=by
  rw[ah,p.length_eq];exact i
 exact⟨.ref D,_,I.jh (o:=.lst<|ns.map V.int) (t':=tk) (d':=d) k le ⟨b,f,c,aj j,e⟩,U,q D ns l p o⟩
end L2
namespace PySem
section
variable{w:_O}{E:vSP}{κ:Type}[Ķ κ]{knd:KeyKind prog w κ}
theorem qp{kvs:_b (κ×_j)}{k:κ}(h:valueAt kvs k=_n):kvs.findIdx? (λkv=>decide (kv.1=k))=none:=by
 unfold valueAt at h;rw[Option.map_eq_none_iff,List.find?_eq_none] at h;rw[ti];intro x a;have:=h x a;simpa using this
theorem N8{kvs:_b (κ×_j)}{k:κ}{i x:_j}(c:knd.is k i=_h)(u:s.heap.DictOf knd d kvs)(G:valueAt kvs k=_n)(hsz:kvs.length<=sizeLine)
  (D:∀h',h'.DictOf knd d (kvs++[(k,x)])->Á d s.heap h'->Q x { s with heap:=h',toks:=s.toks+1 }):wpAny (_z prog w) A (dictSetDefault d i x) Q E s:=by
 have g:=qp G;have h:k ∉ kvs.map (·.1):=not_mem_of_findIdx_none g;obtain⟨o,f,v,p,z,j,t,n,y⟩:=u;have m:f.size<=sizeLine:=by
  have I:=n.length;have H:f.toList.length=f.size:=by simp
  lia
 have B:(f.findIdx? λe=>knd.is k e.key)=none:=by
  have r:=n.findIdx k;rw[g] at r;rw[<-r];obtain⟨l⟩:=f;simp
 unfold dictSetDefault;try with_reducible refine π ?_
 refine _c<|knd.pyHash c<|_c<|wpAny_dictFind_of (s:={ s with toks:=s.toks+1 }) c p j t ?_
 rw[B];refine _c<|Ç<|_c<|wpAny_updateDictKeys (hz:=m) (s:={ s with toks:=s.toks+1 }) p j<|_k<|D _ ⟨_,_,v+1,_W _ p<|Obj.isFreed_of_dict<|Cc j _,z.mapDictKeys _,Cc j _,t.push c _,?_,?_⟩<|ο ..
 .have C:=n.append c (knd.hash k) x;obtain⟨l⟩:=f;simpa using C
 .rw[ee,oi];refine⟨y,by simp,λa F b q=>?_⟩;simp only[List.map_cons,List.map_nil,Ï] at q;subst q;exact λe=>h<|e ▸ F
theorem jQ{kvs:_b (κ×_j)}(e:s.heap.DictOf knd d kvs)(h:kvs.length<=n):s.heap.DictLe d n:=λu a r c b=>by
 obtain⟨o,k,p,i,q,f,m,g,j⟩:=e;rw[i] at c
 cases c;rw[f] at b
 cases b;have l:=g.length;have t:a.toList.length=a.size:=by simp
 lia
theorem HN{k:κ}{a:_j}(b:knd.is k a=_h)(h:(d == sysModules)=_r)(x:_j) :
  MeetsIn prog w (É.«dict.setdefault» ⟨[.ref d,a,x],[]⟩) (λ_ R s=>∃kvs,s.heap.DictOf knd d kvs/\kvs.length<=sizeLine/\(∀v,valueAt kvs k=_a v->R (.ok<|.ret v) { s with toks:=s.toks+1 }) /\
   (valueAt kvs k=_n->∀h',h'.DictOf knd d (kvs++[(k,x)])->Á d s.heap h'->R (.ok<|.ret x) { s with heap:=h',toks:=s.toks+1 })) :=
 .of_wp λA R s ⟨kvs,c,hz,l,i⟩=>by
  unfold É.«dict.setdefault»;refine _c ?_;unfold Builtin.Dict.keyAndDefault;refine _c<|wpAny_notOrdered_dict c.typeIs ?_
  show wpAny _ _ (pure (d,a,_a x)) _ _ s;refine _k ?_;show wpAny _ _ (if (d == sysModules)=_h then _ else (dictSetDefault d a x >>= _)) _ _ s;rw[_l (by rw[h];exact et)]
  cases hv:valueAt kvs k with
  |none=>exact _c<|N8 b c hv hz λh' e j=>_k ⟨x,U,i hv h' e j⟩
  |some v=>exact _c (wpAny_dictSetDefault_of (hz:=jQ c hz) b c.mapOf (λu g=>_k ⟨u,U,l u g⟩) λf=>by rw[hv] at f;cases f)
end
end PySem
namespace L2
open PySem PySem.Spec PySem.Calls PyProof.Rows
inductive WP(ty tx:TE)(σ:St)(Q:VK)(x:V)(H1:Hp):Prop
|mk(a:_)(_:x=.ref a)(_:yO H1 a)(_:ty σ H1 λy H2=>tx σ H2 λz H3=>∃kvs k,H3 a=_a (.dK kvs)/\y=kV k/\kvs.length<sizeLine /\ (∀v,Cv kvs k=_a v->Q v H3)/\(Cv kvs k=_n->Q z (upd H3 a<|.dK<|kvs++[(k,z)])))
abbrev oK(td ty tx:TE):TE:=λσ H Q=>td σ H λx H1=>WP ty tx σ Q x H1
section
variable{o e f:Expr}{k7:ĵ}{td ty tx:TE}
theorem R4(ho:PE X o td)(g:PE X e ty)(hf:PE X f tx)(m:M2 X o "setdefault" k8 e f k7):PE X (.Call (.Attribute o "setdefault" k8) [e,f] [] k7)<|oK td ty tx:=by
 intro n s σ H Q I h;refine Ž m.base m.few m.line ko PySem.F.slot_dict_setdefault PySem.F.type_dict_setdefault<|CP (ho n s σ H _ I h) λu K N=>?_
 obtain⟨x,H1,C,rx,a,J,d,q1⟩:=N;subst J;obtain rfl:u=_Q a:=rx;obtain⟨T,t2,_⟩:=Um C d;refine⟨T,t2,?_⟩;rw[m.trees];refine ß U (ï (Κ (CP (g n K σ H1 _ C q1) λiv s2 ⟨y,W,L,P,F⟩ =>
  Κ (CP (hf n s2 σ W _ L F) λO s3 ⟨z,M,p,B,c,k,A,ey,hl,G,Y⟩=>æ ?_))))
 subst ey;obtain⟨hz,t,S,j,w⟩:=W0 p.hok A;have E:=j.length;have b:=j.val k;refine ż PySem.F.slot_dict_setdefault w.typeIs PySem.F.entry_dict_setdefault (PySem.F.args_dict_setdefault_3 _ _ _) (HN (knd:=CN X.prog X.w) (Mh P) t O) ⟨S,w,by lia,λv r=>?_,λr R D V=>?_⟩
 .rw[r] at b
  cases l:Cv c k with
  |none=>rw[l] at b;exact b.elim
  |some i=>rw[l] at b;exact⟨i,M,p.tok _,b,G i l⟩
 .rw[r] at b
  cases l:Cv c k with
  |some i=>rw[l] at b;exact b.elim
  |none =>
   have g:∃q,R.get? a=_a q:=let ⟨q,_,_,Z,_⟩:=D;⟨q,Z⟩;refine⟨z,_,Ky p (ob:=.dK<|c++[(k,z)]) (by rw[A];exact Ψ) V g (Q0 (by rw[ς];show _+1<=sizeLine;lia) t (Paired.snoc j ⟨U,B⟩) D),B,Y l⟩
end
end L2
namespace Ro
open PySem L2 Og
def Tk(hs:_b T3)(t:_i):Prop:=∃h∈hs,h.2.1=t \/ h.2.2=t
theorem dN{d:_b T3}{S T:_i}(i:S<=T)(h:∀t,Tk d t->t<=T->t<=S)(f:_i):DN d f T ↔ DN d f S:=by
 constructor
 .rintro⟨x,c,e,a,b⟩;have:=h x.2.1 ⟨x,c,.inl U⟩ a;exact⟨x,c,e,this,by lia⟩
 .rintro⟨x,c,e,a,b⟩;refine⟨x,c,e,by lia,?_⟩;by_cases g:x.2.2<=T
  .have:=h x.2.2 ⟨x,c,.inr U⟩ g;lia
  .lia
theorem fY{ts:_b T3}{k f T:_i}(i:1<=k):DN (ts.map<|kJ k) f T ↔ DN ts f (T / k):=by
 have c:0<k:=by lia
 constructor
 .rintro⟨h,g,e,a,b⟩;obtain⟨x,d,rfl⟩:=ay.mp g;have a:x.2.1 * k<=T:=a;have b:T<x.2.2 * k:=b;exact⟨x,d,e,(zD c).mpr a,(z0 c).mpr b⟩
 .rintro⟨x,d,e,a,b⟩;exact⟨kJ k x,ay.mpr ⟨x,d,U⟩,e,(zD c).mp a,(z0 c).mp b⟩
noncomputable def pt(k:_i)(h:T3):Int:=if k=1 then h.2.1 else h.2.2
inductive o7(vs:_b V)(H:Hp)(Q:VK)(f6:XK):Prop
|mk(p:_g)(hs:_b T3)(zs:_b V)(k:_i)(_:vs=[.ref p,.int k])(_:Cz H p hs zs)(_:zs.length<400)(_:k=1 \/ k=2)(_:∀(D:_g)(kvs:_b (Key × V))(js:_b _i)(H':Hp),Al H H'->H D=_n->H' D=_a (.dK kvs)->kvs.map (·.1)=js.map _R->(∀t,t∈js ↔ ∃h∈hs,pt k h=t)->js.length<=hs.length->(∀kv∈kvs,∃l ns,kv.2=V.ref l/\H' l=_a (.lst (Η V.int ns)))->Q (.ref D) H')
inductive Xg(H:Hp)(m:_i)(y:V):Prop
|mk(T a b:_)(_:y=V.ref T)(_:H T=_a (.tup [.int m,.ref a,.ref b]))
inductive cV(B:M7)(vs:_b V)(H:Hp)(Q:VK)(f6:XK):Prop
|mk(a:_g)(ts:_b T3)(ys:_b V)(len k:_i)(_:vs=[.int len,.ref a,.int k])(_:Cz H a ts ys)(_:ys.length<200)(_:∀t∈ts,SN len t)(_:1<=k)(_:k<=2000000000)(_:0<=len)(_:len<=50)(_:Tb B H)(_:∀(r:_g)(hs:_b T3)(H':Hp),Kp B H H'->Tb B H'->dU H H' r (len * k) hs->Canon hs->(∀tr t,DN hs tr t ↔ DN (ts.map (kJ k)) tr t)->hs.length<=ts.length->Q (.ref r) H')
end Ro
namespace Ro
open PySem L2 Og
inductive Z2(vs:_b V)(H:Hp)(Q:VK)(f6:XK):Prop
|mk(r:_g)(len i9:_i)(hs:_b T3)(_:vs=[.ref r,.int i9])(_:GD H r len hs)(_:Canon hs)(_:hs.length<400)(_:∀(l:_g)(ms:_b _i)(H':Hp),Al H H'->H' l=_a (.lst (ms.map V.int))->ms.Pairwise (· < ·)->(∀x,x∈ms ↔ DN hs x i9)->Q (.ref l) H')
end Ro
namespace Ro
open PySem L2 Og
theorem NK{K:_s}{Q:VK}(P:Hp->V->V->Prop)(A:∀H H' x y,Al H H'->P H x y->P H' x y)(r:∀H x y D us ws,H D=_a (.lst us)->P H x y->P (upd H D<|.lst ws) x y)
  (k:Cp K H1 l xs)(hz:xs.length<sizeLine)
  (E:∀x∈xs,∀H,Al H1 H->∀R:_V->Hp->Prop,(∀H',Al H H'->R _h H')->tt (_a x::σ) H R)
  (v:∀x∈xs,∀H,Al H1 H->∀R:VK,(∀y H',Al H H'->P H' x y->R y H')->te (_a x::σ) H R)
  (G:∀D H zs,H1 D=_n->Al H1 H->H D=_a (.lst zs)->Paired (P H) xs zs->Q (.ref D) H):FJ (dG K l) σ H1 Q tt te:=by
 intro D h;have F:Al H1<|upd H1 D<|.lst []:=λb o e=>by rw[An (Ak e h)];exact e
 refine⟨λi m g H=>m=xs.length - i/\i<=xs.length/\Al H1 H/\H D=_a (.lst g)/\Paired (P H) (xs.take i) g,⟨xs.length,by simp,Ε _,F,Ai,.nil⟩,?_⟩;rintro i m g H ⟨rfl,L,a,s,B⟩;by_cases d:i<xs.length
 .obtain⟨x,c⟩:∃x,xs[i]? = _a x:=⟨xs[i],by simp[d]⟩;refine .inr ⟨⟨xs,_,a.seq k,c⟩,λy J z=>?_⟩;obtain⟨rfl,j⟩:=z;have t:=j xs<|a.seq k
  rw[c] at t
  cases t;have w:=B.length;rw[cE] at w;refine E _ (am c) _ a _ λC f=>?_;rw[_o U];refine v x (am c) C (a.trans f) _ λy I q u=>?_;have n:=q _ _<|f _ _ s
  refine⟨n,by lia,xs.length - (i+1),by lia,U,d,λb o e=>?_,Ai,?_⟩
  .rw[An (Ak e h)];exact q _ _<|f _ _<|a _ _ e
  .rw[ck,c];exact Paired.snoc (Paired.Em B λx y p=>r _ _ _ _ _ _ n<|A _ _ _ _ (f.trans q) p)<|r _ _ _ _ _ _ n u
 .have e:i=xs.length:=by lia
  subst e;rw[dt (ai _)] at B;exact .inl ⟨⟨xs,a.seq k,ai _⟩,G D H g h a s B⟩
inductive nD(H:Hp)(x y:V):Prop
|mk(m T a b:_)(_:x=V.int m)(_:y=V.ref T)(_:H T=_a (.tup [.int m,.ref a,.ref b]))
theorem Zv(H c:Hp)(x y:V)(s:Al H c)(h:nD H x y):nD c x y:=by
 obtain⟨m,T,a,b,e,f,g⟩:=h;exact⟨m,T,a,b,e,f,s _ _ g⟩
theorem iM(H:Hp)(x y:V)(D:_g)(us ws:_b V)(c:H D=_a (.lst us))(h:nD H x y):nD (upd H D<|.lst ws) x y:=by
 obtain⟨m,T,a,b,e,f,g⟩:=h;exact⟨m,T,a,b,e,f,by rw[An (Kh g c (λz=>by cases z))];exact g⟩
theorem Yu:∀{ms:_b _i}{ys:_b V},Paired (nD H) (ms.map V.int) ys->Paired (Xg H) ms ys
 |[],_,h=>by cases h;exact .nil
 |m::ms,_,h=>by
  cases h with
  |cons a b =>
   obtain⟨i,T,d,c,e,f,g⟩:=a
   cases e;exact .cons ⟨T,d,c,f,g⟩<|Yu b
end Ro
namespace L2
open PySem
theorem JZ{K:_s}(b:X.K=K):Eo X (.builtin "sorted") (λxs H Q=>∃(a:_g)(ns:_b _i),xs=[V.ref a]/\Cp K H a (ns.map V.int)/\∀(p:_g)(ms:_b _i),H p=_n->ms.Perm ns->ms.Pairwise (· <= ·)->Q (.ref p) (upd H p<|.lst<|ms.map V.int)):=by
 subst b;exact K6
end L2
namespace Ro
open PySem L2 Og
theorem Py{k:Key}{c:_g}(f:∀kv∈kvs,∃l ns,kv.2=V.ref l/\H l=_a (.lst<|Η V.int ns))(e:H c=_a (.lst [])):∃l ns,(Cv kvs k).getD (V.ref c)=V.ref l/\H l=_a (.lst<|Η V.int ns):=by
 cases h:Cv kvs k with
 |none=>exact⟨c,[],U,e⟩
 |some v =>
  obtain⟨kv,d,rfl⟩:=aS.mp h;obtain⟨l,ns,a,b⟩:=f kv<|tP d;exact⟨l,ns,a,b⟩
theorem Mt(c:∀kv∈kvs,∃l ns,kv.2=V.ref l/\H l=_a (.lst<|Η V.int ns))(s:Al H H'):∀kv∈kvs,∃l ns,kv.2=V.ref l/\H' l=_a (.lst<|Η V.int ns):=λkv h=>by
 obtain⟨l,ns,a,b⟩:=c kv h;exact⟨l,ns,a,s _ _ b⟩
end Ro
namespace L2
open PySem PySem.Spec PyProof.Rows
section
variable{o e f:Expr}{k7:ĵ}{td ty tx:TE}
theorem qz:Ga X (compareOp .Is) (λx y H Q=>∃a b,x=.bl a/\y=.bl b/\Q (.bl (decide (a=b))) H):=by
 intro e s σ H x y v u Q I c d h;obtain⟨a,b,rfl,rfl,q⟩:=h
 cases c
 cases d;refine wpAny_is_plain U<|B_ I q ?_
 cases a <;> cases b <;> rfl
end
theorem CT{X:Cx}{x:_A}{e:Expr}{b:TE}{a pos:ĵ}(i:_d)(c:X.N.Nodup)(hi:X.N[i]? = _a x)(g:Loc X.env.scope x)(d:PE X e b)(f:swapsWith e (_a<|.Name x a) pos.line X.env=pure _r)(h:X.fn x=_h \/ X.env.scope.names.lookup x=_a .local) :
  PS X (.Assign [.Name x a] e pos) (Xr b<|Ci i):=BP c hi g d f h
theorem BJ{X:Cx}{e:Expr}{es:_b Expr}{a:TE}{t:TA}(h:starEach (e::es) X.env=(_r,eval e X.env)::starEach es X.env)(c:PE X e a)(b:PA X es t):PA X (e::es)<|jr a t:=Aa c b h
end L2
namespace Gn
theorem qZ{a b:_d}(h:a &&& b=0):a+b=a ||| b:=by
 have d:a<2 ^ (a+b+1):=iE (bg (oo a b)<|gy _) ng;have e:b<2 ^ (a+b+1):=iE (bg (Nat.le_add_left b a)<|gy _) ng;have c:a+b<2 ^ (a+b+1):=iE (gy _) ng;have:=BitVec.add_eq_or_of_and_eq_zero (OY (a+b+1) a) (OY (a+b+1) b) (by
  apply BitVec.eq_of_toNat_eq;rw[BitVec.toNat_and,Ĥ,Ĥ,jI d,jI e,h];simp)
 have:=congrArg BitVec.toNat this;rw[BitVec.toNat_add,BitVec.toNat_or,Ĥ,Ĥ,jI d,jI e,jI c] at this;exact this
theorem W3(D M k:_d):(D - (D &&& M)).testBit k=(D.testBit k && !M.testBit k):=by
 have a:(D &&& M) &&& (D ^^^ (D &&& M))=0:=fE λi=>by
  simp only[j',n',ø]
  cases D.testBit i <;> cases M.testBit i <;> rfl
 have b:(D &&& M)+(D ^^^ (D &&& M))=D:=by
  rw[qZ a];refine fE λi=>?_;simp only[j',n',sT]
  cases D.testBit i <;> cases M.testBit i <;> rfl
 have e:D - (D &&& M)=D ^^^ (D &&& M):=by lia
 rw[e];simp only[j',n']
 cases D.testBit k <;> cases M.testBit k <;> rfl
end Gn
namespace Og
open PySem L2 PyProof.Rows
variable{K:_s}
structure U_(K:_s)(aB aP aM:_g):Prop where
 f:KF K aB aP aM
 pR:∃a,Δ K aP "rank" = _a (_a<|.ref a)/\KTup K a (["new","pipes","wind"].map λs:è=>V.str s)
 pL:∃a,Δ K aP "line" = _a (_a<|.ref a)/\KTup K a (["rank","shift","low","high"].map λs:è=>V.str s)
 bP:∃a,Δ K aB "pipes" = _a (_a<|.ref a)/\KTup K a [.int 1,.int 97]
 bW:∃a,Δ K aB "wind" = _a (_a<|.ref a)/\KTup K a [.int 0,.int 1000000000]
 bS:∃a,Δ K aB "shift" = _a (_a<|.ref a)/\KTup K a [.int (-200),.int 200]
 bLo:∃a,Δ K aB "low" = _a (_a<|.ref a)/\KTup K a [.int 0,.int 60]
 bHi:∃a,Δ K aB "high" = _a (_a<|.ref a)/\KTup K a [.int 0,.int 60]
 bR:Δ K aB "rank" = _a _n
 mR:∃t,Δ K aM "rank" = _a (_a<|.int 12 t)
 mL:Δ K aM "line" = _a _n
section
variable{wn:_b (_A×_A)}{t:_A}
theorem V6(h:Sw K aB aP aM ρ vs r)(a:Fx ρ vs):Io K aB aP aM ρ vs r:=⟨h.ns,h.parts,.inr h.room,λz=>_D z h.nl,a⟩
theorem Xv(F:KF K aB aP aM){d:_A}(r:d = "stop" \/ d = "mute")(e:Hu ρ vs=wn)(q:isNm t)(h:∀w∈named,WX wn w t=_r)(s:Zf wn d<GR d){a:_A}(p:isNm a)(o:WX wn "board" a=_h):Sw K aB aP aM ρ vs ⟨d,t,[.str a]⟩:=by
 have b:∀(j:_d) x (y:_A),[V.str t,.str a][j]? = _a x->(["new","board"]:_b _A)[j]? = _a y->Je K aB ρ vs x y:=λj x y f c=>by
  match j,f,c with
  |0,f,c =>
   cases (_m f)
   cases (_m c);exact KC F e q h
  |1,f,c =>
   cases (_m f)
   cases (_m c);exact Jf F e p o
  |j+2,f,c=>simp at c
 have n:=Jg ρ vs d;rw[e] at n;rcases r with rfl | rfl
 .obtain⟨l,i,k⟩:=F.pS;obtain⟨tk,g⟩:=F.mS;have m:GR "stop" = 24:=by decide
  refine⟨by show ¬ ("stop" : _A) = "step";decide,by show ¬ ("stop" : _A) = "line";decide,⟨l,["new","board"],i,k,U,by decide,b⟩,⟨24,tk,g,?_⟩⟩;show (((vs.filter<|pw ρ "stop").length:_d):_i)<24;lia
 .obtain⟨l,i,k⟩:=F.pM;obtain⟨tk,g⟩:=F.mM;have m:GR "mute" = 5:=by decide
  refine⟨by show ¬ ("mute" : _A) = "step";decide,by show ¬ ("mute" : _A) = "line";decide,⟨l,["new","board"],i,k,U,by decide,b⟩,⟨5,tk,g,?_⟩⟩;show (((vs.filter<|pw ρ "mute").length:_d):_i)<5;lia
theorem Xu(F:U_ K aB aP aM)(e:Hu ρ vs=wn)(r:isNm t)(h:∀w∈named,WX wn w t=_r)(A:Zf wn "rank" < 12){c:_i}(C:1<=n)(B:n<=97)(o:0<=c)(q:c<=1000000000)(i:Fx ρ vs):Io K aB aP aM ρ vs<|J_ (t,n,c):=by
 obtain⟨s,g,p⟩:=F.pR;obtain⟨k,u,v⟩:=F.bP;obtain⟨m,l,d⟩:=F.bW;obtain⟨tk,f⟩:=F.mR;refine⟨by show ¬ ("rank" : _A) = "step";decide,⟨s,["new","pipes","wind"],g,p,U,by decide,λj x y b a=>?_⟩,.inr ⟨12,tk,f,?_⟩,λz=>_D z (by show ¬ ("rank" : _A) = "line";decide),i⟩
 .match j,b,a with
  |0,b,a =>
   cases (_m b)
   cases (_m a);exact KC F.f e r h
  |1,b,a =>
   cases (_m b)
   cases (_m a);exact .inl ⟨((n:_d):_i),1,97,k,U,u,v,by lia,by lia⟩
  |2,b,a =>
   cases (_m b)
   cases (_m a);exact .inl ⟨_,0,1000000000,m,U,l,d,o,q⟩
  |j+3,b,a=>simp at a
 .rw[Jg,e];show ((Zf wn "rank" : _d):_i)<12;lia
theorem XH(F:U_ K aB aP aM)(e:Hu ρ vs=wn)(z:isNm t)(h:WX wn "rank" t=_h){c lo hi:_i}(m : -200<=c)(f:c<=200)(w:0<=lo)(r:lo<=60)(D:0<=hi)(B:hi<=60)(k:Fx ρ vs)(u:U0 ρ vs ⟨"line",t,[.int c,.int lo,.int hi]⟩):Io K aB aP aM ρ vs ⟨"line",t,[.int c,.int lo,.int hi]⟩:=by
 obtain⟨A,i,v⟩:=F.pL;obtain⟨s,C,n⟩:=F.bS;obtain⟨o,g,l⟩:=F.bLo;obtain⟨p,d,q⟩:=F.bHi;refine⟨by show ¬ ("line" : _A) = "step";decide,⟨A,["rank","shift","low","high"],i,v,U,by decide,λj x y b a=>?_⟩,.inl ⟨U,F.mL⟩,λ_=>u,k⟩
 match j,b,a with
 |0,b,a =>
  cases (_m b)
  cases (_m a);exact .inr<|.inr ⟨F.bR,by decide,_,U,z,by rw[Lj,e];exact h⟩
 |1,b,a =>
  cases (_m b)
  cases (_m a);exact .inl ⟨_,-200,200,s,U,C,n,m,f⟩
 |2,b,a =>
  cases (_m b)
  cases (_m a);exact .inl ⟨_,0,60,o,U,g,l,w,r⟩
 |3,b,a =>
  cases (_m b)
  cases (_m a);exact .inl ⟨_,0,60,p,U,d,q,D,B⟩
 |j+4,b,a=>simp at a
end
structure Ji(K:_s)(aB aP aM:_g)(ρ:V->R)(us:_b V)(bs:_b<|_A×_d)(rk:_b<|_A×_d×_i)(ks:_b R):Prop where
 kinds:∀v∈us,(ρ v).w = "board" \/ (ρ v).w = "rank" \/ (ρ v).w = "line" \/ (ρ v).w = "stop" \/ (ρ v).w = "coupler" \/ (ρ v).w = "mute"
 eb:(us.filter<|pw ρ "board").map ρ=bs.map Gm
 er:(us.filter<|pw ρ "rank").map ρ=rk.map J_
 ek:(us.filter<|λv=>Mj (ρ v).w).map ρ=ks
 ln:∀(i:_d) v,us[i]? = _a v->(ρ v).w = "line"->(∃(j:_d)(r:_A × _d × _i)(sh lo hi:_i),rk[j]? = _a r/\r.1=(ρ v).nm/\(ρ v).rest=[.int sh,.int lo,.int hi])/\∃u∈us.take i,Mj (ρ u).w=_h
 ok:∀(i:_d) v,us[i]? = _a v->Io K aB aP aM ρ (us.take i) (ρ v)
section
variable{us:_b V}{v:V}{bs WE:_b (_A×_d)}{rk ze:_b (_A×_d×_i)}{ks WU:_b R}
theorem RB{w t:_A}:kY ρ us w t=_h ↔ ∃v∈us,(ρ v).w=w/\(ρ v).nm=t:=by
 unfold kY;rw[gE];constructor
 .rintro⟨v,b,d⟩;obtain⟨a,c⟩:=cy.mp b;exact⟨v,a,V.str.inj<|_G c,V.str.inj<|_G d⟩
 .rintro⟨v,b,a,c⟩;exact⟨v,cy.mpr ⟨b,_v<|congrArg V.str a⟩,_v<|congrArg V.str c⟩
theorem Ji.nil:Ji K aB aP aM ρ [] [] [] []:=⟨(λ_ h=>nomatch h),U,U,U,(λi v h=>by simp at h),(λi v h=>by simp at h)⟩
theorem Ji.lQ(h:Ji K aB aP aM ρ us bs rk ks)(c:v∈us)(a:(ρ v).w = "board"):∃b∈bs,Gm b=ρ v:=by
 have:ρ v∈(us.filter<|pw ρ "board").map ρ:=cS<|cy.mpr ⟨c,_v<|congrArg V.str a⟩
 rw[h.eb] at this;exact ay.mp this
theorem Ji.uw(h:Ji K aB aP aM ρ us bs rk ks)(c:v∈us)(a:(ρ v).w = "rank"):∃b∈rk,J_ b=ρ v:=by
 have:ρ v∈(us.filter<|pw ρ "rank").map ρ:=cS<|cy.mpr ⟨c,_v<|congrArg V.str a⟩
 rw[h.er] at this;exact ay.mp this
theorem Ji.aU(h:Ji K aB aP aM ρ us bs rk ks)(b:v∈us)(a:Mj (ρ v).w=_h):ρ v∈ks:=by
 have:ρ v∈(us.filter<|λv=>Mj (ρ v).w).map ρ:=cS<|cy.mpr ⟨b,a⟩
 rw[h.ek] at this;exact this
theorem Ji.sG(h:Ji K aB aP aM ρ us bs rk ks):Fx ρ us:=λv a c=>by
 obtain⟨b,_,e⟩:=h.lQ a c;exact⟨_,by rw[<-e]⟩
theorem Ji.jq(h:Ji K aB aP aM ρ us bs rk ks){b:_A×_d}(c:b∈bs):∃v∈us,ρ v=Gm b:=by
 have:Gm b∈(us.filter<|pw ρ "board").map ρ:=by rw[h.eb];exact cS c
 obtain⟨v,a,e⟩:=ay.mp this;exact⟨v,(cy.mp a).1,e⟩
theorem Ji.uX(h:Ji K aB aP aM ρ us bs rk ks){r:_A×_d×_i}(b:r∈rk):∃v∈us,ρ v=J_ r:=by
 have:J_ r∈(us.filter<|pw ρ "rank").map ρ:=by rw[h.er];exact cS b
 obtain⟨v,a,e⟩:=ay.mp this;exact⟨v,(cy.mp a).1,e⟩
theorem Ji.VR(h:Ji K aB aP aM ρ us bs rk ks){b:_A×_d}(c:b∈bs):WX (Hu ρ us) "board" b.1=true:=by
 obtain⟨v,a,e⟩:=h.jq c;rw[<-Lj,RB];exact⟨v,a,by rw[e],by rw[e]⟩
theorem Ji.o_(h:Ji K aB aP aM ρ us bs rk ks){r:_A×_d×_i}(b:r∈rk):WX (Hu ρ us) "rank" r.1=true:=by
 obtain⟨v,a,e⟩:=h.uX b;rw[<-Lj,RB];exact⟨v,a,by rw[e],by rw[e]⟩
theorem O_{w:_A}(h:w = "stop" \/ w = "coupler" \/ w = "mute"):Mj w=true:=by rcases h with rfl | rfl | rfl <;> decide
theorem Ji.fresh(h:Ji K aB aP aM ρ us bs rk ks){t:_A}(j:∀b∈bs,b.1≠t)(l:∀r∈rk,r.1≠t)(g:∀k∈ks,k.nm≠t):∀w∈named,WX (Hu ρ us) w t=false:=by
 intro w i;rw[<-Lj,<-fq,RB];rintro⟨v,f,d,c⟩;simp only[Ê,Ï,Μ,ş] at i;rcases i with rfl | rfl | rfl | rfl | rfl
 .obtain⟨b,a,e⟩:=h.lQ f d;exact j b a<|by rw[<-c,<-e]
 .obtain⟨b,a,e⟩:=h.uw f d;exact l b a<|by rw[<-c,<-e]
 .exact g _ (h.aU f<|O_<|.inl d) c
 .exact g _ (h.aU f<|O_<|.inr<|.inl d) c
 .exact g _ (h.aU f<|O_<|.inr<|.inr d) c
theorem Ji.xW(h:Ji K aB aP aM ρ us bs rk ks):Zf (Hu ρ us) "board" = bs.length:=by
 rw[<-Jg,<-ah (f:=ρ),h.eb,ah]
theorem Ji.tW(h:Ji K aB aP aM ρ us bs rk ks):Zf (Hu ρ us) "rank" = rk.length:=by
 rw[<-Jg,<-ah (f:=ρ),h.er,ah]
theorem Ji.ji(h:Ji K aB aP aM ρ us bs rk ks){w:_A}(a:w = "stop" \/ w = "coupler" \/ w = "mute"):Zf (Hu ρ us) w=(ks.filter λr=>decide (V.str r.w=V.str w)).length:=by
 rw[<-Jg,<-h.ek,fm,ah,List.filter_filter];refine congrArg Ρ<|G4 λv _=>?_
 show pw ρ w v=(pw ρ w v && Mj (ρ v).w);by_cases e:(ρ v).w=w
 .rw[O_ (by rw[e];exact a),UF]
 .have:pw ρ w v=false:=_L λz=>e<|V.str.inj z
  rw[this,iX]
theorem Ji.snoc(h:Ji K aB aP aM ρ us bs rk ks)(y:(ρ v).w = "board" \/ (ρ v).w = "rank" \/ (ρ v).w = "line" \/ (ρ v).w = "stop" \/ (ρ v).w = "coupler" \/ (ρ v).w = "mute")
  (s:((us++[v]).filter<|pw ρ "board").map ρ=WE.map Gm)(z:((us++[v]).filter<|pw ρ "rank").map ρ=ze.map J_)(t:((us++[v]).filter<|λv=>Mj (ρ v).w).map ρ=WU)
  (o:∀(j:_d) r,rk[j]? = _a r->ze[j]? = _a r)
  (p:(ρ v).w = "line"->(∃(j:_d)(r:_A × _d × _i)(k lo hi:_i),ze[j]? = _a r/\r.1=(ρ v).nm/\(ρ v).rest=[.int k,.int lo,.int hi])/\∃u∈us,Mj (ρ u).w=_h)
  (ok:Io K aB aP aM ρ us<|ρ v):Ji K aB aP aM ρ (us++[v]) WE ze WU:=by
 have c:∀{i:_d}{u:V},(us++[v])[i]? = _a u->us[i]? = _a u/\(us++[v]).take i=us.take i \/ u=v/\(us++[v]).take i=us:=λ{i u} hi=>by
  by_cases b:i<us.length
  .rw[ce b] at hi;exact .inl ⟨hi,fg<|fh b⟩
  .have a:=(ag.mp hi).1;rw[av,bt] at a;have d:i=us.length:=by lia
   subst d;rw[ci (ai _),iN] at hi;exact .inr ⟨(_m hi).symm,by rw[fg (ai _),eW]⟩
 refine⟨λu n=>?_,s,z,t,λi u hi l=>?_,λi u hi=>?_⟩
 .rcases aE.mp n with g | g
  .exact h.kinds u g
  .rw[al.mp g];exact y
 .rcases c hi with⟨f,a⟩ | ⟨rfl,a⟩
  .rw[a];obtain⟨⟨j,r,k,lo,e,m,q,w⟩,x⟩:=h.ln i u f l;exact⟨⟨j,r,k,lo,e,o j r m,q,w⟩,x⟩
  .rw[a];exact p l
 .rcases c hi with⟨f,a⟩ | ⟨rfl,a⟩
  .rw[a];exact h.ok i u f
  .rw[a];exact ok
theorem Ou{p:V->_V}(h:p v=_h):(us++[v]).filter p=us.filter p++[v]:=by
 rw[hU,eJ,_o h];rfl
theorem Fo{p:V->_V}(h:p v=_r):(us++[v]).filter p=us.filter p:=by
 rw[hU,eJ,_l<|by rw[h];decide];simp
end
structure JS(K:_s)(aB aP aM:_g)(rows:_b R)(bs:_b<|_A×_d)(rk:_b<|_A×_d×_i)(ks:_b R)(ls:_b<|_b Ln):Prop where
 ok:∀(ρ:V->R)(us:_b V),us.map ρ=rows->Ji K aB aP aM ρ us bs rk ks
 ln0:ks=[]->∀ze,linesOf ze rows=[]
 ln:linesOf rk rows=ls
section
variable{rows:_b R}{bs:_b (_A×_d)}{rk:_b (_A×_d×_i)}{ks:_b R}
theorem JS.nil:JS K aB aP aM [] [] [] [] []:=⟨λρ a e=>by rw[mT.mp e];exact Ji.nil,λ_ _=>rfl,U⟩
theorem Mr{us:_b V}(e:us.map ρ=rows++[r]):∃tF v,us=tF++[v]/\tF.map ρ=rows/\ρ v=r:=by
 obtain⟨a,b,rfl,f,g⟩:=xi.mp e;obtain⟨v,l,rfl,c,d⟩:=AL.mp g;rw[mT.mp d];exact⟨a,v,U,f,c⟩
theorem JS.vI(F:U_ K aB aP aM)(h:JS K aB aP aM rows bs [] [] []){t:_A}(j:isNm t)(g:∀b∈bs,b.1≠t)(c:bs.length<5)(k:1<=n)(i:n<=61):JS K aB aP aM (rows++[Gm (t,n)]) (bs++[(t,n)]) [] [] []:=by
 refine⟨λρ m e=>?_,λ_ d=>?_,?_⟩
 .obtain⟨l,v,rfl,f,a⟩:=Mr e;have O:=h.ok ρ l f;refine O.snoc (.inl<|by rw[a]) ?_ ?_ ?_ (λ_ _ h=>h) (λz=>_D (a ▸ z)<|by show ¬ ("board" : _A) = "line";decide) ?_
  .rw[Ou (by unfold pw;rw[a];exact _v U),å,O.eb,å,ř,a];rfl
  .rw[Fo (by unfold pw;rw[a];show decide (V.str "board" = V.str "rank")=_r;decide),O.er]
  .rw[Fo (by rw[a];show Mj "board" = _r;decide),O.ek]
  .rw[a];exact V6 (YJ F.f U j (O.fresh g (λ_ z=>nomatch z) (λ_ z=>nomatch z)) (by rw[O.xW];exact c) k i) O.sG
 .rw[Cr,h.ln0 U d];rfl
 .rw[Cr,h.ln0 U []];rfl
theorem JS.rank(F:U_ K aB aP aM)(h:JS K aB aP aM rows bs rk [] []){t:_A}{c:_i}(p:isNm t)(l:∀b∈bs,b.1≠t)(g:∀r∈rk,r.1≠t)(f:rk.length<12)(q:1<=n)(k:n<=97)(m:0<=c)(o:c<=1000000000):JS K aB aP aM (rows++[J_ (t,n,c)]) bs (rk++[(t,n,c)]) [] []:=by
 refine⟨λρ u e=>?_,λ_ d=>?_,?_⟩
 .obtain⟨s,v,rfl,i,a⟩:=Mr e;have O:=h.ok ρ s i;refine O.snoc (.inr<|.inl<|by rw[a]) ?_ ?_ ?_ (λj r h=>by rw[õ (sC.mp h).1];exact h) (λz=>_D (a ▸ z)<|by show ¬ ("rank" : _A) = "line";decide) ?_
  .rw[Fo (by unfold pw;rw[a];show decide (V.str "rank" = V.str "board")=_r;decide),O.eb]
  .rw[Ou (by unfold pw;rw[a];exact _v U),å,O.er,å,ř,a];rfl
  .rw[Fo (by rw[a];show Mj "rank" = _r;decide),O.ek]
  .rw[a];exact Xu F U p (O.fresh l g (λ_ z=>nomatch z)) (by rw[O.tW];exact f) q k m o O.sG
 .rw[Cr,h.ln0 U d];rfl
 .rw[Cr,h.ln0 U _];rfl
theorem JS.j6(h:JS K aB aP aM rows bs rk ks ls)(b:r.w = "stop" \/ r.w = "coupler" \/ r.w = "mute")(g:∀(ρ:V->R)(us:_b V),us.map ρ=rows->Sw K aB aP aM ρ us r):JS K aB aP aM (rows++[r]) bs rk (ks++[r])<|ls++[[]]:=by
 have c:=O_ b;refine⟨λρ us e=>?_,λz=>by simp at z,?_⟩
 .obtain⟨d,v,rfl,f,a⟩:=Mr e;have O:=h.ok ρ d f;refine O.snoc (.inr<|.inr<|.inr<|by rw[a];exact b) ?_ ?_ ?_ (λ_ _ h=>h) (λz=>?_) ?_
  .rw[Fo (by unfold pw;rw[a];rcases b with e | e | e <;> rw[e] <;> decide),O.eb]
  .rw[Fo (by unfold pw;rw[a];rcases b with e | e | e <;> rw[e] <;> decide),O.er]
  .rw[Ou (by rw[a];exact c),ee,O.ek,ř,a]
  .rw[a] at z;rcases b with e | e | e <;> rw[e] at z <;> exact _D z (by decide)
  .rw[a];exact V6 (g ρ d f) O.sG
 .rw[Cr,h.ln];unfold Gb;rw[_o c]
theorem JS.jG(F:U_ K aB aP aM)(h:JS K aB aP aM rows bs rk ks ls){t a b:_A}{s:_i}(q:isNm t)(g:∀b∈bs,b.1≠t)(l:∀r∈rk,r.1≠t)(v:∀k∈ks,k.nm≠t)(j:(ks.filter λr=>decide (V.str r.w=V.str "coupler")).length<12)(p:isNm a)(i:(a,n)∈bs)(d:isNm b)(c:(b,m)∈bs)(u : -60<=s)(o:s<=60) :
  JS K aB aP aM (rows++[⟨"coupler",t,[.str a,.str b,.int s]⟩]) bs rk (ks++[⟨"coupler",t,[.str a,.str b,.int s]⟩]) (ls++[[]]) :=
 h.j6 (.inr<|.inl U) λρ f e=>by
  have O:=h.ok ρ f e;exact Rx F.f U q (O.fresh g l v) (by rw[O.ji (.inr<|.inl U)];exact j) p (O.VR i) d (O.VR c) u o
theorem JS.plain(F:U_ K aB aP aM)(h:JS K aB aP aM rows bs rk ks ls){c t a:_A}(f:c = "stop" \/ c = "mute")(p:isNm t)(i:∀b∈bs,b.1≠t)(m:∀r∈rk,r.1≠t)(q:∀k∈ks,k.nm≠t)(l:(ks.filter λr=>decide (V.str r.w=V.str c)).length<GR c)(o:isNm a)(j:(a,n)∈bs) :
  JS K aB aP aM (rows++[⟨c,t,[.str a]⟩]) bs rk (ks++[⟨c,t,[.str a]⟩]) (ls++[[]]):=by
 have d:c = "stop" \/ c = "coupler" \/ c = "mute":=by rcases f with e | e;exact .inl e;exact .inr<|.inr e
 exact h.j6 d λρ g e=>by
  have O:=h.ok ρ g e;exact Xv F.f f U p (O.fresh i m q) (by rw[O.ji d];exact l) o<|O.VR j
inductive Tl(rows:_b R)(bd:_A)(cnt:_d):Prop
|mk(r0:_b R)(st:R)(lr:_b R)(_:rows=r0++st::lr)(_:st.w = "stop")(_:st.rest=[.str bd])(_:lr.length=cnt)(_:∀r∈lr,r.w = "line")
theorem Tl.stop(a:_b R)(t bd:_A):Tl (a++[⟨"stop",t,[.str bd]⟩]) bd 0:=⟨a,_,[],U,U,U,U,λ_ h=>nomatch h⟩
theorem Tl.line{bd:_A}{cnt:_d}(h:Tl rows bd cnt)(i:r.w = "line"):Tl (rows++[r]) bd<|cnt+1:=by
 obtain⟨e,st,c,rfl,d,j,a,b⟩:=h;refine⟨e,st,c++[r],by simp,d,j,by simp[a],λx f=>?_⟩;rcases aE.mp f with g | g
 .exact b x g
 .rw[al.mp g];exact i
theorem JS.line(F:U_ K aB aP aM){s:_b Ln}(h:JS K aB aP aM rows bs rk ks<|ls++[s]){bd:_A}{cnt:_d}(T:Tl rows bd cnt)(W:cnt<4){n:_d}{t:_A}{wi b lo hi:_i}(k:rk[j]? = _a (t,m,wi))(r:(rk.map (·.1)).Nodup)(M:isNm t)(GN:(bd,n)∈bs)(B:lo<=hi)(H:hi<(n:_i))(I : -200<=b)(R:b<=200)(b3:0<=lo)(P:hi<=60) :
  JS K aB aP aM (rows++[⟨"line",t,[.int b,.int lo,.int hi]⟩]) bs rk ks (ls++[s++[⟨j,b,lo,hi⟩]]):=by
 obtain⟨r0,st,lr,er,q,L,g3,Q⟩:=T;have D:Mj "line" = false:=by decide
 refine⟨λρ us e=>?_,λz=>?_,?_⟩
 .obtain⟨a,v,rfl,E,c⟩:=Mr e;have O:=h.ok ρ a E;obtain⟨w,u1,o,m1,S⟩:=xi.mp<|E.trans er;obtain⟨d,x,N,l,C⟩:=AL.mp S;subst N;have y:d∈a:=by rw[o];simp
  have A:x.length=cnt:=by rw[<-g3,<-C,ah]
  have X:a.length=w.length+(cnt+1):=by rw[o,av,zdl,A]
  refine O.snoc (.inr<|.inr<|.inl<|by rw[c]) ?_ ?_ ?_ (λ_ _ h=>h) (λ_=>⟨⟨j,_,b,lo,hi,k,by rw[c],by rw[c]⟩,d,y,by rw[l,q];decide⟩) ?_
  .rw[Fo (by unfold pw;rw[c];show decide (V.str "line" = V.str "board")=_r;decide),O.eb]
  .rw[Fo (by unfold pw;rw[c];show decide (V.str "line" = V.str "rank")=_r;decide),O.er]
  .rw[Fo (by rw[c];exact D),O.ek]
  .rw[c];have g:a[a.length - 1 - cnt]? = _a d:=by
    have:a.length - 1 - cnt=w.length:=by lia
    rw[this,o,ci<|ai _,iN];rfl
   refine XH F U M (O.o_<|am k) I R b3 (by lia) (by lia) P O.sG ⟨cnt,d,b,lo,hi,bd,[],U,⟨λi Z=>?_,by lia,d,g,by rw[l,q];decide⟩,W,g,by rw[l,q],by rw[l,L],B,?_⟩
   .have f:cnt - 1 - i<x.length:=by lia
    refine⟨x[cnt - 1 - i],?_,?_⟩
    .have:a.length - 1 - i=w.length+((cnt - 1 - i)+1):=by lia
     rw[this,o,ci<|oo _ _,Nat.add_sub_cancel_left,List.getElem?_cons_succ];exact af f
    .refine Q _ ?_;rw[<-C];exact cS<|de f
   .obtain⟨u,J,G⟩:=O.jq GN;rw[gE];refine⟨u,cy.mpr ⟨J,?_⟩,?_⟩
    .unfold pw;rw[G];exact _v U
    .show (pn ρ bd u && decide (hi<oA (ρ u)))=_h;unfold pn;rw[G,eI];exact⟨_v U,_v H⟩
 .subst z;have:=h.ln0 U rk;rw[h.ln] at this;simp at this
 .rw[Cr,h.ln];unfold Gb;rw[_l (by show ¬ Mj "line" = _h;rw[D];decide),_o U,Iz];have p:=(ag.mp k).1;have:(rk.map (·.1)).idxOf t=j:=by
   have Y:j<(rk.map (·.1)).length:=by rw[ah];exact p
   have e2:(rk.map (·.1))[j]=t:=by
    rw[jS];have:=(ag.mp k).2;rw[this]
   rw[<-e2];exact r.idxOf_getElem j Y
  show ls++[s++[⟨(rk.map (·.1)).idxOf t,b,lo,hi⟩]]=_;rw[this]
theorem JS.fin(h:JS K aB aP aM rows bs rk ks ls)(d:Paired (λ(r:R) v=>TupAt H r.v v) rows vs)(j:1<=bs.length)(n:bs.length<=5)(sz:∀b∈bs,b.2<=61)(i:rk.length<=12)(g:∀r∈rk,r.2.1<=97)(k:ks.length<=100)(m:(bs.map (·.1)).Nodup)(a:(rk.map (·.1)).Nodup)(l:(ks.map (·.nm)).Nodup)(len:rows.length<=150) :
  Rows H (dR H) vs/\yZ K aB aP aM (dR H) vs bs rk ks/\linesOf rk (vs.map<|dR H)=ls:=by
 have f:=Wz d;have O:=h.ok (dR H) vs f;refine⟨λv c=>?_,⟨O.kinds,O.eb,O.er,O.ek,O.ln,j,n,sz,i,g,k,m,a,l,by rw[<-d.length];exact len,O.ok⟩,by rw[f];exact h.ln⟩;obtain⟨r,_,e⟩:=Dq d c;rw[Ut e];exact e
end
theorem eX{a b:_A}(h:a.cps.toList=b.cps.toList):a=b:=by
 cases a;cases b;simp at h;simp[h]
theorem qR:∀n<26,letters.cps.toList[n]? = _a (97+n):=by decide
theorem Uo{i:_i}(a:0<=i)(b:i<26):TQ letters.cps.toList i=_a (97+i.toNat):=by
 have h:=Aj<|qR i.toNat<|by lia
 have e:((i.toNat:_d):_i)=i:=by lia
 rw[e] at h;exact h
theorem jX:(("" : _A)).cps = #[]:=by decide
theorem VL(b:_b _d):(Txt.join ("" : _A)<|b.map λc=>(⟨#[c]⟩:_A)).cps.toList=b:=by
 have d:∀(l:_b _d)(a:_E _d),((l.map λc=>(⟨#[c]⟩:_A)).foldl (λa p=>a++("" : _A).cps++p.cps) a).toList=a.toList++l:=by
  intro l
  induction l with
  |nil=>intro a;simp
  |cons c l e =>
   intro a;rw[df,mI,e,jX];simp
 unfold Txt.join Builtin.Str.glued
 cases b with
 |nil=>decide
 |cons c l =>
  show (((((c::l).map λc=>(⟨#[c]⟩:_A)).drop 1)).foldl (λa p=>a++("" : _A).cps++p.cps) #[c]).toList=_;rw[df,Cf,rd,d];rfl
theorem Vh{z:_A}(h:n<=z.length):(Txt.slice z _n<|some (n:_i)).cps.toList=z.cps.toList.take n:=by
 have a:z.length=z.cps.toList.length:=by simp[ě]
 have e:=_H.mp<|slice_closes_to (x:=z) (j:=(n:_i)) ⟨by lia,by lia⟩
 rw[e,C5];simp
theorem Vj{z:_A}(h:n<=z.length):(Txt.slice z (_a (n:_i)) _n).cps.toList=z.cps.toList.drop n:=by
 have a:z.length=z.cps.toList.length:=by simp[ě]
 rw[slice_from_eq (x:=z) (i:=(n:_i)) (b:=(z.length:_i)) (by lia) (by lia) U,C5,aI];refine dt ?_;rw[gz];lia
def Vl(c:_i):Nat:=(2+c % 7).toNat
theorem Zj(c:_i):2<=Vl c/\Vl c<=8:=by unfold Vl;lia
def G8(c:_i):_b Nat:=(_B<|Vl c).map λ(j:_d)=>97+(Bl (c / 7) (j:_d) % 26).toNat
theorem G6(c:_i):(G8 c).length=Vl c:=by simp[G8]
theorem Wr{c:_i}{x:_d}(h:x∈G8 c):97<=x/\x<=122:=by
 obtain⟨j,_,rfl⟩:=ay.mp h;have a:0<=Bl (c / 7) (j:_d) % 26:=dc _<|by decide
 have b:Bl (c / 7) (j:_d) % 26<26:=cq _<|by decide
 lia
noncomputable def UV(c:_i):Nat:=(c / 49 % (2+c % 7 - 1)).toNat
theorem a_(c:_i):UV c+2<=Vl c:=by
 unfold UV Vl;have a:0<=c / 49 % (2+c % 7 - 1):=dc _<|by lia
 have b:c / 49 % (2+c % 7 - 1)<2+c % 7 - 1:=cq _<|by lia
 lia
def Ka(c:_i)(k:_d):_b Nat:=(G8 c).take (UV c)++[97+k / 26,97+k % 26]++(G8 c).drop (UV c+2)
def Dm(c:_i)(k:_d):Str:=⟨(Ka c k).toArray⟩
theorem nZ(c:_i)(k:_d):(Ka c k).length=Vl c:=by
 have:=a_ c;have:=G6 c;simp[Ka];lia
theorem tD(c:_i){k:_d}(h:k<676):isNm<|Dm c k:=by
 have:=Zj c;have e:(Dm c k).length=Vl c:=by simp[Dm,ě,nZ]
 refine⟨by lia,by lia,λx b=>?_⟩;have a:x∈Ka c k:=by simpa [Dm] using b
 unfold Ka at a;rcases aE.mp a with a | a
 .rcases aE.mp a with a | a
  .exact Wr<|gS a
  .have:k / 26<26:=by lia
   have:k % 26<26:=tj _<|by decide
   rcases bq.mp a with rfl | a
   .lia
   .rw[al.mp a];lia
 .exact Wr<|me a
theorem N7{c:_i}{k l:_d}(h:Dm c k=Dm c l):k=l:=by
 have a:Ka c k=Ka c l:=by
  have:=congrArg (λs:_A=>s.cps.toList) h;simpa [Dm] using this
 unfold Ka at a;rw[ed,ed] at a;have b:=List.append_cancel_left a;have e:97+k / 26=97+l / 26:=by
  have:=congrArg (λt=>t.head?) b;simpa using this
 have d:97+k % 26=97+l % 26:=by
  have:=congrArg (λt=>t[1]?) b;simpa using this
 lia
theorem Y5{w:_A}(h:w = "stop" \/ w = "coupler" \/ w = "mute"):Cv (Gk [] [(δ "coupler",V.int 12),(δ "mute",.int 5),(δ "stop",.int 24)]) (δ w:Key)=_a (.int (GR w:_d)):=by
 rcases h with rfl | rfl | rfl <;> decide
theorem Vo.snoc{k:Kb}(h:∀z∈d3,z.ok n)(d:∀(i:_d) z,d3[i]? = _a z->((d3.take i).filter<|Ie z.w).length<GR z.w)(c:k.ok n)(e:(d3.filter<|Ie k.w).length<GR k.w) :
  (∀z∈d3++[k],z.ok n)/\∀(i:_d) z,(d3++[k])[i]? = _a z->(((d3++[k]).take i).filter<|Ie z.w).length<GR z.w:=by
 refine⟨λz a=>?_,λi z a=>?_⟩
 .rcases aE.mp a with q | q
  .exact h z q
  .rw[al.mp q];exact c
 .by_cases b:i<d3.length
  .rw[ce b] at a;rw[fg (by lia)];exact d i z a
  .have:i=d3.length:=by
    have:=(ag.mp a).1;rw[av,bt] at this;lia
   subst this;rw[ci (ai _)] at a;simp at a;subst a;rw[fg (ai _),eW];exact e
structure sS(s:_d)(pz:_b _d)(l:Ln):Prop where
 r:l.r<pz.length
 lo:0<=l.lo
 le:l.lo<=l.hi
 hi:l.hi<(s:_i)
 s1 : -200<=l.sh
 s2:l.sh<=200
abbrev Kl:=Kb×_b Ln
def Kb.bd:Kb->_d
 |.cp i _ _=>i
 |.pl _ i=>i
def Kb.wj{k:Kb}(h:k.ok n):k.bd<n:=by
 cases k with
 |cp i j s=>exact h.1
 |pl w i=>exact h.1
inductive IV(Dx:_g)(H:Hp)(z:Kl)(y:V):Prop
|mk(ex:_)(_:TupAt H (z.1.v++ex) y)(_:(ex=[]/\z.2=[]/\¬ z.1.w = "stop") \/ (z.1.w = "stop" /\ ∃A ts,ex=[.ref A]/\¬ A=Dx/\H A=_a (.lst ts)/\Paired (λx y=>TupAt H (gF x) y) z.2 ts))
theorem IV.mono{b:_g}{z:Kl}(s:Al H H')(h:IV b H z y):IV b H' z y:=by
 obtain⟨g,i,a⟩:=h;refine⟨g,i.mono s,?_⟩;rcases a with a | ⟨c,A,j,e,k,d,f⟩
 .exact .inl a
 .exact .inr ⟨c,A,j,e,k,s _ _ d,Ao s f⟩
theorem IV.upd{a:_g}{z:Kl}{ws:_b V}(h:IV a H z y)(d:H a=_a (.lst ys)):IV a (upd H a<|.lst ws) z y:=by
 obtain⟨f,l,b⟩:=h;refine⟨f,l.upd d,?_⟩;rcases b with b | ⟨i,A,g,e,c,j,k⟩
 .exact .inl b
 .exact .inr ⟨i,A,g,e,c,by rw[An c];exact j,Bv k d⟩
theorem IV.w0{c:_g}{z:Kl}(h:IV c H z y):∃T r,y=.ref T/\H T=_a (.tup<|.str z.1.w::r):=by
 obtain⟨d,⟨T,e,a⟩,_⟩:=h;obtain⟨r,b⟩:=z.1.v0;rw[b] at a;exact⟨T,_,e,a⟩
theorem ZL{i:_g}{c:_b Kl}{us:_b V}(w:_A)(h:Paired (λz y=>IV i H z y) c us):(us.filter λv=>decide (PN H 0 v=V.str w)).length=((c.map (·.1)).filter<|Ie w).length:=by
 induction h with
 |nil=>rfl
 | @cons a b l m x y d =>
  have e:PN H 0 b=V.str a.1.w:=by
   obtain⟨j,g,_⟩:=x;rw[Hg g 0];obtain⟨r,e⟩:=a.1.v0;rw[e];rfl
  rw[df,eJ,eJ];have f:decide (PN H 0 b=V.str w)=Ie w a.1:=by rw[e]
  rw[f]
  cases Ie w a.1 <;> simp[d]
structure Yd(sz pz:_b _d)(i8:_b Kl):Prop where
 ok:∀k∈i8.map (·.1),k.ok sz.length
 room:∀(i:_d) k,(i8.map (·.1))[i]? = _a k->(((i8.map (·.1)).take i).filter<|Ie k.w).length<GR k.w
 ln:∀z∈i8,z.2.length<=4/\(∀x∈z.2,sS (sz.getD z.1.bd 0) pz x)/\(¬ z.1.w = "stop"->z.2=[])
theorem Yd.nil{sz:_b _d}:Yd sz pz []:=⟨(λ_ h=>nomatch h),(λi k h=>by simp at h),(λ_ h=>nomatch h)⟩
theorem Yd.snoc{sz:_b _d}{c:_b Kl}{z:Kl}(h:Yd sz pz c)(d:z.1.ok sz.length)(f:((c.map (·.1)).filter<|Ie z.1.w).length<GR z.1.w)(i:z.2.length<=4/\(∀x∈z.2,sS (sz.getD z.1.bd 0) pz x)/\(¬ z.1.w = "stop"->z.2=[])):Yd sz pz<|c++[z]:=by
 obtain⟨a,b⟩:=Vo.snoc h.ok h.room d f;refine⟨by rw[ee];exact a,by rw[ee];exact b,λx e=>?_⟩;rcases aE.mp e with g | g
 .exact h.ln x g
 .rw[al.mp g];exact i
end Og
namespace Wd
open PySem PyProof.Rows
section
variable{w:_O}{E:vSP}{T:è}{r:_g}{P:_d->_j->Prop}{OK:Θ->Prop}
theorem Xx{R:_b _j->_C->Prop}(K:W.KdlSrc prog w T r d n P OK)(z:A.handled=_n)(g:OK s.heap)(u:n<=sizeLine)
  (h:∀h' tk i7,(∀b o,s.heap.get? b=_a o->h'.get? b=_a o)->s.heap.objs.size<h'.objs.size->ItemsOf P i7 n->R i7.toList { s with heap:=h',toks:=tk }):wpAny (_z prog w) A (collect<|.ref r) R E s:=by
 unfold collect;refine _c<|y8<|Û PySem.F.entry_proto_collect ?_
 rw[Â PySem.F.plain_proto_collect _];show wpAny _ A.in1 (newList [] >>= λl=>again<|.builtin "list.__iadd__" ⟨[l,.ref r],[]⟩) _ _ s;refine _c<|_X<|_k ⟨Ģ PySem.F.plain_list_iadd _,Û PySem.F.entry_list_iadd ?_⟩
 rw[Â PySem.F.plain_list_iadd _];have B:(s.heap.push { cls:=.type "list",data:=.seq ([]:_b _j).toArray }).get? s.heap.objs.size=_a { cls:=.type "list",data:=.seq #[] }:=_p _ U;obtain⟨p,t⟩:=K.there _ g;show wpAny _ A.in1 (Þ (.ref s.heap.objs.size) (.ref r)<|.ref s.heap.objs.size) _ _ _;have m:=W.kdl_extend (A:=A) (s:={ s with heap:=s.heap.push { cls:=.type "list",data:=.seq ([]:_b _j).toArray } }) (R:=λq j=>∃h' tk i7 c,q=.ok (.ret<|.ref s.heap.objs.size)/\j = { s with heap:=h',toks:=tk } /\
   (∀b o,s.heap.get? b=_a o->h'.get? b=_a o)/\h'.get? s.heap.objs.size=_a { cls:=.type "list",dict:=_n,data:=.seq i7 c,slots:=#[] }/\ItemsOf P i7 n) K z (K.keep _ _ g λb _ o e=>_e _ e) s.heap.objs.size (_T<|cf p) (_T<|cf t) (.ref s.heap.objs.size) 0 B
  (λh' tk i7 c k a i=>⟨h',tk,i7,c,U,U,λb o e=>k b o (cf<|_q e)<|_e _ e,a,i⟩) u
 refine ν m (λfin j x=>?_) λe j x=>?_
 .cases fin with
  |done f =>
   obtain⟨h',tk,i7,c,e,rfl,k,a,i⟩:=x
   cases e;exact _c<|İ a<|_k<|h h' tk i7 k (_q a) i
  |again C =>
   refine⟨x.1,é x.2 λq D y=>?_⟩;obtain⟨h',tk,i7,c,rfl,rfl,k,a,i⟩:=y;exact _c<|İ a<|_k<|h h' tk i7 k (_q a) i
 .obtain⟨_,_,_,_,v,_⟩:=x
  cases v
end
open PySem PySem.W PySem.Calls PyProof.Rows Sm Sq Sx
section
variable{w:_O}{E:vSP}{T:è}{r:_g}{P:_d->_j->Prop}{OK:Θ->Prop}
theorem nA{vs:_b _j}{P:PySem.Fin->_C->Prop}(I:s.heap.get? a=_a (seqObj "list" vs.toArray n))(p:Υ vs ns)(K:vs.length<=sizeLine)
  (h:∀us ms,Υ us ms->ms.Perm ns->ms.Pairwise (· <= ·)->P (.done<|.ret .none) { s with heap:=sortedHeap s.heap a vs us.toArray }) :
  wpAny (_z prog w) A (É.«list.sort» ⟨[.ref a],[]⟩) P E s:=by
 have G:=KZ p;have l:=M5 p;refine Uu (blt:=yP) (d:=0) (ts:=ns) (κ:=oneType') Ve I K G (λi j v a b f r x y=>?_) (λJ k g Q q=>?_) (λJ k i j u v a b r f x y C c=>?_) λB D pw=>?_
 .obtain⟨t,rfl⟩:=l i v a f x;obtain⟨M,e⟩:=l j _ b r y
  cases e;rfl
 .match vs,p,g with
  |[],_,g=>simp at g
  |[_],_,g=>simp at g
  |v₁::v₂::rest,p,_ =>
   rw[GI p];exact _k q
 .obtain⟨t,rfl⟩:=l i u a r x;obtain⟨M,rfl⟩:=l j v b f y;rw[zA];exact tq c
 .refine h _ (B.map λi=>ns.getD i 0) (Sx.ints_of (by simp) λi v n f m=>?_) ?_ ?_
  .rw[ar] at f m
   cases hi:B[i]? with
   |none=>rw[hi] at f;cases f
   |some z =>
    rw[hi] at f m;have F:z<vs.length:=dL.mp<|D.mem_iff.mp<|am hi
    have o:z<ns.length:=by lia
    have H:vs.getD z _J=vs[z]:=by simp[_K,F]
    have L:ns.getD z 0=ns[z]:=by simp[_K,o]
    simp only[ŭ,Ń] at f m;rw[H] at f;rw[L] at m;exact l z v n (by rw[<-f];exact af F)<|by rw[<-m];exact af o
  .have:(_B vs.length).map (λi=>ns.getD i 0)=ns:=by
    refine ô (by simp[G]) λi N g=>?_;simp[_K,g]
   have q:=D.map<|λi=>ns.getD i 0
   rw[this] at q;exact q
  .rw[ft];exact pw.imp λ{i j} e=>GO.mp<|Ô e
theorem Xn{js:_b _i}(K:W.KdlSrc prog w T r d n P OK)(v:A.handled=_n)(a:OK s.heap)(i:n<=sizeLine)(x:∀i7:_E _j,ItemsOf P i7 n->Υ i7.toList js)
  (h:∀D h' tk out c ns,s.heap.objs.size<=D->(∀b o,s.heap.get? b=_a o->h'.get? b=_a o)->h'.get? D=_a { cls:=.type "list",data:=.seq out c }->Υ out.toList ns->ns.Perm js->ns.Pairwise (· <= ·)->Q (.ref D) { s with heap:=h',toks:=tk }) :
  wpAny (_z prog w) A (call (.builtin "sorted") [.ref r]) Q E s:=by
 refine ī u' f' f_ (GE _) ?_;unfold É.«sorted»;refine _c (m:=checkCount "sorted" 1 1 _)<|_k<|_c<|Xx (A:=A.in1) K (by simpa using v) a i λh' tk i7 k lt j=>?_
 have p:=x i7 j;have len:i7.toList.length<=sizeLine:=by rw[_I,j.1];exact i
 refine _c<|ģ ?_ len
 have f:(h'.push<|seqObj "list" i7.toList.toArray 0).get? h'.objs.size=_a (seqObj "list" i7.toList.toArray 0):=_p _ U;refine _c<|π<|Α ŝ ⟨_,f,U⟩ Ŏ (nA f p len λg y u q t=>⟨_,U,?_⟩)<|zw _
 obtain⟨c,z⟩:=B1 (out:=g.toArray) f;refine _k ⟨_,U,h h'.objs.size _ tk g.toArray c y (fh lt) (λb o e=>?_) z u q t⟩;have l:=_q<|k b o e
 rw[zz (cf l) (by rw[ŉ];exact gX l)];exact _e _<|k b o e
end
end Wd
namespace L2
open PySem PySem.Spec PyProof.Rows
theorem Ku(hc:X.calm=_h):Eo X (.builtin "sorted") (λxs H Q=>∃(a:_g)(kvs:_b<|Key × V)(js:_b _i),xs=[V.ref a]/\H a=_a (.dK kvs)/\kvs.map (·.1)=js.map _R/\∀(p:_g)(ns:_b _i),H p=_n->ns.Perm js->ns.Pairwise (· <= ·)->Q (.ref p) (upd H p<|.lst<|ns.map V.int)):=by
 intro b9 s σ H xs us Q I r h;obtain⟨a,kvs,js,rfl,S,J,q⟩:=h;obtain⟨u,rfl,ru⟩:=vals1 r
 cases ru;obtain⟨hz,lo,v,M,o,R,ep,n,w,C,e4,Z,e6⟩:=I.hok a _ S;have hl:kvs.length=v.length:=Paired.length M;have E:s.heap.DictAt (CN X.prog X.w) a v ep:=⟨o,R,n,w,C,e4,Z,e6⟩;have O:js.length=v.length:=by
  have:=congrArg Ρ J;rw[ah,ah] at this;lia
 refine Wd.Xn (js:=js) (W.kdl_dict (knd:=CN X.prog X.w) (kvs:=v) (ep:=ep) lo) (I.ok.hd hc) E (by lia) (λL N=>?_) λD h' tk A c ns le k e Y p o=>?_
 .refine MF ?_;refine RM (by have h1:L.toList.length=L.size:=_I;have h2:=N.1;rw[ah];lia) λj x u K G=>?_;rw[_w] at G;obtain⟨k,y,z,T⟩:=N.2 j u G;rw[ar] at K;obtain⟨i,hi,rfl⟩:=aS.mp K;have n:(kvs.map (·.1))[j]? = _a (_R i):=by rw[J,ar,hi];rfl
  rw[ar] at n;obtain⟨kv,F,QO⟩:=aS.mp n;have g:∀{l:_b (Key × V)}{m:_b (Key × _j)},KV l m->∀{j:_d} {p q},l[j]? = _a p->m[j]? = _a q->p.1=q.1:=by
   intro l m h;unfold KV at h
   induction h with
   |nil=>intro j p q f;simp at f
   |cons a b ih =>
    intro j p q f B
    cases j with
    |zero =>
     simp at f B;subst f B;exact a.1
    |succ j=>exact ih (by simpa using f)<|by simpa using B
  have w:=g M F z;rw[QO] at w;have C:k=_R i:=w.symm;subst C;rcases Cm (show MP (_R i) u=_h from T) with⟨i',t,e,rfl⟩ | ⟨x,t,e,_⟩
  .cases e;exact⟨t,U⟩
  .cases e
 have P:H D=none:=I.hok.fresh le;have d:(ns.map V.int).length<=sizeLine:=by
  rw[ah,p.length_eq];lia
 exact⟨.ref D,_,I.laid (o:=.lst<|ns.map V.int) (t':=tk) k le ⟨d,A.toList,c,KD Y,e⟩,U,q D ns P p o⟩
def Jr(kvs:_b<|Key×V)(k:Key):_b<|Key×V:=kvs.filter λkv=>decide (kv.1≠k)
inductive Yw(ty:TE)(σ:St)(Q:VK)(x:V)(H1:Hp):Prop
|mk(a:_)(_:x=.ref a)(_:yO H1 a)(_:ty σ H1 λy H2=>∃kvs k v,H2 a=_a (.dK kvs)/\y=kV k/\kvs.length<=sizeLine/\Cv kvs k=_a v/\Q v (upd H2 a<|.dK<|Jr kvs k))
abbrev t_(td ty:TE):TE:=λσ H Q=>td σ H λx H1=>Yw ty σ Q x H1
section
variable{o e:Expr}{k7:ĵ}{td ty:TE}
theorem Uv{l:_b (Key×V)}{m:_b (Key×_j)}(h:KV l m)(k:Key):KV (Jr l k)<|without m k:=by
 unfold KV at h |-;unfold Jr without
 induction h with
 |nil=>exact .nil
 |cons a b c =>
  rename_i p q l m;rw[eJ,eJ];have e:=a.1;by_cases g:p.1=k
  .rw[_l (by simp[g]),_l<|by simp[<-e,g]];exact c
  .rw[_o (by simp[g]),_o<|by simp[<-e,g]];exact .cons a c
theorem jU(V:PE X o td)(c:PE X e ty)(m:M1 X o "pop" k8 e k7):PE X (.Call (.Attribute o "pop" k8) [e] [] k7)<|t_ td ty:=by
 intro r s σ H Q I h;refine Ž m.base m.few m.line ko PySem.F.slot_dict_pop PySem.F.type_dict_pop<|CP (V r s σ H _ I h) λu G J=>?_
 obtain⟨x,Z,B,T,a,F,d,q1⟩:=J;subst F;obtain rfl:u=_Q a:=T;obtain⟨M,W,_⟩:=Um B d;refine⟨M,W,?_⟩;rw[m.trees];refine ß U<|ï<|Κ<|CP (c r G σ Z _ B q1) λn s2 ⟨y,H2,l,j,f,k,v,A,S,hl,Y,E⟩=>æ ?_
 subst S;obtain⟨O,K,w,g,z⟩:=W0 l.hok A;have D:=g.length;have b:=g.val k;rw[Y] at b
 cases hv':valueAt w k with
 |none=>rw[hv'] at b;exact b.elim
 |some R =>
  rw[hv'] at b;refine ż PySem.F.slot_dict_pop z.typeIs PySem.F.entry_dict_pop (PySem.F.args_dict_pop_2 _ _) (meets_dict_pop_there (CN X.prog X.w) a (Mh j) [] (.inl U) ?_) ⟨w,R,z,by lia,hv',λL C N=>?_⟩
  .rcases k with i | t
   .obtain⟨t,rfl⟩:=(show ∃t,n=Ζ i t from j);rfl
   .obtain⟨p,rfl⟩:=(show ∃p,n=į t p from j);rfl
  have c:∃q,L.get? a=_a q:=let ⟨q,_,_,P,_⟩:=C;⟨q,P⟩;refine⟨v,_,Ky l (ob:=.dK<|Jr f k) (by rw[A];exact Ψ) N c<|Q0 (bo (dE ..) O) K (Uv g k) C,b,E⟩
end
open PySem PySem.Spec PySem.Calls PyProof.Rows
section
variable{z y3:_A}{N':_b _A}
theorem Wc{c b e:ĵ}{k:_d}{d:TI}(a:X.calm=_h)(S:Dd X [x,z,y3] N' scope)(hi:PI X (.Tuple [.Name x px,.Name z c,.Name y3 b] k e) iter d)
  (i:∀C s₀ H₀ fp,Pk (JT X [x,z,y3] N' scope C s₀ H₀ fp) qc tt) (g:∀C s₀ H₀ fp,PE (JT X [x,z,y3] N' scope C s₀ H₀ fp) qA te) (j:∀x,foldedSetIterable iter X.env x=pure x:=by intro _;rfl) :
  PE X (.ListComp qA [⟨.Tuple [.Name x px,.Name z c,.Name y3 b] k e,iter,qc,0⟩] scope pos) (aJ d (Qo X.K 3<|Eh (Ci 0)<|Eh (Ci 1)<|Eh (Ci 2) Q6) tt te):=J7 (F:=λσ τ=>∃v0 h f,τ=v0::h::f::σ) (λ_=>⟨_,_,_,U⟩) (λ_ _ _ _ q=>q.g) a S hi (λ_ _ _ _=>HS (n:=3) a<|Bq (Ph S U)<|Bq (Ph S U)<|Bq (Ph S U) FP) i g j
end
open PySem PySem.Spec PyProof.Rows
def Dp:_d->Hp->V->V->Prop
 |0,_,x,y=>x=y/\Fj x=_h
 |n+1,H,x,y=>(x=y/\Fj x=_h) \/ ∃a b xs ys,x=V.ref a/\y=V.ref b/\((H a=_a (.lst xs)/\H b=_a (.lst ys)) \/ (H a=_a (.tup xs)/\H b=_a (.tup ys)))/\Paired (Dp n H) xs ys
theorem Mz{x:V}(h:Fj x=_h):Dp n H x x:=by
 cases n with
 |zero=>exact⟨U,h⟩
 |succ n=>exact .inl ⟨U,h⟩
theorem FZ{R:V->V->Prop}:∀{xs ys:_b V},Paired R xs ys->∀j,j<xs.length->R (xs.getD j .non) (ys.getD j .non)
 |_,_,.nil,j,h=>_D h<|iF _
 |_,_,.cons a b,0,_=>a
 |_,_,.cons a b,j+1,h=>FZ b j<|Nat.lt_of_succ_lt_succ h
theorem M_(I:Inv X b9 σ H s):∀(n:_d)(A:ù)(x y:V)(u v:_j),A.units+n<cLine->Dp n H x y->RelV x u->RelV y v->ħ A s u v _h
 |0,A,x,y,u,v,J,h,q,o=>by
  obtain⟨rfl,f⟩:=h;have:=Qg (A:=A) (s:=s) q o f f;rw[N6 f] at this;exact this
 |n+1,A,x,y,u,v,J,h,q,o=>by
  rcases h with⟨rfl,f⟩ | ⟨a,b,E,F,rfl,rfl,t,p⟩
  .have:=Qg (A:=A) (s:=s) q o f f;rw[N6 f] at this;exact this
  .cases q
   cases o;by_cases i:a=b
   .subst i;exact Ď _
   .refine Ġ i ?_;have M:=p.length;rcases t with⟨w,r⟩ | ⟨w,r⟩
    .obtain⟨g,m,z,_⟩:=I.list (show Cp X.K H a E from .inl<|.inl w);obtain⟨l,k,B,_⟩:=I.list (show Cp X.K H b F from .inl<|.inl r);have K:=m.length;have G:=k.length;have h:=ŏ (A:=A) (e:=λ_=>_h) z.isList B.isList (by simp;lia) (by lia) (λj D C=>by
      have d:j<g.length:=by simpa using D
      have c:j<l.length:=by simpa using C
      simp only[Æ];exact M_ I n A.in1 _ _ _ _ (by show A.units+1+n<cLine;lia) (FZ p j<|by lia) (Gd m d)<|Gd k c)
     have e:((_B g.toArray.size).all λ_=>_h)=true:=eM.mpr λ_ _=>rfl;rw[e] at h;exact h
    .obtain⟨g,m,z,_⟩:=I.tuple (show Fd X.K H a E from .inl<|.inl w);obtain⟨l,k,B,_⟩:=I.tuple (show Fd X.K H b F from .inl<|.inl r);have K:=m.length;have G:=k.length;have h:=wq (A:=A) (e:=λ_=>_h) z B (by lia) (λj D C=>by
      have d:j<g.length:=by simpa using D
      have c:j<l.length:=by simpa using C
      simp only[Æ];exact M_ I n A.in1 _ _ _ _ (by show A.units+1+n<cLine;lia) (FZ p j<|by lia) (Gd m d)<|Gd k c)
     have e:((_B<|min g.toArray.size l.toArray.size).all λ_=>_h)=true:=eM.mpr λ_ _=>rfl;have L:(g.toArray.size == l.toArray.size)=true:=_H.mpr<|by simp;lia
     rw[e,L] at h;exact h
theorem Yi(n:_d)(M:X.A.units+(n+1)<cLine):Ga X (compareOp .Eq) (λx y H Q=>∃a b,x=V.ref a/\y=V.ref b/\Dp (n+1) H x y/\Q (.bl _h) H):=by
 intro N s σ H x y v u Q I L E h;obtain⟨a,b,rfl,rfl,h,k⟩:=h;rcases h with⟨_,J⟩ | ⟨P,O,A,B,G,D,o,p⟩
 .cases J
 cases G
 cases D
 cases L
 cases E;have R:=p.length;rcases o with⟨q,m⟩ | ⟨q,m⟩
 .obtain⟨f,l,r,_⟩:=I.list (show Cp X.K H a A from .inl<|.inl q);obtain⟨i,g,t,_⟩:=I.list (show Cp X.K H b B from .inl<|.inl m);have F:=l.length;have C:=g.length;refine Kt (e:=λ_=>_h) r.isList t.isList (by simp;lia) (by lia) (λj z w=>by
   have d:j<f.length:=by simpa using z
   have c:j<i.length:=by simpa using w
   simp only[Æ];exact M_ I n X.A.in1 _ _ _ _ (by show X.A.units+1+n<cLine;lia) (FZ p j<|by lia) (Gd l d)<|Gd g c) ⟨.bl _h,H,I,?_,k⟩
  have e:((_B f.toArray.size).all λ_=>_h)=true:=eM.mpr λ_ _=>rfl;rw[e];exact rfl
 .obtain⟨f,l,r,_⟩:=I.tuple (show Fd X.K H a A from .inl<|.inl q);obtain⟨i,g,t,_⟩:=I.tuple (show Fd X.K H b B from .inl<|.inl m);have F:=l.length;have C:=g.length;refine G2 (e:=λ_=>_h) r t (by lia) (λj z w=>by
   have d:j<f.length:=by simpa using z
   have c:j<i.length:=by simpa using w
   simp only[Æ];exact M_ I n X.A.in1 _ _ _ _ (by show X.A.units+1+n<cLine;lia) (FZ p j<|by lia) (Gd l d)<|Gd g c) ⟨.bl _h,H,I,?_,k⟩
  have e:((_B<|min f.toArray.size i.toArray.size).all λ_=>_h)=true:=eM.mpr λ_ _=>rfl;have K:(f.toArray.size == i.toArray.size)=true:=_H.mpr<|by simp;lia
  rw[e,K];exact rfl
open PySem PySem.Spec PySem.Calls PyProof.Rows
abbrev XR:=_j->_t _g->St->Hp->Prop
inductive XT(X:Cx)(b9:_b<|_g×ü)(ER:XR)(e:_j)(s':_C):Prop
|mk(σ H1 s1:_)(_:Inv X b9 σ H1 s1)(_:Rb X.prog X.w X.stack H1 s1 (λC od H2=>ER C od σ H2) e s')
def PST(X:Cx)(ER:XR)(st:ĭ)(t:TS):Prop :=
 ∀(b9:_b<|_g × ü)(s:_C)(σ:St)(H:Hp)(D:Ends),Inv X b9 σ H s->t D σ H->wpAny (_z X.prog X.w) X.A (exec st X.env) (SP X b9 D) (XT X b9 ER) s
def wk(X:Cx)(ER:XR)(st:_b ĭ)(t:TS):Prop :=
 ∀(b9:_b<|_g × ü)(s:_C)(σ:St)(H:Hp)(D:Ends),Inv X b9 σ H s->t D σ H->wpAny (_z X.prog X.w) X.A (execs st X.env) (SP X b9 D) (XT X b9 ER) s
def PET(X:Cx)(ER:XR)(e:Expr)(t:TE):Prop :=
 ∀(b9:_b<|_g × ü)(s:_C)(σ:St)(H:Hp)(Q:VK),Inv X b9 σ H s->t σ H Q->wpAny (_z X.prog X.w) X.A (eval e X.env) (EP X b9 σ Q) (XT X b9 ER) s
section
variable{ER:XR}{sts:_b ĭ}{t u:TS}
theorem Zh(a:PST X ER st t):wk X ER [st] t:=by
 intro b s σ H D I h;refine r4<|CP (a b s σ H D I h) λf c q=>?_
 cases f with
 |next=>exact ĉ q
 |brk=>exact q
 |cont=>exact q
 |ret u=>exact q
theorem fj{e:Expr}{a:ĵ}(b:X.N.Nodup)(hi:X.N[i]? = _a x)(g:Loc X.env.scope x)(d:PET X ER e te)(o:swapsWith e (_a<|.Name x a) pos.line X.env=pure false:=by rfl)
  (j:X.fn x=_h \/ X.env.scope.names.lookup x=_a .local:=by first | exact .inl rfl | exact .inr rfl | assumption):PST X ER (.Assign [.Name x a] e pos)<|Xr te<|Ci i:=by
 intro l s σ H D I h;refine VS (CP (d l s σ H _ I h) λv p ⟨y,m,k,c,n⟩=>?_) o;exact NP k b hi g c (λq f=>⟨_,m,f,n⟩) j
end
section
variable{ER:XR}{k:_d}{ps:_b _A}{qa:_b V}{ds:_b _j}{m:_A}{p:ĵ}{e o:Expr}{t:TA}
theorem iH{Q:VK}(F:Gu X.prog X.w X.K X.mg X.base (Rb X.prog X.w) k f fd ps sp)(d:Df k X.A)(c:Binds X.K fd ps ds)(g:Vals qa ds)
  (I:Inv X b9 σ H s)(r:Vals vs us)(h:sp (vs++qa) H Q<|λC od H2=>ER C od σ H2):wpAny (_z X.prog X.w) X.A (call (.ref f) us) (EP X b9 σ Q) (XT X b9 ER) s:=by
 have b:Vals (vs++qa)<|us++ds:=r.append g
 have i:(us++ds).length=ps.length:=by rw[<-b.length];exact F.len _ _ _ _ h
 refine ı<|é (F.run X.A X.stack s H ⟨us,[]⟩ (us++ds) (vs++qa) Q _ d I.env0 (c s us I.JX i) b h) λr j a=>?_
 cases r with
 |error e=>exact⟨σ,H,s,I,a⟩
 |ok fl =>
  cases fl with
  |ret u=>exact I.after a
  |next=>exact Ν a
  |brk=>exact Ν a
  |cont=>exact Ν a
end
inductive wV(K:_s)(O:_g)(i:_d)(ts:TS)(D:Ends)(C:_j)(od:_t _g)(σ:St)(H2:Hp):Prop
|mk(Ca:_)(_:C=.ref Ca)(_:ĳ K Ca (.ref O)=_a _h)(_:∀x,H2 x=_n->ts (D.drop i) (σ.set i (_a (.ref x))) (upd H2 x (Lh x Ca od)))
abbrev uV(K:_s)(tb:XR->TS)(O:_g)(i:_d)(ts:TS):TS:=λD σ H=>tb (wV K O i ts D) D σ H
section
variable{O:_g}{cn n:_A}{np hpos:ĵ}{body:_b ĭ}{b0:ĭ}{BH:_b ĭ}{ts:TS}{tb:XR->TS}
theorem gV(hb:∀ER,wk X ER body<|tb ER)(aa:Gl X cn)(S:X.mg cn=_a (.ref O))(qO:ł X.K O jK "ValueError.__new__" = _h)(F:X.N.Nodup)(hi:X.N[i]? = _a n)(m:X.env.scope.names.lookup n=_a .local)
  (hs:∀x,Ra (X.inX x) (b0::BH) ts) (Y:X.xe=λ_ _=>False:=by rfl) (K:X.stack=X.env::X.outer:=by rfl) (Qb:X.env.frame=_a X.env.locals:=by rfl) (YO:(cn == ("__debug__" : _A))=false:=by decide) :
  PS X (.Try body [.ExceptHandler (_a<|.Name cn np) (_a n) (b0::BH) hpos] [] [] pos) (uV X.K tb O i ts):=by
 intro E s₀ σ₀ H₀ D I₀ h₀;refine wpAny_Try_except<|ν (hb _ E s₀ σ₀ H₀ D I₀ h₀) (λfl s' q=>?_) λG s' q=>?_
 .cases fl with
  |next=>exact ĉ q
  |brk=>exact q
  |cont=>exact q
  |ret u=>exact q
 .obtain⟨σ,H1,f,h,x,T,C,V,k,rfl,os,d,y,L,nT,a,wa,vc,Z,Ca,eC,FK,LJ⟩:=q
  cases eC;obtain⟨I,g,c,tk,AQ⟩:=s';obtain rfl:AQ=f.os:=os;have I2:Inv X E σ k ⟨I,g,c,tk,f.os⟩:=h.call (h':=I) (g':=g) (d':=c) (t':=tk) (ch:=[]) Z vc d<|λb z=>_D z<|by simp
  have r:=h.ok.frames;have A:=I2.stack;rw[K] at r A;refine V8 (s:=⟨I,g,c,tk,f.os⟩) r A Qb y λP T3 y3 m3 n3=>?_;refine GZ (s:=⟨P,g,c,tk,f.os⟩) y3 λB y4 m4=>?_;have w:f.heap.get? T3=none:=by
   cases z:f.heap.get? T3 with
   |none=>rfl
   |some o =>
    obtain⟨o',G⟩:=Z.there T3 o z<|by simp
    have R:I.get? T3=none:=n3;rw[R] at G;cases G
  have t:k T3=none:=vc.none_of n3;have H:Mv (frs X.stack) x T I P:=by rw[K];exact m3
  have u3:=Z.mv H L nT<|λb z z'=>_D z z'
  have u4:=u3.mv m4 L w (λ_ z=>nomatch z);have k3:Fe X.prog X.w k P:=vc.mv H a wa I2.Ko;have k4:Fe X.prog X.w k B:=k3.mv m4 a t (λ_ z=>nomatch z);have I4:Inv X E σ k ⟨B,g,c,tk,f.os⟩:=h.call (h':=B) (g':=g) (d':=c) (t':=tk) (ch:=[]) u4 k4 d<|λb z=>_D z<|by simp
  refine wpAny_handleBy_cons (codeAny_handlers_test<|JK (I4.inX x) aa S ?_ YO)<|by intro q;cases q
  obtain⟨ws,wt,sl,oT,ex,_⟩:=id y4;refine T4 (s:=⟨B,g,c,tk,f.os⟩) I4.JX ex qO FK ?_;refine codeAny_handlers_suite_as<|GZ (s:=⟨B,g,c,tk,f.os⟩) y4 λM y5 m5=>?_
  have u5:=(u4.mv m5 L w (λ_ z=>nomatch z)).adopt (o:=Lh x C V) L a;obtain⟨ap,an,ab,ac,N,_⟩:=id y5;have k5:Fe X.prog X.w (upd k x<|Lh x C V) M:=(k4.mv m5 a t (λ_ z=>nomatch z)).uh (λ_ _ e=>e) a<|dw N U
  have I5:Inv X E σ (upd k x<|Lh x C V) ⟨M,g,c,tk,f.os⟩:=h.call (h':=M) (g':=g) (d':=c) (t':=tk) (ch:=[]) u5 k5 d<|λb z=>_D z<|by simp
  refine Lg (s:=⟨M,g,c,tk,f.os⟩) I5 F hi (.inl m) (show RelV (.ref x) (.ref x) from rfl) (λs6 I6 _=>?_)<|.inr m
  refine ν (hs x E s6 _ _ _ (I6.inX x)<|LJ x a) (λfl s7 p=>?_) λG s7 p=>?_
  .cases fl with
   |next=>obtain⟨σ',Q,J,j⟩:=p;exact name_goes (J.gj h.ok) F hi m λs8 l=>⟨_,_,l,j⟩
   |brk=>obtain⟨σ',Q,J,j⟩:=p;exact name_goes (J.gj h.ok) F hi m λs8 l=>⟨_,_,l,j⟩
   |cont=>obtain⟨σ',Q,J,j⟩:=p;exact name_goes (J.gj h.ok) F hi m λs8 l=>⟨_,_,l,j⟩
   |ret u=>obtain⟨v,σ',Q,J,rv,j⟩:=p;exact name_goes (J.gj h.ok) F hi m λs8 l=>⟨_,_,_,l,rv,j⟩
  .have Ta:X.xe G s7:=p;rw[Y] at Ta;exact Ta.elim
end
theorem GJ{K:_s}(a:X.K=K):Eo X (.builtin "isinstance") (λxs H Q=>∃x C fs c cv b,xs=[V.ref x,c]/\S8 H x C fs/\Qq K C/\rK c=_a cv/\Ú K (.ref C) cv=_a b/\Q (.bl b) H):=by
 rw[<-a];exact Vp
end L2
namespace Og
open PySem L2
structure PlA where
 p:_g
 r:_g
 b:_g
 k:_g
 n:_g
 d:_g
 s:_g
inductive Dt where
 | stop(b:_d)(L:_g)
 | coup(a b:_d)(s:_i)
 | mute(b:_d)
def Dt.L:Dt->_b _g
 |.stop _ L=>[L]
 |_=>[]
structure Pl where
 rows:_b R
 bs:_b<|_A×_d
 rk:_b<|_A×_d×_i
 ks:_b R
 ls:_b<|_b Ln
 ds:_b Dt
 ch:_b<|_b _d
def Tx(t:_A):Prop:=t.length<=1000/\∀c∈t.cps.toList,c<128
def cU(K:_s)(C:_g):Bool:=(Ù K (.ref C) "__getattribute__" == _a (_a<|.builtin "BaseException.__getattribute__")) && (Ù K (.ref C) "__getattr__" == _a _n) &&
 (ĳ K C (.type "BaseException") == _a _h) && Œ K C && (Ù K (.ref C) "__class__" == _a (_a<|.builtin "object.__class__")) &&
 (EA K (.builtin "object.__class__") "__get__" == _a (_a<|.builtin "getset_descriptor.__get__")) && (P4 K (.builtin "object.__class__") == _a _h) && (ĳ K C (.type "object") == _a _h) && Ć K (.ref C)
theorem UL{K:_s}(h:cU K C=_h):Qq K C/\Ć K (.ref C)=true:=by
 simp only[cU,Ω,_H] at h;obtain⟨⟨⟨⟨⟨⟨⟨⟨d,j⟩,a⟩,b⟩,g⟩,e⟩,i⟩,c⟩,f⟩:=h;exact⟨⟨d,j,a,b,g,e,i,c⟩,f⟩
def j9(K:_s)(C cO:_g)(ds:_b _g):Bool :=
 cU K C && (Ú K (.ref C) (.ref C) == _a _h) && (Ú K (.ref C) (.type "ValueError") == _a _h) && (W.kitAny K (.ref C) (ds.map _Q) == _a _r) && (ds.all λD=>Ú K (.ref C) (.ref D) == _a _r) &&
 ł K C jK "ValueError.__new__" && (ĳ K C (.ref cO) == _a _h)
structure Rc(K:_s)(C cO:_g)(ds:_b _g):Prop where
 xc:Qq K C
 kp:Ć K (.ref C)=_h
 k0:Ú K (.ref C) (.ref C)=_a _h
 kv:Ú K (.ref C) (.type "ValueError")=_a _h
 ka:W.kitAny K (.ref C) (ds.map _Q)=_a _r
 kf:∀D∈ds,Ú K (.ref C) (.ref D)=_a _r
 ex:ł K C jK "ValueError.__new__" = _h
 mro:ĳ K C (.ref cO)=_a _h
theorem Rc.of{K:_s}{c:_g}{b:_b _g}(h:j9 K C c b=_h):Rc K C c b:=by
 unfold j9 at h;simp only[Ω,_H,List.all_eq_true] at h;obtain⟨⟨⟨⟨⟨⟨a,g⟩,i⟩,d⟩,f⟩,j⟩,e⟩:=h;exact⟨(UL a).1,(UL a).2,g,i,d,f,j,e⟩
end Og
namespace L2
open PySem PySem.Spec PySem.Calls PyProof.Rows
noncomputable def del(H:Hp)(x:_g):Hp:=λb=>if b=x then _n else H b
end L2
namespace PySem
open Sem (wp)
def digC(c:_d):Prop:=48<=c/\c<=57
def zE(l:_b _d):Nat:=l.foldl (λa d=>a * 10+(d - 48)) 0
end PySem
namespace Nm
open PySem (zE digC)
noncomputable def dgs(m:_d):_b Nat:=if h:m=0 then [] else dgs (m / 10)++[48+m % 10]
termination_by m
decreasing_by lia
noncomputable def mag(m:_d):_b Nat:=if m=0 then [48] else dgs m
noncomputable def wr(n:_i):_b Nat:=(if n<0 then [45] else [])++mag n.natAbs
end Nm
namespace L2
open PySem PySem.Spec PySem.Calls PyProof.Rows
section
variable{ER:XR}{k:_d}{ps:_b _A}{qa:_b V}{ds:_b _j}{p:ĵ}{e:Expr}{t:TA}
abbrev pU(sp:Sp)(qa:_b V)(ER:XR)(t:TA):TE:=λσ H Q=>Yv sp qa (λC od H2=>ER C od σ H2) t σ H Q
theorem aA(F:Gu X.prog X.w X.K X.mg X.base (Rb X.prog X.w) k f fd ps sp)(l:Df k X.A)(j:Gl X x)(d:X.mg x=_a (.ref f))(v:Ć X.K (.ref f)=_h)(i:Binds X.K fd ps ds)(n:Vals qa ds)
  (o:PA X (e::es) t) (b:X.xe=λ_ _=>Χ) (m:(x == ("__debug__" : _A))=false:=by decide) (g:starEach (e::es) X.env=(_r,eval e X.env)::starEach es X.env:=by rfl) (a:(backTo pos<|starEach es X.env).any (·.1)=false:=by rfl) :
  PET X ER (.Call (.Name x p) (e::es) [] pos) (pU sp qa ER t):=by
 intro u s σ H Q I h;refine ê<|JK I j d ?_ m
 refine Ű (h₀:=X.base) I.ok.mod.kin v (ν (o pos u s σ H _ I h) (λw y ⟨B,C,c,r,q⟩=>⟨c.JX,?_⟩) λe A z=>?_) g a
 .exact iH F l i n c r q
 .rw[b] at z;exact z.elim
end
open PySem PySem.Spec PyProof.Rows
inductive wB(K:_s)(n:_d)(t:jB)(v:V)(σ:St)(H:Hp)(Q:St->Hp->Prop):Prop
|mk(a xs:_)(_:v=.ref a)(_:Cp K H a xs)(_:xs.length=n)(_:t xs σ H Q)
theorem nP {k} {t:jB} (q:X.calm=_h) (h:wX X es t)
  (m:(assignEach es X.env).length=n:=by rfl)(f:(assignEach es X.env).findIdx? (·.1)=none:=by rfl):PG X (.Tuple es k pos)<|wB X.K n t:=by
 intro j s σ H v u Q I r g;obtain⟨a,B,z,l,x,g⟩:=g;subst z
 cases r;obtain⟨d,i,p,C⟩:=I.list l;rw[assign_Tuple];refine _c<|Bn ?_
 unfold unpack;have c:(assignEach es X.env).length=d.toArray.size:=by simp[m,<-x,i.length]
 rw[c,f];refine _c<|π<|W.kun_itemsOf (I.ok.hd q) p.isList λA w=>?_
 have y:Inv X j σ H { s with heap:=A }:=I.kept (t':=s.toks) λb o e=>w b o (cf<|_q e) e;exact h j _ σ H B _ Q y (by simpa using i) g
end L2
section PartK61a
set_option maxHeartbeats 4000000
namespace K61
open PySem L2 Og Bw Ro
noncomputable abbrev ef:_b Str:=["organ","knobs","held"]
abbrev el:_b Str:=["_law_script","_law_world_here","_law_organ","_law_length","_law_spans_here","_law_by_here","_law_roll","_law_kept","_law_sounds","_law_tick","_law_sound","_law_found"]
noncomputable abbrev eo:_b Str:=["_law_sounds","_law_by_here","_law_holes","_law_since","_law_tick","_law_sound","_law_pipe","_law_in_order_of"]
noncomputable abbrev eu:_b Str:=["_law_cell","_law_sizes_here","_law_pipes","_law_knobs_here","_law_rows_here","_law_k","_law_name_here","_law_board","_law_rank","_law_shift","_law_low","_law_high"]
noncomputable abbrev ew:_b Str:=["_law_length","_law_spans_here","_law_by_here"]
noncomputable abbrev eH:_b Str:=["self","knob"]
noncomputable abbrev eP:_b Str:=["_law_cells","_law_sizes_here","_law_pipes","_law_knobs_here","_law_cell","_law_knob_here","_law_most"]
noncomputable abbrev e7:_b Str:=["_law_sounds","_law_by_here","_law_holes","_law_since","_law_tick","_law_sound","","_law_in_order_of"]
abbrev fi:_b Str:=["_law_found","_law_length","_law_holes"]
noncomputable abbrev fv:_b Str:=["thing"]
noncomputable abbrev fx:_b Str:=["organ","knobs","keys"]
noncomputable abbrev fy:_b Str:=["_law_cell","_law_sizes_here","_law_pipes","_law_knobs_here"]
noncomputable abbrev fZ:_b Str:=["_law_cell","_law_many","_law_most"]
noncomputable abbrev f5:_b Str:=["_law_script","_law_first","_law_second","_law_sizes_here","_law_pipes","_law_knobs_here"]
noncomputable abbrev f7:_b Str:=["length","spans"]
abbrev gb:_b Str:=["_law_cell","_law_k","_law_letters","_law_size","_law_name_here","_law_at","_law_two"]
abbrev gm:_b Str:=["self"]
noncomputable abbrev gK:_b Str:=["_law_script"]
abbrev g8:_b Str:=["self","rows"]
noncomputable abbrev hB:_b Str:=["thing","length"]
noncomputable abbrev hE:_b Str:=["_law_cells","_law_sizes_here","_law_pipes"]
noncomputable abbrev hH:_b Str:=["_law_cell","_law_k"]
noncomputable abbrev hJ:_b Str:=["_law_cell","_law_sizes_here","_law_pipes"]
noncomputable abbrev hQ:_b Str:=["number","board","ahead"]
noncomputable abbrev ie:_b Str:=["tracks","first","count"]
noncomputable abbrev i5:_b Str:=["_law_cell","_law_tracks","_law_length"]
noncomputable abbrev jj:_b Str:=["_law_script","_law_world_here","_law_length","_law_tracks"]
noncomputable abbrev jl:_b Str:=["thing","part","ahead"]
noncomputable abbrev j0:_b Str:=["text","signs","most"]
abbrev j3:_b Str:=["rows","word","thing"]
noncomputable abbrev km:_b Str:=["_law_cell","_law_size","_law_pipes"]
noncomputable abbrev kq:_b Str:=["organ","roll"]
noncomputable abbrev kw:_b Str:=["spans"]
noncomputable abbrev kA:_b Str:=["row","ahead"]
noncomputable abbrev kB:_b Str:=["_law_organ","_law_roll"]
noncomputable abbrev kC:_b Str:=["self","board","number"]
noncomputable abbrev k6:_b Str:=["_law_script","_law_world_here"]
noncomputable abbrev lD:_b Str:=["_law_script","_law_k"]
noncomputable abbrev l7:_b Str:=["self","rank","number"]
abbrev mj:_b Str:=["organ","knobs","word","words"]
noncomputable abbrev mu:_b Str:=["_law_sounds","_law_by_here"]
noncomputable abbrev na:_b Str:=["organ","knobs"]
noncomputable abbrev nu:_b Str:=["things"]
abbrev nI:_b Str:=["organ","knob","keys","stop","numbers"]
abbrev nK:_b Str:=["organ","line","numbers"]
noncomputable abbrev nL:_b Str:=["rows","word"]
noncomputable abbrev n0:_b Str:=["roll","tick"]
noncomputable abbrev oy:_b Str:=["thing","bounds"]
noncomputable abbrev oB:_b Str:=["some","steps","count"]
noncomputable abbrev oD:_b Str:=["organ","knobs","word"]
noncomputable abbrev oS:_b Str:=["organ","board","keys"]
noncomputable abbrev o0:_b Str:=["rows","rank_numbers"]
abbrev o3:_b Str:=["organ","roll","tick"]
noncomputable abbrev pi:_b Str:=["organ","knob","keys"]
abbrev pu:_b Str:=["thing","ahead"]
noncomputable abbrev py:_b Str:=["some","number"]
abbrev pV:_b Str:=["length","runs"]
abbrev p4:_b Str:=["organ","knob","key"]
abbrev qq:_b Str:=["word","ahead"]
abbrev qx:_b Str:=["organ","held"]
abbrev qy:_b Str:=["roll"]
abbrev q3:_b Str:=["self","key"]

noncomputable def top(i:_d):Stmt:=PySem.Challenge.pw_windchest_k61_barrels_by_sounds.main.body.getD i<|.Pass ⟨0,0,0,0⟩
abbrev sWh:Stmt:=top 10
abbrev yp:Stmt:=top 11
abbrev sNm:Stmt:=top 12
abbrev sRo:Stmt:=top 64
abbrev sTo:Stmt:=top 65
abbrev sWi:Stmt:=top 66
abbrev sPa:Stmt:=top 67
abbrev sHp:Stmt:=top 68
abbrev sCl:Stmt:=top 69
abbrev sIk:Stmt:=top 70
abbrev sSb:Stmt:=top 71
abbrev sWm:Stmt:=top 73
abbrev sHr:Stmt:=top 74
abbrev sIr:Stmt:=top 75
abbrev sCk:Stmt:=top 76
abbrev sNu:Stmt:=top 79
abbrev z7:Stmt:=top 80
abbrev y_:Stmt:=top 81
abbrev sLi:Stmt:=top 82
abbrev sMy:Stmt:=top 15
abbrev zP:Stmt:=top 16
abbrev sHa:Stmt:=top 17
abbrev zK:Stmt:=top 18
abbrev sSh:Stmt:=top 19
abbrev sUn:Stmt:=top 20
abbrev sLe:Stmt:=top 22
abbrev yj:Stmt:=top 23
abbrev sHk:Stmt:=top 24
abbrev sWa:Stmt:=top 25
abbrev sCq:Stmt:=top 26
abbrev sIl:Stmt:=top 39
abbrev sHw:Stmt:=top 40
abbrev sAh:Stmt:=top 41
abbrev sHo:Stmt:=top 42
abbrev sFh:Stmt:=top 44
abbrev sRf:Stmt:=top 45
abbrev sR1:Stmt:=top 47
abbrev zb:Stmt:=top 48
abbrev sTk:Stmt:=top 49
abbrev sCh:Stmt:=top 50
abbrev zZ:Stmt:=top 51
abbrev sIq:Stmt:=top 43
abbrev sRr:Stmt:=top 46
abbrev sNf:Stmt:=top 53
abbrev sSa:Stmt:=top 54
abbrev sBf:Stmt:=top 56
abbrev sMu:Stmt:=top 28
abbrev sUk:Stmt:=top 29
abbrev sSk:Stmt:=top 30
abbrev sNb:Stmt:=top 31
abbrev sLl:Stmt:=top 32
abbrev sBs:Stmt:=top 33
abbrev sBa:Stmt:=top 34
abbrev sSo:Stmt:=top 35
abbrev sCe:Stmt:=top 86
abbrev sMx:Stmt:=top 88
abbrev sNa:Stmt:=top 90
abbrev zJ:Stmt:=top 91
abbrev sLn:Stmt:=top 92
abbrev sKn:Stmt:=top 93
abbrev zj:Stmt:=top 94
abbrev sRw:Stmt:=top 95
abbrev sWd:Stmt:=top 99
abbrev sSn:Stmt:=top 100
abbrev zR:Stmt:=top 101
abbrev sMa:Stmt:=top 102
abbrev sBy:Stmt:=top 103
abbrev yS:Stmt:=top 104
abbrev sLb:Stmt:=top 105
abbrev sIb:Stmt:=top 106
abbrev jM:Stmt:=inClass (top 84) 0
abbrev sOb:Stmt:=inClass (top 84) 2
abbrev sOc:Stmt:=inClass (top 84) 5
abbrev sOk:Stmt:=inClass (top 84) 7
abbrev sOo:Stmt:=inClass (top 84) 8
abbrev sBk:Stmt:=inClass (top 84) 13
abbrev sOp:Stmt:=inClass (top 84) 15
abbrev sOr:Stmt:=inClass (top 84) 3
abbrev sOq:Stmt:=inClass (top 84) 6
abbrev sOe:Stmt:=inClass (top 84) 9
abbrev sOs:Stmt:=inClass (top 84) 14
abbrev sOm:Stmt:=inClass (top 84) 16
abbrev sOz:Stmt:=inClass (top 84) 4
abbrev gk:Stmt:=top 107
structure Txt(K:_s)(P:ň)(mg:_A->_t _j)(C cR aN aK aB aP aM:_g):Prop where
 len:mg "len" = _n
 isin:mg "isinstance" = _n
 int:mg "int" = _n
 bool:mg "bool" = _n
 str:mg "str" = _n
 list:mg "list" = _n
 tuple:mg "tuple" = _n
 all:mg "all" = _n
 any:mg "any" = _n
 sum:mg "sum" = _n
 range:mg "range" = _n
 zip:mg "zip" = _n
 enumerate:mg "enumerate" = _n
 max:mg "max" = _n
 reversed:mg "reversed" = _n
 set:mg "set" = _n
 min:mg "min" = _n
 sorted:mg "sorted" = _n
 letters:∃t,mg "LETTERS" = _a (.str letters t)
 mostL:∃t,mg "MOST_LETTERS" = _a (.int 8 t)
 mostR:∃t,mg "MOST_ROWS" = _a (.int 150 t)
 mostLn:∃t,mg "MOST_LINES" = _a (.int 4 t)
 cMOST_TICKS:∃t,mg "MOST_TICKS" = _a (.int 1000000000000 t)
 cMOST_HOLES:∃t,mg "MOST_HOLES" = _a (.int 400 t)
 below:∃t,mg "MEMBERS_BELOW" = _a (.int 1200 t)
 mN:mg "NAMED" = _a (.ref aN)
 mK:mg "KNOBS" = _a (.ref aK)
 mB:mg "BOUNDS" = _a (.ref aB)
 mP:mg "PARTS" = _a (.ref aP)
 mM:mg "MOST_OF" = _a (.ref aM)
 tN:KTup K aN<|named.map V.str
 tK:KTup K aK [.str "stop",.str "coupler",.str "mute"]
 dB:KDict K P aB
 dP:KDict K P aP
 dM:KDict K P aM
 cl:V9 K C
 mC:mg "Organ" = _a (.ref C)
 mR:mg "NoRoll" = _a (.ref cR)
 exR:ł K cR jK "ValueError.__new__" = _h
 mRR:ĳ K cR (.ref cR)=_a _h
 n_row_list:Dy K C "row_list"
 n_board_list:Dy K C "board_list"
 n_rank_list:Dy K C "rank_list"
 n_knob_rows:Dy K C "knob_rows"
 n_board_numbers:Dy K C "board_numbers"
 n_rank_numbers:Dy K C "rank_numbers"
 n_knob_numbers:Dy K C "knob_numbers"
 n_key_places:Dy K C "key_places"
 n_pipe_places:Dy K C "pipe_places"
 n_knob_lines:Dy K C "knob_lines"
 n_step_sets:Dy K C "step_sets"
set_option genInjectivity false in
set_option genSizeOf false in
set_option genSizeOfSpec false in
structure FA where
 f:_g
 d:ė
set_option genInjectivity false in
set_option genSizeOf false in
set_option genSizeOfSpec false in
structure Ad where
 (Wh Md Nm Ro To Wi Pa Hp Cl Ik Sb Wm Hr Ir Ck Nu Ca Pl Li My St Ha Me Sh Un Le Dc Hk Wa Cq Il Hw Ah Ho Fh Rf R1 Oa Tk Ch Ct Iq Rr Nf Sa Bf Mu Uk Sk Nb Ll Bs Ba So Ce Mx Na Sz Ln Kn Ks Rw Wd Sn Sq Ma By Ru Lb Ib Oi Ob Oc Ok Oo Bk Op Or Oq Oe Os Om Oz:FA)
abbrev yW(K:_s)(x q:_A)(st:ĭ)(a:FA)(ps:_b _A)(R:Prop):Prop:=Yb K x q st a.f a.d/\Binds K a.d ps []/\R
abbrev Ea(K:_s)(mg:_A->_t _j)(x:_A)(st:ĭ)(a:FA)(ps:_b _A):Prop:=yW K x x st a ps<|mg x=_a (.ref a.f)
abbrev V_(K:_s)(C:_g)(x q:_A)(st:ĭ)(a:FA)(ps:_b _A):Prop:=yW K x q st a ps<|Meth K C x a.f
abbrev BX(P:Ð)(w:_O)(K:_s)(mg:_A->_t _j)(base:Θ)(CX:YM)(k:_d)(a:FA)(ps:_b _A)(sp:Sp):Prop:=Gu P w K mg base CX k a.f a.d ps sp
abbrev d0(K:PySem.W.Frag)(mg:_A->_t _j)(x q:_A)(st:ĭ)(f:_g)(d:ė)(p:_b _A):Prop:=Yb K x q st f d∧Binds K d p []∧mg x=_a (.ref f)
abbrev d7(K:PySem.W.Frag)(C:_g)(x q:_A)(st:ĭ)(f:_g)(d:ė)(p:_b _A):Prop:=Yb K x q st f d∧Binds K d p []∧Meth K C x f
structure Vb(K:_s)(mg:_A->_t _j)(C c1:_g)(aD:Ad):Prop where
 FWh:Ea K mg "is_whole" sWh aD.Wh fv
 FMd:Ea K mg "is_made_of" yp aD.Md j0
 FNm:Ea K mg "is_name" sNm aD.Nm fv
 FRo:Ea K mg "rows_of" sRo aD.Ro nL
 FTo:Ea K mg "is_told" sTo aD.To j3
 FWi:Ea K mg "is_within" sWi aD.Wi oy
 FPa:Ea K mg "is_part" sPa aD.Pa jl
 FHp:Ea K mg "has_parts" sHp aD.Hp kA
 FCl:Ea K mg "count_of_last_lines" sCl aD.Cl ["rows"]
 FIk:Ea K mg "is_key_of" sIk aD.Ik hQ
 FSb:Ea K mg "stands_behind_stop" sSb aD.Sb ["line","ahead"]
 FWm:Ea K mg "is_well_made" sWm aD.Wm kA
 FHr:Ea K mg "has_room" sHr aD.Hr qq
 FIr:Ea K mg "is_row" sIr aD.Ir pu
 FCk:Ea K mg "check_rows" sCk aD.Ck ["rows"]
 FNu:Ea K mg "numbers_of" sNu aD.Nu ["names"]
 FCa:Ea K mg "count_in_all" z7 aD.Ca nu
 FPl:Ea K mg "places_of" y_ aD.Pl nu
 FLi:Ea K mg "lines_by_knob" sLi aD.Li o0
 FMy:Ea K mg "may_be_member" sMy aD.My fv
 FSt:Ea K mg "set_of" zP aD.St ["numbers"]
 FHa:Ea K mg "has_member" sHa aD.Ha py
 FMe:Ea K mg "members_of" zK aD.Me ["some"]
 FSh:Ea K mg "shifted" sSh aD.Sh oB
 FUn:Ea K mg "union_of" sUn aD.Un ["sets"]
 FLe:Ea K mg "led_to" sLe aD.Le p4
 FDc:Ea K mg "drawn_of" yj aD.Dc oD
 FHk:Ea K mg "held_keys" sHk aD.Hk qx
 FWa:Ea K mg "coupled_ways" sWa aD.Wa ef
 FCq:Ea K mg "coupled_keys" sCq aD.Cq ef
 FIl:Ea K mg "is_length" sIl aD.Il fv
 FHw:Ea K mg "is_hole_within" sHw aD.Hw hB
 FAh:Ea K mg "are_holes_within" sAh aD.Ah hB
 FFh:Ea K mg "few_holes_of" sFh aD.Fh kw
 FRf:Ea K mg "roll_from" sRf aD.Rf f7
 FR1:Ea K mg "roll_of" sR1 aD.R1 f7
 FOa:Ea K mg "open_at" zb aD.Oa n0
 FTk:Ea K mg "tracks_by_tick" sTk aD.Tk ["holes","part"]
 FCh:Ea K mg "changes_of" sCh aD.Ch qy
 FCt:Ea K mg "change_ticks" zZ aD.Ct qy
 FIq:Ea K mg "is_roll" sIq aD.Iq fv
 FRr:Ea K mg "roll_of_runs" sRr aD.Rr pV
 FNf:Ea K mg "numbers_from" sNf aD.Nf ie
 FSa:Ea K mg "sound_at" sSa aD.Sa o3
 FBf:Ea K mg "barrel_of" sBf aD.Bf kq
 FMu:Ea K mg "muted_boards" sMu aD.Mu na
 FUk:Ea K mg "unmuted_keys" sUk aD.Uk fx
 FSk:Ea K mg "speaking_keys" sSk aD.Sk ef
 FNb:Ea K mg "numbers_on_board" sNb aD.Nb oS
 FLl:Ea K mg "led_by_line" sLl aD.Ll nK
 FBs:Ea K mg "brought_by_stop" sBs aD.Bs pi
 FBa:Ea K mg "brought_in_all" sBa aD.Ba fx
 FSo:Ea K mg "sounding_pipes" sSo aD.So ef
 FCe:Ea K mg "_law_cell_at" sCe aD.Ce lD
 FMx:Ea K mg "_law_mixed" sMx aD.Mx hH
 FNa:Ea K mg "_law_name" sNa aD.Na hH
 FSz:Ea K mg "_law_sizes" zJ aD.Sz fZ
 FLn:Ea K mg "_law_lines" sLn aD.Ln km
 FKn:Ea K mg "_law_knob" sKn aD.Kn hJ
 FKs:Ea K mg "_law_knobs" zj aD.Ks hE
 FRw:Ea K mg "_law_rows" sRw aD.Rw fy
 FWd:Ea K mg "_law_world" sWd aD.Wd gK
 FSn:Ea K mg "_law_span" sSn aD.Sn i5
 FSq:Ea K mg "_law_spans" zR aD.Sq k6
 FMa:Ea K mg "_law_made" sMa aD.Ma ew
 FBy:Ea K mg "_law_by" sBy aD.By gK
 FRu:Ea K mg "_law_runs" yS aD.Ru mu
 FLb:Ea K mg "_law_barrel" sLb aD.Lb kB
 FIb:Ea K mg "_law_is_barrel" sIb aD.Ib fi
 FOi:yW K "__init__" "Organ.__init__" jM aD.Oi g8 (Mk K C aD.Oi.f)
 FOb:V_ K C "boards" "Organ.boards" sOb aD.Ob gm
 FOc:V_ K C "key_count" "Organ.key_count" sOc aD.Oc gm
 FOk:V_ K C "key" "Organ.key" sOk aD.Ok kC
 FOo:V_ K C "board_of" "Organ.board_of" sOo aD.Oo q3
 FBk:V_ K C "board_of_knob" "Organ.board_of_knob" sBk aD.Bk eH
 FOp:V_ K C "coupler" "Organ.coupler" sOp aD.Op eH
 FOr:V_ K C "ranks" "Organ.ranks" sOr aD.Or gm
 FOq:V_ K C "pipe_count" "Organ.pipe_count" sOq aD.Oq gm
 FOe:V_ K C "pipe" "Organ.pipe" sOe aD.Oe l7
 FOs:V_ K C "stop" "Organ.stop" sOs aD.Os eH
 FOm:V_ K C "mute" "Organ.mute" sOm aD.Om eH
 FOz:V_ K C "knobs" "Organ.knobs" sOz aD.Oz gm
 FHo:d9 K "holes_of" "holes_of" sHo aD.Ho.f aD.Ho.d c1
 mHo:mg "holes_of" = _a (.ref aD.Ho.f)
 bHo:Binds K aD.Ho.d kw []
section
variable{CX:YM}{k:_d}{q m:_A}{a:FA}{ps:_b _A}{E:XK}{p:ĵ}{o e:Expr}{to:TE}{t:TA}
theorem BL(F:Ea X.K X.mg x st a ps)(G:BX X.prog X.w X.K X.mg X.base CX k a ps sp)(i:Df n X.A)(c:PA X (e::es) t)(h:k<=n:=by decide)(g:Fg CX X E:=by first | exact Ni | exact Qx)(f:Gl X x:=by rfl)
  (j:(x == ("__debug__" : _A))=false:=by decide) (d:starEach (e::es) X.env=(_r,eval e X.env)::starEach es X.env:=by rfl) (b:(backTo pos<|starEach es X.env).any (·.1)=false:=by rfl) :
  PE X (.Call (.Name x p) (e::es) [] pos) (Yv sp [] E t):=Kz G (i.mono h) f F.2.2 F.1.kp F.2.1 .nil g c j d b
theorem NB{pl:ww _V}(j:PE X o to)(c:V9 X.K C)(F:V_ X.K C m q st a ps)(G:BX X.prog X.w X.K X.mg X.base CX k a ps sp)(p:Df n X.A)(g:PA X (e::es) t)(h:k<=n:=by decide)(l:Fg CX X E:=by first | exact Ni | exact Qx)
  (d:starEach (e::es) X.env=(_r,eval e X.env)::starEach es X.env:=by rfl)(b:(backTo pos<|starEach es X.env).any (·.1)=false:=by rfl)
  (i:eval (.Call (.Attribute o m k8) (e::es) [] pos) X.env=(do
   let ov <-eval o X.env
   standAt k8.atName
   let (f,first) <-holding [ov] (getMethod ov m pl)
   callWith pos f first (backTo pos<|starEach (e::es) X.env) (backToKw pos<|keywordEach [] X.env)):=by rfl) :
  PE X (.Call (.Attribute o m k8) (e::es) [] pos) (W8 C m sp [] E to t):=d_ j c F.2.2 G (p.mono h) F.2.1 .nil l g d b i
theorem J5{pl:ww _V}(d:PE X o to)(c:V9 X.K C)(F:V_ X.K C m q st a ps)(G:BX X.prog X.w X.K X.mg X.base CX k a ps sp)(g:Df n X.A)(h:k<=n:=by decide)(e:Fg CX X E:=by first | exact Ni | exact Qx)
  (b:eval (.Call (.Attribute o m k8) [] [] pos) X.env=(do
   let ov <-eval o X.env
   standAt k8.atName
   let (f,first) <-holding [ov] (getMethod ov m pl)
   callWith pos f first (backTo pos<|starEach [] X.env) (backToKw pos<|keywordEach [] X.env)):=by rfl) :
  PE X (.Call (.Attribute o m k8) [] [] pos) (W8 C m sp [] E to pY):=Y_ d c F.2.2 G (g.mono h) F.2.1 .nil e b
end
section
variable{w:_O}{K:_s}{c1 P1 cR aN aK:_g}{aD:Ad}
variable(N:Vb K mg C c1 aD)(T:Txt K w.params mg C cR aN aK aB aP aM)
inductive Q9(vs:_b V)(H:Hp)(Q:VK)(f6:XK):Prop
|mk(i:_i)(_:vs=[.int i])(_:Q (.bl _h) H)
theorem scWh:Aq fv fv<|Ae sWh:=Bh
include N T in
theorem Tv:BX P w K mg base BW 1 aD.Wh fv Q9:=by
 refine N.FWh.1.Dl scWh λH a Q E b h=>?_;obtain⟨i,rfl,q⟩:=h;refine⟨_,Ag<|Ax<|Dv (A_ Di U T.isin bv<|Aa (pv 0)<|Aa (Ek (v:=.ty "int") U T.int ų U) Ab)<|Du<|ZV<|A_ Di U T.isin bv<|Aa (pv 0)<|Aa (Ek (v:=.ty "bool") U T.bool _aH U) Ab,?_⟩;refine⟨_,"int",_,_,U,.int i,ty_int,?_⟩;exact⟨_,"bool",_,_,U,.int i,yC,q⟩
inductive cV(vs:_b V)(H:Hp)(Q:VK)(f6:XK):Prop
|mk(z:_A)(_:vs=[.str z,.str letters,.int 8])(_:isNm z)(_:∀H',Al H H'->Q (.bl _h) H')
theorem AAH:Aq j0 j0<|Ae yp:=Bh
include N T in
theorem wC:BX P w K mg base BW 1 aD.Md j0 cV:=by
 refine N.FMd.1.Dl AAH λH o Q E m h=>?_;obtain⟨z,rfl,d,q⟩:=h;refine⟨_,Ag<|Ax<|Dv (G3 Er Er Ac (A_ Qt U T.len dv<|Aa (pv 0) Ab)<|pv 2)<|Du<|A_ (Kd U) U T.all iP<|Aa (Bm U (BR (osc:=Ae yp) (N:=j0) U U<|by decide) (mH<|pv 0) (λ_ _ _ _=>CJ)<|λ_ _ _ _=>(Eb XC (pv 0) (pv 2) U)) Ab,?_⟩;have b:z.length<sizeLine:=Aw (by have:=d.2.1;lia);refine⟨z,U,fh b,?_⟩;refine Ed (λj=>?_)<|λj=>_D (_v (by have:=d.1;lia)) j
 refine Ed (λi=>?_)<|λi=>_D (_v (by have:=d.2.1;lia)) i
 refine⟨z,U,Z8 (λ_=>_h) (λc=>.bl<|wu letters c) b (λc f a g R k=>k a<|Al.refl a) (λc f _ a g R k=>⟨_,_,U,U,k a<|Al.refl a⟩)<|λD a n g l=>?_⟩;refine⟨D,z.cps.toList.map<|wu letters,U,.inl<|.inl ?_,?_⟩
 .rw[l,bX.mpr<|λ_ _=>rfl,bi];rfl
 .have e:(z.cps.toList.map<|wu letters).all id=true:=by
   rw[XO,eM];intro c f;have:=d.2.2 c f;show wu letters c=_h;rw[fQ c (by lia)];exact _v this
  rw[e];exact q a g
inductive fW(vs:_b V)(H:Hp)(Q:VK)(f6:XK):Prop
|mk(z:_A)(_:vs=[.str z])(_:isNm z)(_:∀H',Al H H'->Q (.bl _h) H')
theorem zV:Aq fv fv<|Ae sNm:=Bh
include N T in
theorem kE:BX P w K mg base BW 2 aD.Nm fv fW:=by
 refine N.FNm.1.Dl zV λH g Q E f h=>?_;obtain⟨z,rfl,a,q⟩:=h;obtain⟨d,e⟩:=T.letters;obtain⟨c,b⟩:=T.mostL;refine⟨_,Ag<|Ax<|Dv (A_ Di U T.isin bv<|Aa (pv 0)<|Aa (Ek (v:=.ty "str") U T.str Ŵ U) Ab)<|Du<|BL N.FMd (wC N T) f<|Aa (pv 0)<|Aa (CW (v:=.str letters) U e ⟨d,U⟩)<|Aa (CW (v:=.int 8) U b ⟨c,U⟩) Ab,?_⟩;refine⟨_,"str",_,_,U,.str z,k_,?_⟩;exact⟨z,U,a,q⟩
inductive Ol(vs:_b V)(H:Hp)(Q:VK)(f6:XK):Prop
|mk(p:_g)(us:_b V)(w:_A)(ρ:V->R)(_:vs=[.ref p,.str w])(_:H p=_a (.lst us))(_:Rows H ρ us)(_:us.length<=500)(_:∀D H',H D=_n->Al H H'->H' D=_a (.lst (us.filter (pw ρ w)))->Q (.ref D) H')
theorem zL:Aq nL nL<|Ae sRo:=Bh
include N T in
theorem S9:BX P w K mg base BW 1 aD.Ro nL Ol:=by
 refine N.FRo.1.Dl zL λH s Q E o h=>?_;obtain⟨p,d,w,ρ,rfl,l,g,r,q⟩:=h;refine⟨_,Ag<|Ax<|Bm U (BR (osc:=Ae sRo) (N:=nL) U U<|by decide) (BZ<|pv 0) (λ_ _ _ _=>(HF<|Bb Ez (Av (Am (K:=K) U) (pv 0) Ac<|λ_ _=>rfl) (pv 2)<|Bc _))<|λ_ _ _ _=>(pv 0),?_⟩;have f:Cp K H p d:=.inl<|.inl l
 refine⟨⟨_,f⟩,DG (K:=K) (xs:=d) (pw ρ w) id f (Aw<|by lia) (λx e a c R k=>?_) (λx e _ a c R k=>k a<|Al.refl a)<|λD a i c b=>?_⟩
 .obtain⟨n,rfl,m⟩:=(g x e).mono c;exact⟨_,_,oz m,Aj (j:=0) U,U,k a<|Al.refl a⟩
 .rw[on] at b;exact q D a i c b
inductive aV(vs:_b V)(H:Hp)(Q:VK)(f6:XK):Prop
|mk(p:_g)(us:_b V)(w t:_A)(ρ:V->R)(_:vs=[.ref p,.str w,.str t])(_:H p=_a (.lst us))(_:Rows H ρ us)(_:us.length<=500)(_:isNm t)(_:∀H',Al H H'->Q (.bl (kY ρ us w t)) H')
theorem zg:Aq j3 j3<|Ae sTo:=Bh
include N T in
theorem wZ:BX P w K mg base BW 3 aD.To j3 aV:=by
 refine N.FTo.1.Dl zg λH G Q E m h=>?_;obtain⟨p,a,w,t,ρ,rfl,C,f,A,s,q⟩:=h;refine⟨_,Ag<|Ax<|Dv (BL N.FNm (kE N T) m<|Aa (pv 2) Ab)<|Du<|A_ (O5 U) U T.any lc<|Aa (Bm U (BR (osc:=Ae sTo) (N:=j3) U U<|by decide) (BZ<|BL N.FRo (S9 N T) m<|Aa (pv 0)<|Aa (pv 1) Ab) (λ_ _ _ _=>CJ)<|λ_ _ _ _=>(Eb Ez (Av (Am (K:=K) U) (pv 0) Ac<|λ_ _=>rfl) (pv 3)<|Bc _)) Ab,?_⟩;refine⟨t,U,s,λL c=>?_⟩;refine⟨p,a,w,ρ,U,c _ _ C,f.mono c,A,λD z F n d=>?_⟩;have g:Cp K z D<|a.filter<|pw ρ w:=.inl<|.inl d
 refine⟨⟨_,g⟩,DG (K:=K) (xs:=a.filter<|pw ρ w) (λ_=>_h) (λv=>.bl<|pn ρ t v) g (Aw (by have:=Jb (pw ρ w) a;lia)) (λx l b i R k=>k b<|Al.refl b) (λx l _ b i R k=>?_)<|λy o J B r=>?_⟩
 .obtain⟨I,rfl,u⟩:=(((f.mono c).mono n).mono i) x (cy.mp l).1;exact⟨_,_,oz u,Aj (j:=1) U,U,k b<|Al.refl b⟩
 .refine⟨y,(a.filter<|pw ρ w).map<|pn ρ t,U,.inl<|.inl ?_,?_⟩
  .rw[r,bX.mpr<|λ_ _=>rfl,bi];rfl
  .have e:((a.filter<|pw ρ w).map<|pn ρ t).any id=kY ρ a w t:=by
    rw[ow];rfl
   rw[e];exact q o<|(c.trans n).trans B
inductive qC(K:_s)(vs:_b V)(H:Hp)(Q:VK)(f6:XK):Prop
|mk(i lo hi:_i)(b:_g)(_:vs=[.int i,.ref b])(_:KTup K b [.int lo,.int hi])(_:lo<=i)(_:i<=hi)(_:Q (.bl _h) H)
theorem yq:Aq oy oy<|Ae sWi:=Bh
include N T in
theorem wy:BX P w K mg base BW 2 aD.Wi oy<|qC K:=by
 refine N.FWi.1.Dl yq λH g Q E c h=>?_;obtain⟨i,lo,d,b,rfl,a,f,e,q⟩:=h;refine⟨_,Ag<|Ax<|Dv (BL N.FWh (Tv N T) c<|Aa (pv 0) Ab)<|Du<|G3 Er Er (Av (Am (K:=K) U) (pv 1) Ac<|λ_ _=>rfl) (pv 0)<|Av (Am (K:=K) U) (pv 1) Ac<|λ_ _=>rfl,?_⟩;refine⟨i,U,?_⟩;refine⟨_,_,a.sq _,Aj (j:=0) U,?_⟩;refine Ed (λ_=>?_)<|λz=>_D (_v f) z
 refine⟨_,_,a.sq _,Aj (j:=1) U,?_⟩;show Q (.bl (decide (i<=d))) H;rw[_v e];exact q
inductive qW(K:_s)(aB:_g)(vs:_b V)(H:Hp)(Q:VK)(f6:XK):Prop
|mk(x:V)(part:_A)(p:_g)(us:_b V)(ρ:V->R)(_:vs=[x,.str part,.ref p])(_:H p=_a (.lst us))(_:Rows H ρ us)(_:us.length<=500)(_:Je K aB ρ us x part)(_:∀H',Al H H'->Q (.bl _h) H')
theorem yw:Aq jl jl<|Ae sPa:=Bh
include N T in
theorem vU:BX P w K mg base BW 4 aD.Pa jl<|qW K aB:=by
 refine N.FPa.1.Dl yw λH vs Q E l h=>?_;obtain⟨x,part,p,A,ρ,rfl,G,C,F,m,q⟩:=h;refine⟨_,(Af (Cg (bh<|az (pv 1)<|CW (v:=.ref aB) U T.mB U) (Ag<|Ax<|BL N.FWi (wy N T) l<|Aa (pv 0)<|Aa (RN (CW (v:=.ref aB) U T.mB U) (pv 1)<|λ_ _=>rfl) Ab) Be)
  (Af (Cg (Bb Ez (pv 1) CQ<|Bc _) (Ag<|Ax<|Dv (BL N.FNm (kE N T) l<|Aa (pv 0) Ab)<|Du<|ZV<|A_ (O5 U) U T.any lc<|Aa (Bm U (BR (osc:=Ae sPa) (N:=jl) U U<|by decide) (oW<|CW (v:=.ref aN) U T.mN U) (λ_ _ _ _=>CJ)<|λ_ _ _ _=>(BL N.FTo (wZ N T) l<|Aa (pv 3)<|Aa (pv 0)<|Aa (pv 1) Ab)) Ab) Be)
  (Ag<|Ax<|BL N.FTo (wZ N T) l<|Aa (pv 2)<|Aa (pv 1)<|Aa (pv 0) Ab))),?_⟩
 rcases m with⟨i,lo,O,b,rfl,c,J,X,S⟩ | ⟨c,rfl,t,rfl,f,s⟩ | ⟨c,n,t,rfl,f,M⟩
 .refine⟨aB,part,_,U,U,T.dB,c,?_⟩;exact⟨aB,part,.ref b,_,U,U,T.dB,c,U,i,lo,O,b,U,J,X,S,q H<|Al.refl H⟩
 .refine⟨aB,_,_,U,U,T.dB,c,?_⟩;refine⟨U,?_⟩;refine⟨t,U,f,λY o=>Mq ?_⟩;have e:Fd K Y aN<|named.map V.str:=T.tN.sq _
  refine⟨⟨_,e⟩,KY (xs:=named.map V.str) (λ_=>_h) (λ_=>.bl _r) (by show 5<sizeLine;decide) (λi g x a j=>⟨_,x,a.tup e,j⟩) (λi g y Z a _ B=>⟨B.1,B.2 _<|a.tup e⟩) (λg a=>⟨_,a.tup e,Τ _⟩)
   (λx j d a R k=>k d<|Al.refl d) (λx j _ d a R k=>?_) (λD g hD W u=>?_)⟩
  .obtain⟨w0,r,rfl⟩:=ay.mp j;refine⟨p,A,w0,t,ρ,U,a _ _<|o _ _ G,(C.mono o).mono a,F,f,λI L=>?_⟩;rw[s w0 r];exact k I L
  .refine⟨D,[_r,_r,_r,_r,_r],U,oz u,?_⟩;exact q g<|o.trans W
 .refine⟨aB,_,_,U,U,T.dB,c,?_⟩;refine⟨U,?_⟩;refine Ed (λz=>_D (V.str.inj<|_G z) n)<|λ_=>?_
  refine⟨p,A,part,t,ρ,U,G,C,F,f,λd a=>?_⟩;rw[M];exact q d a
inductive m6(K:_s)(aB aP:_g)(vs:_b V)(H:Hp)(Q:VK)(f6:XK):Prop
|mk(r p:_g)(w:_A)(xs:_b V)(us:_b V)(ρ:V->R)(ap:_g)(ps:_b _A)(_:vs=[.ref r,.ref p])(_:H r=_a (.tup (.str w::xs)))(_:H p=_a (.lst us))(_:Rows H ρ us)(_:us.length<=500)(_:Δ K aP w=_a (_a (.ref ap)))(_:KTup K ap (ps.map V.str))(_:xs.length=ps.length)(_:ps.length<=10)(_:∀(i:_d) x y,xs[i]? = _a x->ps[i]? = _a y->Je K aB ρ us x y)(_:∀H',Al H H'->Q (.bl _h) H')
theorem uN:Aq ["row","ahead","parts"] kA (Ae sHp):=Bh
include N T in
theorem wg:BX P w K mg base BW 5 aD.Hp kA<|m6 K aB aP:=by
 refine N.FHp.1.Dl uN λH vs Q E hr h=>?_;obtain⟨r,p,w,xs,I,ρ,m,ps,rfl,t,hp,M,hl,O,f,a,AZ,c,q⟩:=h;refine⟨_,(Af (BP (i:=2) uN.nd U (Or.inl U)<|RN (CW (v:=.ref aP) U T.mP U) (Av (Am (K:=K) U) (pv 0) Ac<|λ_ _=>rfl)<|λ_ _=>rfl)
  (Af (Cg (Bb QH (A_ BV U T.len dv<|Aa (pv 0) Ab) (Ar Bt Ac<|A_ BV U T.len dv<|Aa (pv 2) Ab)<|Bc _) (Ag<|Ax Gr) Be)
  (Ag<|Ax<|A_ (Kd U) U T.all iP<|Aa (WR U (Nt (osc:=Ae sHp) (N:=["row","ahead","parts"]) U U<|by decide) (jC U T.zip<|Aa (G7 qK (pv 0) (Ej Ac) JQ)<|Aa (pv 2) Ab) (λ_ _ _ _=>CJ)<|λ_ _ _ _=>(BL N.FPa (vU N T) hr<|Aa (pv 0)<|Aa (pv 1)<|Aa (pv 3) Ab)) Ab))),?_⟩
 refine⟨_,_,oz t,Aj (j:=0) U,aP,w,.ref m,_,U,U,T.dP,O,U,?_⟩;refine⟨r,_,U,.inr<|.inl<|.inl t,m,_,U,.inr<|f.sq _,U,?_⟩;refine Ed (λz=>?_)<|λ_=>?_
 .exfalso;have e:(((V.str w::xs).length:_d):_i)=1+(((ps.map V.str).length:_d):_i):=by
   rw[zdl,ah,a];lia
  rw[e] at z;simp at z
 .have J:HQ (V.str w::xs) (_a 1) _n=xs:=by
   unfold HQ;have g:HT.Ew (V.str w::xs).length 0 (_a ((1:_d):_i))=1:=by rw[HT.Q4,zdl];lia
   have s:HT.Ew (V.str w::xs).length 0 (_a (1:_i))=1:=g;rw[s,HT.bz,Cf,rd];exact dt<|by rw[zdl];lia
  refine⟨r,_,U,oz t,λz=>?_,λC d=>?_⟩
  .have g:HT.Ew (V.str w::xs).length 0 (_a ((1:_d):_i))=1:=by rw[HT.Q4,zdl];lia
   have:=z.1.symm.trans g
   cases this
  rw[J];obtain⟨Y,i6,n,L⟩:=Jp (o:=HO.tup xs) d;rw[i6];have G:Fd K Y C xs:=.inl<|.inl L
  refine⟨C,m,U,⟨_,G⟩,⟨_,f.sq _⟩,ZC (K:=K) (xs:=xs) (ys:=ps.map V.str) (λ_ _=>.bl _h) G (f.sq _) (by rw[ah];exact a) (Aw<|by lia) (λi x y Z u A b R k=>?_)<|λD A hD b B=>?_⟩
  .rw[ar] at u;obtain⟨part,W,rfl⟩:=aS.mp u;exact⟨x,part,p,I,ρ,U,b _ _<|n _ _ hp,(M.mono n).mono b,hl,c i x part Z W,λS X=>k S X⟩
  .have e:š (λ_ _=>V.bl _h) xs (ps.map V.str)=(Ü xs.length _h).map V.bl:=by
    rw[List.map_replicate];refine gp λi=>?_;rw[yB];by_cases F:i<xs.length
    .rw[af F,af<|by rw[ah];lia,af<|by rw[kP];exact F];simp
    .rw[fe (by lia),fe (l:=Ü _ _)<|by rw[kP];lia]
   rw[e] at B;refine⟨D,Ü xs.length _h,U,oz B,?_⟩;have e2:(Ü xs.length _h).all id=true:=by simp
   rw[e2];exact q A<|n.trans b
inductive oJ(vs:_b V)(H:Hp)(Q:VK)(f6:XK):Prop
|mk(p:_g)(us:_b V)(ρ:V->R)(c:_d)(_:vs=[.ref p])(_:H p=_a (.lst us))(_:Rows H ρ us)(_:us.length<=500)(_:lO ρ us c)(_:Q (.int (c:_d)) H)
theorem jc:Aq ["rows","count","row"] ["rows"] (Ae sCl):=Bh
include N T in
theorem xV:BX P w K mg base BW 1 aD.Cl ["rows"] oJ:=by
 refine N.FCl.1.Dl jc λH G Q E C h=>?_;obtain⟨p,f,ρ,c,rfl,y,u,F,l,q⟩:=h;refine⟨_,(Af (BP (i:=1) jc.nd U (Or.inl U) Ac)
  (Af (DQ _U U (nQ U T.reversed<|Aa (pv 0) Ab) (Bg (i:=2) jc.nd U<|Or.inl U) (Af (Cg (Bb QH (Av (Am (K:=K) U) (pv 2) Ac<|λ_ _=>rfl) CQ<|Bc _) (Ag bT) Be)
  (Ag<|BP (i:=1) jc.nd U (Or.inl U)<|Ar Bt (pv 1) Ac)))
  (Ag<|Ax<|pv 1))),?_⟩
 have o:Cp K H p f:=.inl<|.inl y
 refine⟨p,f,U,o,jA (K:=K) (a:=p) (xs:=f) (λi σ d=>d=H/\i<=c/\∃g,σ=[_a (.ref p),_a<|.int (i:_d),g]) ⟨U,cK _,_,U⟩ (λi σ d _ h=>by rw[h.1];exact o) ?_ ?_⟩
 .rintro i x σ d D m ⟨rfl,n,g,rfl⟩;obtain⟨r,rfl,A⟩:=u x<|am m;refine⟨_,_,oz A,Aj (j:=0) U,U,?_⟩;by_cases e:(ρ<|.ref r).w = "line"
  .have s:i≠c:=λz=>by
    obtain⟨v,b,k⟩:=l.no;rw[<-z,m] at b
    cases b;exact k e
   refine V3 (congrArg V.str e) ?_;exact⟨U,by lia,_,U⟩
  .have t:i=c:=by
    refine Í λz=>?_;obtain⟨v,b,B⟩:=l.all i<|by lia
    rw[m] at b
    cases b;exact e B
   subst t;rw[_L λz=>e<|V.str.inj z];refine Mq ?_;exact q
 .rintro σ d ⟨rfl,n,g,rfl⟩;have:=l.lt;lia
inductive pI(vs:_b V)(H:Hp)(Q:VK)(f6:XK):Prop
|mk(n:_i)(bd:_A)(p:_g)(us:_b V)(ρ:V->R)(_:vs=[.int n,.str bd,.ref p])(_:H p=_a (.lst us))(_:Rows H ρ us)(_:us.length<=500)(_:Fx ρ us)(_:∀H',Al H H'->Q (.bl (keyOf ρ us bd n)) H')
theorem zq:Aq hQ hQ<|Ae sIk:=Bh
include N T in
theorem vK:BX P w K mg base BW 2 aD.Ik hQ pI:=by
 refine N.FIk.1.Dl zq λH W Q E J h=>?_;obtain⟨n,bd,p,a,ρ,rfl,O,r,L,A,q⟩:=h;refine⟨_,Ag<|Ax<|A_ (O5 U) U T.any lc<|Aa (Bm U (BR (osc:=Ae sIk) (N:=hQ) U U<|by decide) (BZ<|BL N.FRo (S9 N T) J<|Aa (pv 2)<|Aa CQ Ab) (λ_ _ _ _=>CJ)<|λ_ _ _ _=>(Dv (Eb Ez (Av (Am (K:=K) U) (pv 0) Ac<|λ_ _=>rfl) (pv 2)<|Bc _)<|Du<|Eb G_ (pv 1) (Av (Am (K:=K) U) (pv 0) Ac<|λ_ _=>rfl)<|Bc _)) Ab,?_⟩;refine⟨p,a,"board",ρ,U,O,r,L,λD I S y o=>?_⟩;have s:Cp K I D<|a.filter<|pw ρ "board":=.inl<|.inl o
 refine⟨⟨_,s⟩,DG (K:=K) (xs:=a.filter<|pw ρ "board") (λ_=>_h) (λv=>.bl (pn ρ bd v && decide (n<oA (ρ v)))) s (Aw (by have:=Jb (pw ρ "board") a;lia)) (λx u c t R k=>k c<|Al.refl c) (λx u _ c t R k=>?_)<|λG B X M C=>?_⟩
 .have f:=cy.mp u;obtain⟨m,z⟩:=A x f.1<|V.str.inj<|_G f.2;have F:oA (ρ x)=m:=by unfold oA;rw[z]
  have l:=((r.mono y).mono t) x f.1;have d:=k c<|Al.refl c
  rw[F] at d;obtain⟨i,rfl,l⟩:=l;have d:R (.bl (decide (V.str (ρ<|.ref i).nm=V.str bd) && decide (n<m))) c:=d;have b:c i=_a (.tup<|.str (ρ<|.ref i).w :: .str (ρ<|.ref i).nm::(ρ<|.ref i).rest):=l;rw[z] at b;refine⟨_,_,oz b,Aj (j:=1) U,U,?_⟩;refine Ed (λg=>?_)<|λg=>?_
  .rw[g,fw] at d;exact⟨_,_,oz b,Aj (j:=2) U,d⟩
  .rw[(fq _).mp g,iX] at d;exact d
 .refine⟨G,(a.filter<|pw ρ "board").map (λv=>pn ρ bd v && decide (n<oA (ρ v))),U,.inl<|.inl ?_,?_⟩
  .rw[C,bX.mpr<|λ_ _=>rfl,bi];rfl
  .have e:((a.filter<|pw ρ "board").map (λv=>pn ρ bd v && decide (n<oA (ρ v)))).any id=keyOf ρ a bd n:=by
    rw[ow];rfl
   rw[e];exact q B<|y.trans M
inductive mq(vs:_b V)(H:Hp)(Q:VK)(f6:XK):Prop
|mk(r p:_g)(ro:R)(us:_b V)(ρ:V->R)(_:vs=[.ref r,.ref p])(_:H r=_a (.tup ro.v))(_:H p=_a (.lst us))(_:Rows H ρ us)(_:us.length<=500)(_:U0 ρ us ro)(_:Fx ρ us)(_:∀H',Al H H'->Q (.bl _h) H')
theorem qm:Aq ["line","ahead","count","row"] ["line","ahead"] (Ae sSb):=Bh
include N T in
theorem vP:BX P w K mg base BW 3 aD.Sb ["line","ahead"] mq:=by
 refine N.FSb.1.Dl qm λH W Q E m h=>?_;obtain⟨r,p,ro,b,ρ,rfl,L,f,d,o,B,t,q⟩:=h;obtain⟨R,A⟩:=T.mostLn;refine⟨_,(Af (BP (i:=2) qm.nd U (Or.inl U)<|BL N.FCl (xV N T) m<|Aa (pv 1) Ab)
  (Af (BP (i:=3) qm.nd U (Or.inl U)<|Av Et (pv 1) (Ar El (Ar El (A_ BV U T.len dv<|Aa (pv 1) Ab) Ac)<|pv 2)<|λ_ _=>rfl)
  (Af (Cg (PW.pt<|HD (Bb QH (Av (Am (K:=K) U) (pv 3) Ac<|λ_ _=>rfl) CQ<|Bc _)<|Gh<|Bb uJ (pv 2) (CW (v:=.int 4) U A ⟨R,U⟩)<|Bc _) (Ag<|Ax Gr) Be)
  (Ag<|Ax<|Dv (Eb Er (Av (Am (K:=K) U) (pv 0) Ac<|λ_ _=>rfl) (Av (Am (K:=K) U) (pv 0) Ac<|λ_ _=>rfl)<|Bc _)<|Du<|BL N.FIk (vK N T) m<|Aa (Av (Am (K:=K) U) (pv 0) Ac<|λ_ _=>rfl)<|Aa (Av (Am (K:=K) U) (pv 3) Ac<|λ_ _=>rfl)<|Aa (pv 1) Ab)))),?_⟩
 obtain⟨cnt,v,J,lo,n,bd,G,O,l,S,s,D,M,g,F⟩:=B.ex;have c:H r=_a (.tup [.str ro.w,.str ro.nm,.int J,.int lo,.int n]):=by rw[L,<-O]
 obtain⟨e,rfl,u⟩:=d v<|am s;have a:H e=_a (.tup<|.str (ρ<|.ref e).w :: .str (ρ<|.ref e).nm :: .str bd::G):=by rw[u,<-M]
 have I:=l.lt;have C:((b.length:_d):_i) - 1 - ((cnt:_d):_i)=((b.length - 1 - cnt:_d):_i):=by lia
 have k:Cp K H p b:=.inl<|.inl f
 refine⟨p,b,ρ,cnt,U,f,d,o,l,?_⟩;refine⟨p,b,U,.inl k,b,_,k,by rw[C];exact Aj s,?_⟩;refine⟨_,_,oz a,Aj (j:=0) U,U,V3 (congrArg V.str D) ?_⟩;refine Ed (λz=>?_)<|λ_=>?_
 .have:=_G z;lia
 refine⟨_,_,oz c,Aj (j:=3) U,_,_,oz c,Aj (j:=4) U,?_⟩;refine Ed (λ_=>?_)<|λz=>_D (_v g) z
 refine⟨_,_,oz c,Aj (j:=4) U,_,_,oz a,Aj (j:=2) U,n,bd,p,b,ρ,U,f,d,o,t,λy x=>?_⟩;rw[F];exact q y x
inductive gO(K:_s)(aB aP aM:_g)(vs:_b V)(H:Hp)(Q:VK)(f6:XK):Prop
|mk(r p:_g)(ro:R)(us:_b V)(ρ:V->R)(_:vs=[.ref r,.ref p])(_:H r=_a (.tup ro.v))(_:H p=_a (.lst us))(_:Rows H ρ us)(_:us.length<=500)(_:Io K aB aP aM ρ us ro)(_:∀H',Al H H'->Q (.bl _h) H')
theorem scWm:Aq kA kA<|Ae sWm:=Bh
include N T in
theorem xM:BX P w K mg base BW 6 aD.Wm kA<|gO K aB aP aM:=by
 refine N.FWm.1.Dl scWm λH x Q E i h=>?_;obtain⟨r,p,ro,e,ρ,rfl,b,l,f,k,ok,q⟩:=h;refine⟨_,(Af (Cg (Bb Ez (Av (Am (K:=K) U) (pv 0) Ac<|λ_ _=>rfl) CQ<|Bc _) (Ag FQ) Be)
  (Af (Cg (Bb Ez (Av (Am (K:=K) U) (pv 0) Ac<|λ_ _=>rfl) CQ<|Bc _) (Ag<|Ax<|Dv (BL N.FHp (wg N T) i<|Aa (pv 0)<|Aa (pv 1) Ab)<|Du<|BL N.FSb (vP N T) i<|Aa (pv 0)<|Aa (pv 1) Ab) Be)
  (Ag<|Ax<|Dv (cP<|az (Av (Am (K:=K) U) (pv 0) Ac<|λ_ _=>rfl)<|CW (v:=.ref aP) U T.mP U)<|Du<|BL N.FHp (wg N T) i<|Aa (pv 0)<|Aa (pv 1) Ab))),?_⟩
 obtain⟨o,ps,g,n,a,m,c⟩:=ok.parts;refine⟨_,_,oz b,Aj (j:=0) U,U,?_⟩;refine Ed (λz=>_D (V.str.inj<|_G z) ok.ns)<|λ_=>?_
 refine⟨_,_,oz b,Aj (j:=0) U,U,?_⟩;refine Ed (λz=>?_)<|λ_=>?_
 .have s:=ok.line<|V.str.inj<|_G z
  refine⟨r,p,ro.w,_,e,ρ,o,ps,U,b,l,f,k,g,n,a,m,c,λy d=>?_⟩;exact⟨r,p,ro,e,ρ,U,d _ _ b,d _ _ l,f.mono d,k,s,ok.sG,λt u=>q t<|d.trans u⟩
 refine⟨_,_,oz b,Aj (j:=0) U,aP,_,_,U,U,T.dP,g,?_⟩;exact⟨r,p,ro.w,_,e,ρ,o,ps,U,b,l,f,k,g,n,a,m,c,q⟩
inductive qD(K:_s)(aM:_g)(vs:_b V)(H:Hp)(Q:VK)(f6:XK):Prop
|mk(p:_g)(w:_A)(us:_b V)(ρ:V->R)(_:vs=[.str w,.ref p])(_:H p=_a (.lst us))(_:Rows H ρ us)(_:us.length<=500)(_:Δ K aM w=_a _n \/ ∃(m:_i)(t:LB),Δ K aM w=_a (_a (.int m t))/\(((us.filter (pw ρ w)).length:_d):_i)<m)(_:∀H',Al H H'->Q (.bl _h) H')
theorem scHr:Aq qq qq<|Ae sHr:=Bh
include N T in
theorem wH:BX P w K mg base BW 2 aD.Hr qq<|qD K aM:=by
 refine N.FHr.1.Dl scHr λH o Q E i h=>?_;obtain⟨p,w,d,ρ,rfl,l,g,j,a,q⟩:=h;refine⟨_,Ag<|Ax<|tY (cP<|YK (pv 0)<|CW (v:=.ref aM) U T.mM U)<|Du<|Eb G_ (A_ BV U T.len dv<|Aa (BL N.FRo (S9 N T) i<|Aa (pv 1)<|Aa (pv 0) Ab) Ab) (RN (CW (v:=.ref aM) U T.mM U) (pv 0)<|λ_ _=>rfl)<|Bc _,?_⟩;rcases a with b | ⟨m,t,b,f⟩
 .refine⟨aM,w,_,U,U,T.dM,b,Mq ?_⟩;exact q H<|Al.refl H
 refine⟨aM,w,_,U,U,T.dM,b,?_⟩;refine⟨p,d,w,ρ,U,l,g,j,λD e n k c=>?_⟩;refine⟨D,_,U,oz<|.inl c,aM,w,.int m,_,U,U,T.dM,b,⟨t,U⟩,?_⟩;show Q (.bl (decide ((((d.filter<|pw ρ w).length:_d):_i)<m))) e;rw[_v f];exact q e k
def jW(K:_s)(aB aP aM:_g):Sp:=gO K aB aP aM
theorem zT:Aq pu pu<|Ae sIr:=Bh
include N T in
theorem uy:BX P w K mg base BW 7 aD.Ir pu<|jW K aB aP aM:=by
 refine N.FIr.1.Dl zT λH n Q E f h=>?_;obtain⟨r,p,ro,d,ρ,rfl,b,i,e,g,ok,q⟩:=h;refine⟨_,(Af (Cg (PW.pt<|HD (Dg<|Dz<|A_ Di U T.isin bv<|Aa (pv 0)<|Aa (Ek (v:=.ty "tuple") U T.tuple ip U) Ab)<|HD (Bb Ez (A_ BV U T.len dv<|Aa (pv 0) Ab) Ac<|Bc _)<|Gh<|Dg<|Dz<|A_ Di U T.isin bv<|Aa (Av (Am (K:=K) U) (pv 0) Ac<|λ_ _=>rfl)<|Aa (Ek (v:=.ty "str") U T.str Ŵ U) Ab) (Ag<|Ax Gr) Be)
  (Ag<|Ax<|Dv (BL N.FWm (xM N T) f<|Aa (pv 0)<|Aa (pv 1) Ab)<|Du<|BL N.FHr (wH N T) f<|Aa (Av (Am (K:=K) U) (pv 0) Ac<|λ_ _=>rfl)<|Aa (pv 1) Ab)),?_⟩
 have a:Δ K aM ro.w=_a _n \/ ∃(m:_i)(t:LB),Δ K aM ro.w=_a (_a<|.int m t)/\(((d.filter<|pw ρ ro.w).length:_d):_i)<m:=ok.room.elim (λz=>.inl z.2) .inr;refine⟨_,"tuple",_,_,U,.tup b,Wq,?_⟩;refine⟨r,_,U,.inr<|.inl<|.inl b,U,?_⟩;refine Ed (λz=>?_)<|λ_=>?_
 .exfalso;have:=_G z;have:=V.int.inj this;simp at this;lia
 refine⟨_,_,oz b,Aj (j:=0) U,_,"str",_,_,U,.str _,k_,?_⟩;refine⟨r,p,ro,d,ρ,U,b,i,e,g,ok,λo c=>?_⟩;exact⟨_,_,oz<|c _ _ b,Aj (j:=0) U,p,ro.w,d,ρ,U,c _ _ i,e.mono c,g,a,λk l=>q k<|c.trans l⟩
inductive pJ(K:_s)(aB aP aM:_g)(vs:_b V)(H:Hp)(Q:VK)(f6:XK):Prop
|mk(p:_g)(us:_b V)(ρ:V->R)(_:vs=[.ref p])(_:H p=_a (.lst us))(_:Rows H ρ us)(_:1<=us.length)(_:us.length<=150)(_:∀(i:_d) v,us[i]? = _a v->Io K aB aP aM ρ (us.take i) (ρ v))(_:(us.filter (pw ρ "board")).isEmpty=_r)(_:∀H',Al H H'->Q .non H')
theorem nM:Aq ["rows","at","row"] ["rows"] (Ae sCk):=Bh
include N T in
theorem vN:BX P w K mg base BW 8 aD.Ck ["rows"] (pJ K aB aP aM):=by
 refine N.FCk.1.Dl nM λH Z Q E I h=>?_;obtain⟨p,b,ρ,rfl,G,s,h1,h2,m,J,q⟩:=h;obtain⟨A,t⟩:=T.mostR;refine⟨_,(Af (Cg (PW.pt<|HD (Dg<|Dz<|A_ Di U T.isin bv<|Aa (pv 0)<|Aa (Ek (v:=.ty "list") U T.list eD U) Ab)<|Gh<|Dg<|Ij Er Er Ac (A_ BV U T.len dv<|Aa (pv 0) Ab)<|CW (v:=.int 150) U t ⟨A,U⟩) (Ag FQ) Be)
  (Af (DQ _U U (Kw U T.enumerate<|Aa (pv 0) Ab) (HS U<|Bq (Bg (i:=1) nM.nd U<|Or.inl U)<|Bq (Bg (i:=2) nM.nd U<|Or.inl U) FP)<|Ag<|Cg (Dg<|Dz<|BL N.FIr (uy N T) I<|Aa (pv 2)<|Aa (G7 RL (pv 0) JQ<|Ej<|pv 1) Ab) (Ag FQ) Be)
  (Ag<|Cg (Dg<|Nx (BL N.FRo (S9 N T) I<|Aa (pv 0)<|Aa CQ Ab)<|λ_=>rfl) (Ag FQ) Be))),?_⟩
 have j:Cp K H p b:=.inl<|.inl G
 refine⟨_,"list",_,_,U,.lst G,Wx,?_⟩;refine⟨p,_,U,.inl j,?_⟩;refine Ed (λ_=>?_)<|λz=>_D (_v<|by lia) z
 have f:decide ((b.length:_i)<=150)=true:=_v<|by lia
 refine ib ?_;rw[f];refine⟨p,U,⟨_,j⟩,Kr (K:=K) (a:=p) (xs:=b) (λi σ d=>Al H d/\∃u B,σ=[_a (.ref p),u,B]) ⟨Al.refl H,_,_,U⟩ (λi σ d _ h=>h.1.seq j) ?_ ?_⟩
 .rintro i x σ d R F ⟨e,u,B,rfl⟩ M;have l:=Ay (o:=HO.tup [.int (i:_i),x]) M;refine⟨_,oz Ai,U,U,?_⟩;generalize upd d R (HO.tup [.int (i:_i),x])=g at l |-;have n:=e.trans l;have hi:i<b.length:=(ag.mp F).1;obtain⟨r,rfl,V⟩:=(s.mono n) x<|am F;refine⟨p,_,U,n.seq j,λk L=>?_⟩;have C:=Ay (o:=HO.lst<|HQ b _n<|some (i:_i)) L;have y:upd g k (HO.lst<|HQ b _n<|some (i:_i)) k=_:=Ai;generalize upd g k (HO.lst (HQ b _n (_a (i:_i))))=X at C y |-;rw[OJ b i (by lia)] at y;have c:=n.trans C;refine⟨r,k,ρ<|.ref r,b.take i,ρ,U,C _ _ V,y,(s.mono c).sub λv S=>gS S,by rw[cE];lia,m i _ F,λH7 W=>?_⟩;exact⟨c.trans W,_,_,U⟩
 .rintro σ d ⟨e,u,B,rfl⟩;refine⟨p,b,"board",ρ,U,e _ _ G,s.mono e,by lia,λD g Y l O=>?_⟩;refine⟨_,.inl ⟨_,oz O,U⟩,?_⟩;rw[J];exact (q g<|e.trans l)
inductive qu(vs:_b V)(H:Hp)(Q:VK)(f6:XK):Prop
|mk(p:_g)(ts:_b _A)(_:vs=[.ref p])(_:H p=_a (.lst (ts.map V.str)))(_:ts.length<=300)(_:ts.Nodup)(_:∀D (kvs:_b (Key×V)) H',H D=_n->Al H H'->H' D=_a (.dK kvs)->(∀(i:_d) t,ts[i]? = _a t->Cv kvs (δ t)=_a (.int (i:_d)))->Q (.ref D) H')
theorem jO:Aq ["names","numbers","number","name"] ["names"] (Ae sNu):=Bh
inductive dY(H:Hp)(D:_g)(ts:_b _A)(p:_g)(i:_d)(σ:St)(H4:Hp):Prop
|mk(_:Al H H4)(kvs:_b (Key × V))(_:H4 D=_a (.dK kvs))(_:kvs.length<=i)(_:(∀(j:_d) t,j<i->ts[j]? = _a t->Cv kvs (δ t)=_a (.int (j:_d))))(v2 v3:_)(_:σ=[_a (.ref p),_a (.ref D),v2,v3])
theorem dY.fst{ts:_b _A}{a:Hp}(h:dY H D ts p i σ a):Al H a:=by
 cases h;assumption
include N T in
theorem uK:BX P w K mg base BW 1 aD.Nu ["names"] qu:=by
 refine N.FNu.1.Dl jO λH vs Q E W h=>?_;obtain⟨p,f,rfl,Y,hl,I,q⟩:=h;have G:=Fi W;refine⟨_,(Af (BP (i:=1) jO.nd U (Or.inl U) Iu)
  (Af (DQ _U U (Kw U T.enumerate<|Aa (pv 0) Ab) (HS U<|Bq (Bg (i:=2) jO.nd U<|Or.inl U)<|Bq (Bg (i:=3) jO.nd U<|Or.inl U) FP)<|Ag<|Q_ G (pv 1) (pv 3) (pv 2) U)
  (Ag<|Ax<|pv 1))),?_⟩
 intro D n;have C:=Ay (o:=HO.dK []) n;have A:Cp K H p<|f.map V.str:=.inl<|.inl Y
 refine⟨p,U,⟨_,C.seq A⟩,Kr (K:=K) (a:=p) (xs:=f.map V.str) (dY H D f p)
  ⟨C,[],Ai,ai _,λj t r=>_D r<|iF _,_,_,U⟩ (λi σ g _ h=>h.fst.seq A) ?_ ?_⟩
 .rintro i x σ g S F ⟨s,c,m,L,v,R,O,rfl⟩ M;rw[ar] at F;obtain⟨t,d,rfl⟩:=aS.mp F;have hi:i<f.length:=(ag.mp d).1;have y:=Ay (o:=HO.tup [.int (i:_i),.str t]) M;refine⟨_,oz Ai,U,U,?_⟩;generalize upd g S (HO.tup [.int (i:_i),.str t])=Z at y |-;refine⟨_,Ux.k (k:=δ t) (y _ _ m)<|Aw<|by lia,?_⟩;refine⟨λb u e=>?_,putK c (δ t)<|.int (i:_i),Ai,bo (GP _ _ _)<|by lia,λj B r l=>?_,_,_,U⟩
  .rw[An (Ak e n)];exact y _ _<|s _ _ e
  .rw[SJ];by_cases e:B=t
   .subst e;have:j=i:=by
     obtain⟨h1,J⟩:=ag.mp l;obtain⟨h2,X⟩:=ag.mp d;exact (IA I).mp<|J.trans X.symm
    subst this;rw[_o U]
   .rw[_l λz=>e<|Sum.inr.inj z];refine v j B ?_ l;rcases ki.mp r with z | z
    .exact z
    .subst z;rw[d] at l;exact _D (_m l).symm e
 .rintro σ g ⟨s,c,m,L,v,R,O,rfl⟩;refine q D c g n s m λi t d=>v i t ?_ d;rw[ah];exact (ag.mp d).1
inductive XD(vs:_b V)(H:Hp)(Q:VK)(f6:XK):Prop
|mk(p:_g)(as:_b Th)(us:_b V)(_:vs=[.ref p])(_:H p=_a (.lst us))(_:Paired (λ(a:Th) y=>TupAt H (tV a) y) as us)(_:as.length<=500)(_:∀a∈as,a.2.1<=100)(_:∀H',Al H H'->Q (.int ((as.map λa=>a.2.1).sum:_d)) H')
theorem V5:∀l:_b _d,(l.map λn:_d=>(n:_i)).sum=((l.sum:_d):_i)
 |[]=>rfl
 |n::l=>by
  rw[df,ii,ii,V5 l];lia
theorem scCa:Aq nu nu<|Ae z7:=Bh
include N T in
theorem lC:BX P w K mg base BW 1 aD.Ca nu XD:=by
 refine N.FCa.1.Dl scCa λH C Q E G h=>?_;obtain⟨p,r,t,rfl,A,i,I,z,q⟩:=h;refine⟨_,Ag<|Ax<|A_ (OD U) U T.sum zld<|Aa (Bm U (BR (osc:=Ae z7) (N:=nu) U U<|by decide) (BZ<|pv 0) (λ_ _ _ _=>CJ)<|λ_ _ _ _=>(Av (Am (K:=K) U) (pv 0) Ac<|λ_ _=>rfl)) Ab,?_⟩;have o:Cp K H p t:=.inl<|.inl A
 have J:=i.length;refine⟨⟨_,o⟩,DG (K:=K) (xs:=t) (λ_=>_h) (PN H 1) o (Aw<|by lia) (λx s d g R k=>k d<|Al.refl d) (λx s _ d g R k=>?_)<|λD d B g c=>?_⟩
 .obtain⟨b,_,f⟩:=Dq i s;have e:=Hg f 1;obtain⟨F,rfl,y⟩:=f.mono g;refine⟨_,_,oz y,Aj (j:=1) U,?_⟩;have:=k d<|Al.refl d
  rw[e] at this;exact this
 .rw[bX.mpr (λ_ _=>rfl),Ms 1 i] at c;have e:(r.map λa=>(tV a).getD 1 V.non)=((r.map λa=>a.2.1).map λn:_d=>(n:_i)).map V.int:=by
   rw[bi,bi];rfl
  rw[e] at c;refine⟨D,_,U,oz c,λn v=>?_,by simp;lia,?_⟩
  .obtain⟨m,u,rfl⟩:=ay.mp v;obtain⟨b,l,rfl⟩:=ay.mp u;have:=z b l;lia
  .rw[V5];exact q d g
theorem vW(h:n<=3000):n<sizeLine:=bg h<|by decide
inductive mW(vs:_b V)(H:Hp)(Q:VK)(f6:XK):Prop
|mk(p:_g)(as:_b Th)(us:_b V)(_:vs=[.ref p])(_:H p=_a (.lst us))(_:Paired (λ(a:Th) y=>TupAt H (tV a) y) as us)(_:as.length<=12)(_:∀a∈as,a.2.1<=97)(_:∀D ys H',H D=_n->Al H H'->H' D=_a (.lst ys)->Paired (λq y=>TupAt H' (qV q) y) (GQ<|as.map tN) ys->Q (.ref D) H')
theorem iU:Aq ["things","places","number","thing"] nu (Ae y_):=Bh
inductive gQ(H:Hp)(D:_g)(as:_b Th)(p:_g)(i:_d)(σ:St)(H4:Hp):Prop
|mk(_:Al H H4)(ys:_)(_:H4 D=_a (.lst ys))(_:Paired (λq y=>TupAt H4 (qV q) y) (GQ<|(as.map tN).take i) ys)(v2 v3:_)(_:σ=[_a (.ref p),_a<|.ref D,v2,v3])
theorem gQ.fst{b:_b Th}{a:Hp}(h:gQ H D b p i σ a):Al H a:=by
 cases h;assumption
include N T in
theorem vX:BX P w K mg base BW 1 aD.Pl nu mW:=by
 refine N.FPl.1.Dl iU λH vs Q E hr h=>?_;obtain⟨p,f,I,rfl,hp,s,hl,O,q⟩:=h;refine⟨_,(Af (BP (i:=1) iU.nd U (Or.inl U)<|CV Ab)
  (Af (DQ _U U (Kw U T.enumerate<|Aa (pv 0) Ab) (HS U<|Bq (Bg (i:=2) iU.nd U<|Or.inr U)<|Bq (Bg (i:=3) iU.nd U<|Or.inl U) FP)<|Ag<|C_<|E_ bE PySem.F.slot_list_extend PySem.F.type_list_extend YG (pv 1)<|Aa (Bm U (BR (osc:=Ae y_) (N:=["things","places","number","thing"]) U U<|by decide) (Dj U T.range<|Aa (Av (Am (K:=K) U) (pv 3) Ac<|λ_ _=>rfl) Ab) (λ_ _ _ _=>CJ)<|λ_ _ _ _=>(Bx<|Aa (pv 3)<|Aa (pv 0) Ab)) Ab)
  (Ag<|Ax<|pv 1))),?_⟩
 refine⟨DW (by simp),λD G=>?_⟩;have S:=Ay (o:=HO.lst []) G;have J:Cp K H p I:=.inl<|.inl hp
 have Y:=s.length;refine⟨p,U,⟨_,S.seq J⟩,Kr (K:=K) (a:=p) (xs:=I) (gQ H D f p)
  ⟨S,[],Ai,.nil,_,_,U⟩ (λi σ t _ h=>h.fst.seq J) ?_ ?_⟩
 .rintro i x σ t T0 hx ⟨v,z,B,m,v2,v3,rfl⟩ hT;obtain⟨b,d,rq⟩:=Do s hx;have hi:i<f.length:=(ag.mp d).1;have W:=O b<|am d
  have g:(f.map tN)[i]? = _a (tN b):=by rw[ar,d];rfl
  have l:=Ay (o:=HO.tup [.int (i:_i),x]) hT;refine⟨_,oz Ai,U,U,?_⟩;generalize upd t T0 (HO.tup [.int (i:_i),x])=H5 at l |-;obtain⟨r,rfl,pe⟩:=rq.mono<|v.trans l;have L:=Ao l m;have A:=l _ _ B;refine⟨.inl ⟨U,_,oz A⟩,_,_,oz pe,Aj (j:=1) U,_,U,by lia,by lia,?_⟩;rw[aI];refine Pz (n:=b.2.1) (λe=>qV (i,e)) (Aw<|by lia) (λe he X c R k=>?_)<|λD6 X M aa c IE V=>?_
  .refine⟨by show 2<=sizeLine;decide,λT6 C=>?_⟩;exact k _ _ (Ay C) ⟨T6,U,Ai⟩
  .have ly:=(Ao c L).length;have lz:=V.length;have lp:=Qc ((f.map tN).take i) 97 λb s=>by
    obtain⟨a,Z,rfl⟩:=ay.mp<|gS s;exact O a Z
   rw[cE,ah] at lp;rw[dQ] at lz;have:min i f.length * 97<=12 * 97:=mh _<|by lia
   refine⟨D,D6,z,M,U,U,c _ _ A,IE,fh<|vW<|by lia,?_⟩;refine⟨λb u e=>?_,z++M,Ai,?_,_,_,U⟩
   .rw[An (Ak e G)];exact c _ _<|l _ _<|v _ _ e
   .rw[Kv g];exact FN (Bv (Ao c L)<|c _ _ A)<|CG (F:=λq y=>TupAt _ (qV q) y) (λe=>(i,e))<|Bv V<|c _ _ A
 .rintro σ t ⟨v,z,B,m,v2,v3,rfl⟩;rw[<-Y,dt<|by rw[ah];exact ai _] at m;exact q D z t G v B m
theorem M8{α:Type}(l:_b α)(x:α):TQ (l++[x]) (-1)=_a x:=by
 unfold TQ kj;rw[_l (by decide),_o<|by rw[av,bt];lia];show (l++[x])[(-1+(((l++[x]).length:_d):_i)).toNat]? = _a x;have e:(-1+(((l++[x]).length:_d):_i)).toNat=l.length:=by
  rw[av,bt];lia
 rw[e,ci<|ai _,iN];rfl
theorem Ov{l:_b Ln}{v:V}{A:_g}(h:Im H l v)(a:H A=_a (.lst xs))(d:v≠.ref A):Im (upd H A<|.lst ys) l v:=by
 obtain⟨B,c,rfl,b,e⟩:=h;have:B≠A:=λz=>d<|by rw[z]
 exact⟨B,c,U,by rw[An this];exact b,Bv e a⟩
theorem FT{α β:Type}{F G:α->β->Prop}:∀{l:_b α}{vs:_b β},Paired F l vs->(∀a b,b∈vs->F a b->G a b)->Paired G l vs
 |[],_,h,_=>by cases h;exact .nil
 |a::l,_,h,k=>by
  cases h with
  |cons x y=>exact .cons (k _ _ (be ..) x)<|FT y λa b c=>k a b<|aT _ c
theorem J9{α β:Type}{F:α->β->Prop}:∀{l:_b α}{z:α}{vs:_b β},Paired F (l++[z]) vs->∃us u,vs=us++[u]/\Paired F l us/\F z u
 |[],z,_,h=>by
  cases h with
  |cons x y=>cases y;exact⟨[],_,U,.nil,x⟩
 |a::l,z,_,h=>by
  cases h with
  |cons x y =>
   obtain⟨us,u,rfl,c,b⟩:=J9 y;exact⟨_::us,u,U,.cons x c,b⟩
theorem FW{α:Type}{l:_b α}(h:l≠[]):∃a z,l=a++[z]:=⟨l.dropLast,l.getLast h,(Ÿ h).symm⟩
theorem Tw{rk:_b (_A×_d×_i)}:∀{rs:_b R},(∃r∈rs,Mj r.w=_h)->linesOf rk rs≠[]:=by
 have j:∀(n:_d)(rs:_b R),rs.length=n->(∃r∈rs,Mj r.w=_h)->linesOf rk rs≠[]:=by
  intro n
  induction n with
  |zero =>
   rintro rs c ⟨r,i,_⟩
   cases rs with
   |nil=>cases i
   |cons a b=>cases c
  |succ n m =>
   rintro rs c ⟨r,i,f⟩;obtain⟨a,z,rfl⟩:=FW (l:=rs)<|by intro e;rw[e] at c;cases c
   rw[Cr];rw[av,bt] at c;unfold Gb;by_cases g:Mj z.w=_h
   .rw[_o g];simp
   .rw[_l g];have d:r∈a:=by
     rcases aE.mp i with h | h
     .exact h
     .rw[al.mp h] at f;exact _D f g
    have k:=m a (by lia) ⟨r,d,f⟩;split
    .obtain⟨b,y,e⟩:=FW k;rw[e,Iz];simp
    .exact k
 exact λ{rs} h=>j rs.length rs U h
inductive oM(vs:_b V)(H:Hp)(Q:VK)(f6:XK):Prop
|mk(p d:_g)(us:_b V)(ρ:V->R)(rk:_b (_A×_d×_i))(kvs:_b (Key×V))(_:vs=[.ref p,.ref d])(_:H p=_a (.lst us))(_:Rows H ρ us)(_:us.length<=500)(_:H d=_a (.dK kvs))(_:∀(i:_d) r,rk[i]? = _a r->Cv kvs (δ r.1)=_a (.int (i:_d)))(_:(rk.map (·.1)).Nodup)(_:∀(i:_d) v,us[i]? = _a v->(ρ v).w = "line"->(∃(j:_d)(r:_A × _d × _i)(sh lo hi:_i),rk[j]? = _a r/\r.1=(ρ v).nm/\(ρ v).rest=[.int sh,.int lo,.int hi])/\∃u∈us.take i,Mj (ρ u).w=_h)(_:∀D H',H D=_n->Al H H'->GX H' D (linesOf rk (us.map ρ))->Q (.ref D) H')
theorem rP{rk:_b (_A×_d×_i)}{r:_A×_d×_i}(b:(rk.map (·.1)).Nodup)(h:rk[j]? = _a r):(rk.map (·.1)).idxOf r.1=j:=by
 have a:j<(rk.map (·.1)).length:=by rw[ah];exact (ag.mp h).1
 have e:(rk.map (·.1))[j]=r.1:=by
  rw[jS];exact congrArg (·.1) (ag.mp h).2
 rw[<-e];exact List.Nodup.idxOf_getElem b j a
theorem oh:Aq ["rows","rank_numbers","lines","row"] o0 (Ae sLi):=Bh
inductive iJ(H:Hp)(D:_g)(rk:_b<|_A×_d×_i)(us:_b V)(ρ:V->R)(p:_g)(d:_g)(i:_d)(σ:St)(H4:Hp):Prop
|mk(_:Al H H4)(lv:_)(_:H4 D=_a (.lst lv))(_:Paired (λl v=>Im H4 l v) (linesOf rk<|(us.take i).map ρ) lv)(_:lv.Nodup)(_:(∀v∈lv,v≠.ref D))(_:(∀v∈lv,∃A,v=.ref A/\H A=_n))(_:lv.length<=i)(_:(∀l∈linesOf rk ((us.take i).map ρ),l.length<=i))(v3:_)(_:σ=[_a (.ref p),_a<|.ref d,_a<|.ref D,v3])
theorem iJ.fst{rk:_b (_A×_d×_i)}{us:_b V}{a:Hp}(h:iJ H D rk us ρ p d i σ a):Al H a:=by
 cases h;assumption
include N T in
theorem sY:BX P w K mg base BW 1 aD.Li o0 oM:=by
 refine N.FLi.1.Dl oh λH vs Q E hr h=>?_;obtain⟨p,d,m,ρ,rk,a1,rfl,hp,hR,hl,as,vj,an,sB,q⟩:=h;have hu:=Fi hr;refine⟨_,(Af (BP (i:=2) oh.nd U (Or.inl U)<|CV Ab)
  (Af (DQ _U U (BZ<|pv 0) (Bg (i:=3) oh.nd U<|Or.inl U) (Af (Cg (Bb (Oj (K:=K) U) (Av (Am (K:=K) U) (pv 3) Ac<|λ_ _=>rfl) (CW (v:=.ref aK) U T.mK U) U) (Ag<|C_<|E_ bE cr cw CZ (pv 2)<|Aa (CV Ab) Ab) Be)
  (Ag<|Cg (Bb Ez (Av (Am (K:=K) U) (pv 3) Ac<|λ_ _=>rfl) CQ<|Bc _) (Ag<|C_<|E_ bE cr cw CZ (Av (Bu (K:=K) U) (pv 2) (K8 Jo Ac)<|λ_ _=>rfl)<|Aa (Bx<|Aa (Hf hu (pv 1) (Av (Am (K:=K) U) (pv 3) Ac<|λ_ _=>rfl)<|λ_ _=>rfl)<|Aa (Av (Am (K:=K) U) (pv 3) Ac<|λ_ _=>rfl)<|Aa (Av (Am (K:=K) U) (pv 3) Ac<|λ_ _=>rfl)<|Aa (Av (Am (K:=K) U) (pv 3) Ac<|λ_ _=>rfl) Ab) Ab) Be)))
  (Ag<|Ax<|pv 2))),?_⟩
 refine⟨DW (by simp),λD hD=>?_⟩;have s0:=Ay (o:=HO.lst []) hD;have hS:Cp K H p m:=.inl<|.inl hp
 refine⟨⟨_,s0.seq hS⟩,Dk (K:=K) (a:=p) (xs:=m) (iJ H D rk m ρ p d)
  ⟨s0,[],Ai,.nil,O0,(λv t=>nomatch t),(λv t=>nomatch t),ai _,(λl hl=>nomatch hl),_,U⟩ (λi σ H4 _ h=>h.fst.seq hS) ?_ ?_⟩
 .rintro i x σ H4 hx ⟨I,S,G,C,nd,n,He,aB,s,v3,rfl⟩;have hm:=am hx;have hi:i<m.length:=(ag.mp hx).1;obtain⟨r,rfl,W⟩:=(hR.mono I) x hm;have M:(m.take<|i+1).map ρ=(m.take i).map ρ++[ρ (.ref r)]:=by
   rw[ck,hx,ee];rfl
  have L:linesOf rk ((m.take<|i+1).map ρ)=Gb rk (linesOf rk<|(m.take i).map ρ) (ρ<|.ref r):=by rw[M,Cr]
  have a4:(linesOf rk<|(m.take i).map ρ).length=S.length:=C.length;by_cases J:Mj (ρ<|.ref r).w=_h
  .have aM:¬ (ρ<|.ref r).w = "line":=λz=>by rw[z] at J;exact _D J<|by decide
   have c:linesOf rk ((m.take<|i+1).map ρ)=linesOf rk ((m.take i).map ρ)++[[]]:=by rw[L];unfold Gb;rw[_o J]
   refine⟨_,_,oz W,Aj (j:=0) U,_,.inr<|T.tK.sq _,U,U,?_⟩;refine Ed (λ_=>?_)<|λz=>_D J z
   refine⟨.inl ⟨U,_,oz G⟩,DW (by simp),λp5 X=>?_⟩;obtain⟨H5,i6,y,u5⟩:=Jp (o:=HO.lst []) X;rw[i6];have Fu:=y _ _ G;refine⟨S,Fu,Aw<|by lia,?_⟩;have aN:r≠D:=Kh (y _ _ W) Fu<|by intro z;cases z
   have ab:p5≠D:=λz=>by rw[z,G] at X;cases X
   refine⟨_,_,oz<|by rw[An aN];exact y _ _ W,Aj (j:=0) U,U,?_⟩;refine Ed (λz=>_D (V.str.inj<|_G z) aM)<|λ_=>?_
   refine⟨λb u e=>?_,S++[.ref p5],Ai,?_,?_,?_,?_,by simp;lia,?_,_,U⟩
   .rw[An (Ak e hD)];exact y _ _<|I _ _ e
   .rw[c];refine FN (FT C λl v t h=>Ov (h.mono y) Fu<|n v t)<|.cons ⟨p5,[],U,by rw[An ab];exact u5,.nil⟩ .nil
   .refine Wl nd λhm=>?_;obtain⟨l,_,Y⟩:=Dq C hm;obtain⟨A,ts,e,h1,_⟩:=Y
    cases e;rw[h1] at X
    cases X
   .intro v t;rcases aE.mp t with h | h
    .exact n v h
    .rw[al.mp h];intro z;exact ab<|V.ref.inj z
   .intro v t;rcases aE.mp t with h | h
    .exact He v h
    .exact⟨p5,al.mp h,I.free X⟩
   .intro l f;rw[c] at f;rcases aE.mp f with h | h
    .exact kK<|s l h
    .rw[al.mp h];exact cK _
  .refine⟨_,_,oz W,Aj (j:=0) U,_,.inr<|T.tK.sq _,U,U,?_⟩;refine Ed (λz=>_D z J)<|λ_=>?_
   refine⟨_,_,oz W,Aj (j:=0) U,U,?_⟩;by_cases B:(ρ<|.ref r).w = "line"
   .refine Ed (λ_=>?_)<|λz=>_D (_v<|congrArg V.str B) z
    obtain⟨⟨j,rr,sh,lo,O,hj,Z,wc⟩,u,hu,PF⟩:=sB i _ hx B;have aa:linesOf rk ((m.take i).map ρ)≠[]:=Tw ⟨ρ u,cS hu,PF⟩;obtain⟨ac,z,Mb⟩:=FW aa;rw[Mb] at C;obtain⟨SY,v,rfl,NI,hz⟩:=J9 C;obtain⟨A,ts,rfl,Y,BB⟩:=hz;have c:linesOf rk ((m.take<|i+1).map ρ)=ac++[z++[⟨j,sh,lo,O⟩]]:=by
     rw[L];unfold Gb;rw[_l J,_o B,Mb,Iz];unfold lnOf;rw[wc,<-Z,rP an hj]
    have F:H4 r=_a (.tup [.str (ρ<|.ref r).w,.str (ρ<|.ref r).nm,.int sh,.int lo,.int O]):=by rw[W,<-wc]
    have g:=Gf.k (k:=δ rr.1)<|I _ _ as
    rw[vj j rr hj,Z] at g;have aZ:A≠D:=λe=>n (.ref A) (by simp)<|by rw[e]
    have a2:z.length<=i:=s z<|by rw[Mb];simp
    have a0:=BB.length;refine⟨_,_,oz G,M8 SY<|V.ref A,.inl ⟨U,_,oz Y⟩,_,_,oz F,Aj (j:=1) U,_,g,_,_,oz F,Aj (j:=2) U,_,_,oz F,Aj (j:=3) U,_,_,oz F,Aj (j:=4) U,by show 4<=sizeLine;decide,λT5 R=>?_⟩;obtain⟨H5,i6,y,u5⟩:=Jp (o:=HO.tup [.int (j:_d),.int sh,.int lo,.int O]) R;rw[i6];have JY:=y _ _ Y;have ap:T5≠A:=λe=>by rw[e,Y] at R;cases R
    have aw:D≠A:=λe=>aZ e.symm;obtain⟨a3,_,IL⟩:=oi.mp nd;refine⟨ts,JY,Aw<|by lia,?_⟩;refine⟨λb u e=>?_,SY++[.ref A],by rw[An aw];exact y _ _ G,?_,nd,n,He,by lia,?_,_,U⟩
    .obtain⟨A',eA,aP⟩:=He (.ref A)<|by simp
     cases eA;rw[An (Ak e aP)];exact y _ _<|I _ _ e
    .rw[c];refine FN (FT NI λl v t h=>Ov (h.mono y) JY<|λe=>IL v t _ (al.mpr U) e)<|.cons ⟨A,ts++[.ref T5],U,Ai,FN (Bv (Ao y BB) JY)<|.cons ⟨T5,U,by rw[An ap];exact u5⟩ .nil⟩ .nil
    .intro l f;rw[c] at f;rcases aE.mp f with h | h
     .exact kK<|s l<|by rw[Mb];exact cm _ h
     .rw[al.mp h,av,bt];lia
   .refine Ed (λz=>_D (V.str.inj<|_G z) B)<|λ_=>?_
    have c:linesOf rk ((m.take<|i+1).map ρ)=linesOf rk ((m.take i).map ρ):=by rw[L];unfold Gb;rw[_l J,_l B]
    rw[<-c] at C s;exact⟨I,S,G,C,nd,n,He,by lia,λl f=>kK<|s l f,_,U⟩
 .rintro σ H4 ⟨I,S,G,C,nd,n,He,aB,s,v3,rfl⟩;rw[eW] at C;exact q D H4 hD I ⟨S,G,C⟩
abbrev jV:_b Str:=["row_list","board_list","rank_list","knob_rows","board_numbers","rank_numbers","knob_numbers","key_places","pipe_places","knob_lines","step_sets"]
theorem Ep:∀m∈meths,∀f∈jV,¬ m=f:=by decide
theorem T_{x:_g}{fs:_b (_A×V)}(h:GX H D ls)(s:SX x H H')(a:H x=_a (.ins C dx fs)):GX H' D ls:=by
 obtain⟨d,f,i⟩:=h;refine⟨d,s.lst a f,Paired.Em i λ_ _ q=>?_⟩;obtain⟨A,g,e,b,c⟩:=q;exact⟨A,g,e,s.lst a b,s.pair a c⟩
theorem Xe{rk:_b (_A×_d×_i)}{us:_b V}{P1:_d->V->Prop}(h:∀(i:_d) v,us[i]? = _a v->(ρ v).w = "line"->P1 i v/\∃u∈us.take i,Mj (ρ u).w=_h):(linesOf rk<|us.map ρ).length=(us.filter<|λv=>Mj (ρ v).w).length:=by
 have d:∀n,n<=us.length->(linesOf rk<|(us.take n).map ρ).length=((us.take n).filter<|λv=>Mj (ρ v).w).length:=by
  intro n
  induction n with
  |zero=>intro _;rfl
  |succ n j =>
   intro m;have f:=af (l:=us) (i:=n)<|by lia
   rw[ck,f,ee];show (linesOf rk<|(us.take n).map ρ++[ρ us[n]]).length=((us.take n++[us[n]]).filter _).length;rw[Cr,hU,av,<-j (by lia)];unfold Gb;by_cases b:Mj (ρ us[n]).w=_h
   .rw[_o b,eJ,_o b];simp
   .rw[_l b,eJ,_l b];by_cases c:(ρ us[n]).w = "line"
    .rw[_o c];obtain⟨_,u,g,k⟩:=h n _ f c;obtain⟨a,z,e⟩:=FW<|Tw (rk:=rk) ⟨ρ u,cS g,k⟩;rw[e,Iz];simp
    .rw[_l c];simp
 have:=d us.length<|ai _
 rw[eW] at this;exact this
inductive pq(K:_s)(aB aP aM C:_g)(vs:_b V)(H:Hp)(Q:VK)(f6:XK):Prop
|mk(x dx p:_g)(us:_b V)(ρ:V->R)(bs:_b (_A×_d))(rk:_b (_A×_d×_i))(ks:_b R)(_:vs=[.ref x,.ref p])(_:H x=_a (.ins C dx []))(_:H p=_a (.lst us))(_:Rows H ρ us)(_:yZ K aB aP aM ρ us bs rk ks)(_:∀H',Ds C H' x bs rk ks (linesOf rk (us.map ρ))->SX x H H'->Q .non H')
theorem scOi:Aq g8 g8<|Ae jM:=Bh
include N T in
theorem wQ:BX P w K mg base BW 9 aD.Oi g8<|pq K aB aP aM C:=by
 refine N.FOi.1.Dl scOi λH vs Q E hr h=>?_;obtain⟨x,c,p,L,ρ,bs,rk,ks,rfl,hx,hp,hR,O,q⟩:=h;refine⟨_,(Af (C_<|BL N.FCk (vN N T) hr<|Aa (pv 1) Ab)
  (Af (Fq (pv 0) (Dw Es U T.list eD<|Aa (pv 1) Ab) U)
  (Af (Fq (pv 0) (Bm U (BR (osc:=Ae jM) (N:=g8) U U<|by decide) (BZ<|BL N.FRo (S9 N T) hr<|Aa (pv 1)<|Aa CQ Ab) (λ_ _ _ _=>CJ)<|λ_ _ _ _=>(Bx<|Aa (Av (Am (K:=K) U) (pv 0) Ac<|λ_ _=>rfl)<|Aa (Av (Am (K:=K) U) (pv 0) Ac<|λ_ _=>rfl) Ab)) U)
  (Af (Fq (pv 0) (Bm U (BR (osc:=Ae jM) (N:=g8) U U<|by decide) (BZ<|BL N.FRo (S9 N T) hr<|Aa (pv 1)<|Aa CQ Ab) (λ_ _ _ _=>CJ)<|λ_ _ _ _=>(Bx<|Aa (Av (Am (K:=K) U) (pv 0) Ac<|λ_ _=>rfl)<|Aa (Av (Am (K:=K) U) (pv 0) Ac<|λ_ _=>rfl)<|Aa (Av (Am (K:=K) U) (pv 0) Ac<|λ_ _=>rfl) Ab)) U)
  (Af (Fq (pv 0) (Bm U (BR (osc:=Ae jM) (N:=g8) U U<|by decide) (BZ<|pv 1) (λ_ _ _ _=>(HF<|Bb (Oj (K:=K) U) (Av (Am (K:=K) U) (pv 0) Ac<|λ_ _=>rfl) (CW (v:=.ref aK) U T.mK U) U))<|λ_ _ _ _=>(pv 0)) U)
  (Af (Fq (pv 0) (BL N.FNu (uK N T) hr<|Aa (Bm U (BR (osc:=Ae jM) (N:=g8) U U<|by decide) (BZ<|De (pv 0) U) (λ_ _ _ _=>CJ)<|λ_ _ _ _=>(Av (Am (K:=K) U) (pv 0) Ac<|λ_ _=>rfl)) Ab) U)
  (Af (Fq (pv 0) (BL N.FNu (uK N T) hr<|Aa (Bm U (BR (osc:=Ae jM) (N:=g8) U U<|by decide) (BZ<|De (pv 0) U) (λ_ _ _ _=>CJ)<|λ_ _ _ _=>(Av (Am (K:=K) U) (pv 0) Ac<|λ_ _=>rfl)) Ab) U)
  (Af (Fq (pv 0) (BL N.FNu (uK N T) hr<|Aa (Bm U (BR (osc:=Ae jM) (N:=g8) U U<|by decide) (BZ<|De (pv 0) U) (λ_ _ _ _=>CJ)<|λ_ _ _ _=>(Av (Am (K:=K) U) (pv 0) Ac<|λ_ _=>rfl)) Ab) U)
  (Af (Fq (pv 0) (BL N.FPl (vX N T) hr<|Aa (De (pv 0) U) Ab) U)
  (Af (Fq (pv 0) (BL N.FPl (vX N T) hr<|Aa (De (pv 0) U) Ab) U)
  (Af (Fq (pv 0) (BL N.FLi (sY N T) hr<|Aa (pv 1)<|Aa (De (pv 0) U) Ab) U)
  (Ag<|Fq (pv 0) (Bm U (BR (osc:=Ae jM) (N:=g8) U U<|by decide) (BZ<|BL N.FRo (S9 N T) hr<|Aa (pv 1)<|Aa CQ Ab) (λ_ _ _ _=>CJ)<|λ_ _ _ _=>cG) U)))))))))))),?_⟩
 have dr:=O.len;obtain⟨ur,Re⟩:∃ur,L.filter (pw ρ "rank")=ur:=⟨_,U⟩;have er:ur.map ρ=rk.map J_:=by rw[<-Re];exact O.er
 have lr:ur.length=rk.length:=by have:=congrArg Ρ er;simpa using this
 have inR:∀{v},v∈ur->v∈L:=λ{v} u=>by rw[<-Re] at u;exact (cy.mp u).1
 have cx:∀{v},v∈ur->∃b∈rk,ρ v=J_ b:=λ{v} u=>by
  have:ρ v∈rk.map J_:=by rw[<-er];exact cS u
  obtain⟨b,hb,e⟩:=ay.mp this;exact⟨b,hb,e.symm⟩
 obtain⟨ub,BC⟩:∃ub,L.filter (pw ρ "board")=ub:=⟨_,U⟩;obtain⟨uk,L'⟩:∃uk,L.filter (λv=>Mj (ρ v).w)=uk:=⟨_,U⟩;have eb:ub.map ρ=bs.map Gm:=by rw[<-BC];exact O.eb
 have ek:uk.map ρ=ks:=by rw[<-L'];exact O.ek
 have lb:ub.length=bs.length:=by have:=congrArg Ρ eb;simpa using this
 have dV:uk.length=ks.length:=by have:=congrArg Ρ ek;simpa using this
 have b9:∀{v},v∈ub->v∈L:=λ{v} u=>by rw[<-BC] at u;exact (cy.mp u).1
 have a0:∀{v},v∈uk->v∈L:=λ{v} u=>by rw[<-L'] at u;exact (cy.mp u).1
 have ca:∀{v},v∈ub->∃b∈bs,ρ v=Gm b:=λ{v} u=>by
  have:ρ v∈bs.map Gm:=by rw[<-eb];exact cS u
  obtain⟨b,hb,e⟩:=ay.mp this;exact⟨b,hb,e.symm⟩
 have b0:1<=L.length:=by
  have h1:=O.b0;have h2:ub.length<=L.length:=by rw[<-BC];exact dE _ _
  lia
 refine⟨p,L,ρ,U,hp,hR,b0,by lia,O.ok,?_,λH1 s1=>?_⟩
 .rw[BC]
  cases ub with
  |nil =>
   have:=O.b0;simp at lb;lia
  |cons a b=>rfl
 have c1:SX x H H1:=SX.of s1;have x1:=s1 _ _ hx;refine⟨p,_,U,oz<|.inl<|s1 _ _ hp,λl1 cl=>?_⟩;have s2:=Ay (o:=HO.lst L) cl;generalize upd H1 l1 (HO.lst L)=H2 at s2 |-;refine⟨C,c,_,s2 _ _ x1,T.cl,T.n_row_list,(by show 0<1000;decide),?_⟩;have c2:SX x H _:=(c1.trans<|SX.of s2).trans<|SX.up (o:=HO.ins C c<|Bo "row_list" (.ref l1) [])
 have x2:upd H2 x (HO.ins C c<|Bo "row_list" (.ref l1) []) x=_:=Ai;generalize upd H2 x (HO.ins C c (Bo "row_list" (.ref l1) []))=H3 at c2 x2 |-;have R3:Rows H3 ρ L:=λv u=>c2.tup hx<|hR v u
 refine⟨p,_,"board",ρ,U,c2.lst hx hp,R3,by lia,λD4 H4 dB s4 uu=>?_⟩;rw[BC] at uu;have bW:Cp K H4 D4 ub:=.inl<|.inl uu
 refine⟨⟨_,bW⟩,O3 (K:=K) (xs:=ub) (λ_=>_h) (λv=>[.str (ρ v).nm,(ρ v).rest.getD 0 .non]) bW (Aw (by have:=O.b5;lia)) (λy D g Z R k=>k g<|Al.refl g) (λy D _ g Z R k=>?_)<|λD5 H5 oQ dK s5 AJ Nc=>?_⟩
 .obtain⟨b,_,e⟩:=ca D;have M:=(R3 y<|b9 D).mono<|s4.trans Z
  rw[e] at M k;obtain⟨T0,rfl,M⟩:=M;exact⟨_,_,oz M,Aj (j:=1) U,_,_,oz M,Aj (j:=2) U,by show 2<=sizeLine;decide,λT6 bc=>k _ _ (Ay bc) ⟨T6,U,Ai⟩⟩
 rw[bX.mpr (λ_ _=>rfl)] at Nc;have bn:Paired (λb y=>TupAt H5 (bV b) y) bs oQ:=by
  have h1:=CG (F:=λ(r:R) y=>TupAt H5 [.str r.nm,r.rest.getD 0 .non] y) ρ Nc;rw[eb] at h1;exact Gj Gm h1
 clear Nc;refine⟨C,c,_,s5 _ _<|s4 _ _ x2,T.cl,T.n_board_list,HL (CK _ _ _) (by show 1<1000;decide),?_⟩;have u6:SX x H5 _:=SX.up (o:=HO.ins C c<|Bo "board_list" (.ref D5) (Bo "row_list" (.ref l1) []));have x5:=s5 _ _<|s4 _ _ x2
 have c6:SX x H _:=(c2.trans<|SX.of<|s4.trans s5).trans u6;have x6:upd H5 x (HO.ins C c<|Bo "board_list" (.ref D5) (Bo "row_list" (.ref l1) [])) x=_:=Ai;have IE:=u6.lst x5 AJ;have TC:=u6.pair x5 bn;generalize upd H5 x (HO.ins C c (Bo "board_list" (.ref D5) (Bo "row_list" (.ref l1) [])))=H6 at c6 x6 IE TC |-;clear u6;have R6:Rows H6 ρ L:=λv u=>c6.tup hx<|hR v u
 refine⟨p,_,"rank",ρ,U,c6.lst hx hp,R6,by lia,λD7 H7 dT s7 F6=>?_⟩;rw[Re] at F6;have b2:Cp K H7 D7 ur:=.inl<|.inl F6
 refine⟨⟨_,b2⟩,O3 (K:=K) (xs:=ur) (λ_=>_h) (λv=>[.str (ρ v).nm,(ρ v).rest.getD 0 .non,(ρ v).rest.getD 1 .non]) b2 (Aw (by have:=O.nr;lia)) (λy D g Z R k=>k g<|Al.refl g) (λy D _ g Z R k=>?_)<|λD8 H8 qo dy s8 Lv RS=>?_⟩
 .obtain⟨b,_,e⟩:=cx D;have M:=(R6 y<|inR D).mono<|s7.trans Z
  rw[e] at M k;obtain⟨T0,rfl,M⟩:=M;exact⟨_,_,oz M,Aj (j:=1) U,_,_,oz M,Aj (j:=2) U,_,_,oz M,Aj (j:=3) U,by show 3<=sizeLine;decide,λT6 bc=>k _ _ (Ay bc) ⟨T6,U,Ai⟩⟩
 rw[bX.mpr (λ_ _=>rfl)] at RS;have bB:Paired (λ(a:Th) y=>TupAt H8 (tV a) y) (rk.map b_) qo:=by
  have h1:=CG (F:=λ(r:R) y=>TupAt H8 [.str r.nm,r.rest.getD 0 .non,r.rest.getD 1 .non] y) ρ RS;rw[er] at h1;exact CG (F:=λ(a:Th) y=>TupAt H8 (tV a) y) b_<|Gj J_ h1
 clear RS;refine⟨C,c,_,s8 _ _<|s7 _ _ x6,T.cl,T.n_rank_list,HL (z3 (CK _ _ _)<|Nat.succ_le_succ<|CK _ _ _) (by show 2<1000;decide),?_⟩;have L9:=s7.trans s8;have x8:=L9 _ _ x6;have c8:SX x H H8:=c6.trans<|SX.of L9
 have MX:=L9 _ _ IE;have cQ:=Ao L9 TC;have u9:SX x H8 _:=SX.up (o:=HO.ins C c<|Bo "rank_list" (.ref D8) (Bo "board_list" (.ref D5) (Bo "row_list" (.ref l1) [])));have x9:upd H8 x (HO.ins C c<|Bo "rank_list" (.ref D8) (Bo "board_list" (.ref D5) (Bo "row_list" (.ref l1) []))) x=_:=Ai;have c9:=c8.trans u9;have NV:=u9.lst x8 MX;have OM:=u9.pair x8 cQ;have Pt:=u9.lst x8 Lv;have Nd:=u9.pair x8 bB;generalize an:Bo "rank_list" (.ref D8) (Bo "board_list" (.ref D5) (Bo "row_list" (.ref l1) []))=f9 at x9 c9 NV OM Pt Nd u9 |-;generalize upd H8 x (HO.ins C c f9)=H9 at x9 c9 NV OM Pt Nd |-;have n9:f9.length<=3:=by rw[<-an];exact bo (CK _ _ _)<|fo<|bo (CK _ _ _)<|fo<|CK _ _ _
 have b4:f9.lookup ("board_list" : _A)=_a (.ref D5):=by rw[<-an,Az,_l<|by decide,Az,_o U]
 have br:f9.lookup ("rank_list" : _A)=_a (.ref D8):=by rw[<-an,Az,_o U]
 have cg:∀m∈meths,f9.lookup m=none:=λm W=>by
  rw[<-an,Az,_l<|Ep m W _<|by decide,Az,_l<|Ep m W _<|by decide,Az,_l<|Ep m W _<|by decide];rfl
 clear u9 an;have R9:Rows H9 ρ L:=λv u=>c9.tup hx<|hR v u
 have bL:Cp K H9 p L:=.inl<|.inl<|c9.lst hx hp
 refine⟨⟨_,bL⟩,DG (K:=K) (xs:=L) (λv=>Mj (ρ v).w) id bL (Aw<|by lia) (λy D g Z R k=>?_) (λy D _ g Z R k=>k g<|Al.refl g)<|λxk zS dp aa IZ=>?_⟩
 .obtain⟨T0,rfl,M⟩:=(R9.mono Z) y D;exact⟨_,_,oz M,Aj (j:=0) U,_,.inr<|T.tK.sq _,U,U,k g<|Al.refl g⟩
 rw[on,L'] at IZ;refine⟨C,c,_,aa _ _ x9,T.cl,T.n_knob_rows,by lia,?_⟩;have IC:=aa _ _ x9;have ab:SX x zS _:=SX.up (o:=HO.ins C c<|Bo "knob_rows" (.ref xk) f9);have a5:upd zS x (HO.ins C c<|Bo "knob_rows" (.ref xk) f9) x=_:=Ai;have SB:=(c9.trans<|SX.of aa).trans ab;have Da:=ab.lst IC<|aa _ _ NV
 have x4:=ab.pair IC<|Ao aa OM
 have IS:=ab.lst IC<|aa _ _ Pt
 have F4:=ab.pair IC<|Ao aa Nd
 have KS:=ab.lst IC IZ;generalize upd zS x (HO.ins C c (Bo "knob_rows" (.ref xk) f9))=B7 at a5 SB Da x4 IS F4 KS |-;clear ab;have LP:=x4.length;have aN:Cp K B7 D5 oQ:=.inl<|.inl Da
 refine⟨C,c,_,.ref D5,a5,T.cl,T.n_board_list,by rw[Az,_l<|by decide];exact b4,⟨_,aN⟩,DG (K:=K) (xs:=oQ) (λ_=>_h) (PN B7 0) aN (Aw (by have:=O.b5;lia)) (λy D g Z R k=>k g<|Al.refl g) (λy D _ g Z R k=>?_)<|λb5 Xt dn KI DE=>?_⟩
 .obtain⟨b,_,ap⟩:=Dq x4 D;have e:=Hg ap 0;obtain⟨T0,rfl,M⟩:=ap.mono Z;refine⟨_,_,oz M,Aj (j:=0) U,?_⟩;have:=k g<|Al.refl g
  rw[e] at this;exact this
 rw[bX.mpr (λ_ _=>rfl),Ms 0 x4] at DE;have cO:(bs.map λb=>(bV b).getD 0 V.non)=(bs.map (·.1)).map V.str:=by
  rw[bi];rfl
 rw[cO] at DE;refine⟨b5,_,U,DE,by rw[ah];have:=O.b5;lia,O.nb,λB8 cb KW ds LH F' OE=>?_⟩;have sA:=KI.trans LH;have EL:=sA _ _ a5;refine⟨C,c,_,EL,T.cl,T.n_board_numbers,bg (CK _ _ _)<|by lia,?_⟩;have Y:SX x KW _:=SX.up (o:=HO.ins C c<|Bo "board_numbers" (.ref B8) (Bo "knob_rows" (.ref xk) f9));have a6:upd KW x (HO.ins C c<|Bo "board_numbers" (.ref B8) (Bo "knob_rows" (.ref xk) f9)) x=_:=Ai;have UP:=(SB.trans<|SX.of sA).trans Y;have GM:=Y.lst EL<|sA _ _ Da
 have F3:=Y.pair EL<|Ao sA x4
 have CM:=Y.lst EL<|sA _ _ IS
 have ya:=Y.pair EL<|Ao sA F4
 have J':=Y.lst EL<|sA _ _ KS
 have GA:=Y.dk EL F';generalize upd KW x (HO.ins C c (Bo "board_numbers" (.ref B8) (Bo "knob_rows" (.ref xk) f9)))=bS at a6 UP GM F3 CM ya J' GA |-;clear Y;have Bi:=ya.length;rw[ah] at Bi;have a3:Cp K bS D8 qo:=.inl<|.inl CM
 refine⟨C,c,_,.ref D8,a6,T.cl,T.n_rank_list,by rw[Az,_l<|by decide,Az,_l<|by decide];exact br,⟨_,a3⟩,DG (K:=K) (xs:=qo) (λ_=>_h) (PN bS 0) a3 (Aw (by have:=O.nr;lia)) (λy D g Z R k=>k g<|Al.refl g) (λy D _ g Z R k=>?_)<|λco dS dg cd C7=>?_⟩
 .obtain⟨b,_,ap⟩:=Dq ya D;have e:=Hg ap 0;obtain⟨T0,rfl,M⟩:=ap.mono Z;refine⟨_,_,oz M,Aj (j:=0) U,?_⟩;have:=k g<|Al.refl g
  rw[e] at this;exact this
 rw[bX.mpr (λ_ _=>rfl),Ms 0 ya] at C7;have ct:((rk.map b_).map λb=>(tV b).getD 0 V.non)=(rk.map (·.1)).map V.str:=by
  rw[bi,bi];rfl
 rw[ct] at C7;refine⟨co,_,U,C7,by rw[ah];have:=O.nr;lia,O.nrr,λFk BQ OQ Zs cR OB FG=>?_⟩;have se:=cd.trans cR;have BM:=se _ _ a6;refine⟨C,c,_,BM,T.cl,T.n_rank_numbers,bg (bo (CK _ _ _)<|fo<|CK _ _ _)<|by lia,?_⟩;have I:SX x OQ _:=SX.up (o:=HO.ins C c<|Bo "rank_numbers" (.ref Fk) (Bo "board_numbers" (.ref B8) (Bo "knob_rows" (.ref xk) f9)));have aw:upd OQ x (HO.ins C c<|Bo "rank_numbers" (.ref Fk) (Bo "board_numbers" (.ref B8) (Bo "knob_rows" (.ref xk) f9))) x=_:=Ai;have K0:=(UP.trans<|SX.of se).trans I;have EX:=I.lst BM<|se _ _ GM
 have CH:=I.pair BM<|Ao se F3
 have Cs:=I.lst BM<|se _ _ CM
 have EO:=I.pair BM<|Ao se ya
 have AK:=I.lst BM<|se _ _ J'
 have DT:=I.dk BM<|se _ _ GA
 have Cn:=I.dk BM OB;generalize A:Bo "rank_numbers" (.ref Fk) (Bo "board_numbers" (.ref B8) (Bo "knob_rows" (.ref xk) f9))=d at aw K0 EX CH Cs EO AK DT Cn I |-;generalize upd OQ x (HO.ins C c d)=ON at aw K0 EX CH Cs EO AK DT Cn |-;have b6:d.length<=6:=by rw[<-A];exact bo (CK _ _ _)<|fo<|bo (CK _ _ _)<|fo<|bo (CK _ _ _)<|fo n9
 have aZ:d.lookup ("board_list" : _A)=_a (.ref D5):=by rw[<-A,Az,_l<|by decide,Az,_l<|by decide,Az,_l<|by decide];exact b4
 have a1:d.lookup ("rank_list" : _A)=_a (.ref D8):=by rw[<-A,Az,_l<|by decide,Az,_l<|by decide,Az,_l<|by decide];exact br
 have bb:d.lookup ("rank_numbers" : _A)=_a (.ref Fk):=by rw[<-A,Az,_o U]
 have bm:d.lookup ("board_numbers" : _A)=_a (.ref B8):=by rw[<-A,Az,_l<|by decide,Az,_o U]
 have ac:d.lookup ("knob_rows" : _A)=_a (.ref xk):=by rw[<-A,Az,_l<|by decide,Az,_l<|by decide,Az,_o U]
 have bN:∀m∈meths,d.lookup m=none:=λm W=>by
  rw[<-A,Az,_l<|Ep m W _<|by decide,Az,_l<|Ep m W _<|by decide,Az,_l<|Ep m W _<|by decide];exact cg m W
 clear I A;have a4:Cp K ON xk uk:=.inl<|.inl AK
 have cv:Rows ON ρ L:=λv u=>K0.tup hx<|hR v u
 refine⟨C,c,_,_,aw,T.cl,T.n_knob_rows,ac,⟨_,a4⟩,DG (K:=K) (xs:=uk) (λ_=>_h) (λv=>.str (ρ v).nm) a4 (Aw (by have:=O.nk;lia)) (λy D g Z R k=>k g<|Al.refl g) (λy D _ g Z R k=>?_)<|λcN RH ZE G0 CY=>?_⟩
 .obtain⟨T0,rfl,M⟩:=(cv.mono Z) y<|a0 D;exact⟨_,_,oz M,Aj (j:=1) U,k g<|Al.refl g⟩
 rw[bX.mpr (λ_ _=>rfl)] at CY;have cp:(uk.map λv=>V.str (ρ v).nm)=(ks.map (·.nm)).map V.str:=by
  rw[<-ek,bi,bi];rfl
 rw[cp] at CY;refine⟨cN,_,U,CY,by rw[ah];have:=O.nk;lia,O.nn,λAY R' LX dm LZ X2 YE=>?_⟩;have qB:=G0.trans LZ;have BG:=qB _ _ aw;refine⟨C,c,_,BG,T.cl,T.n_knob_numbers,by lia,?_⟩;have S:SX x LX _:=SX.up (o:=HO.ins C c<|Bo "knob_numbers" (.ref AY) d);have bl:upd LX x (HO.ins C c<|Bo "knob_numbers" (.ref AY) d) x=_:=Ai;have Si:=(K0.trans<|SX.of qB).trans S;have C8:=S.lst BG<|qB _ _ EX
 have CA:=S.pair BG<|Ao qB CH
 have GW:=S.lst BG<|qB _ _ Cs
 have KB:=S.pair BG<|Ao qB EO
 have F7:=S.lst BG<|qB _ _ AK
 have JE:=S.dk BG<|qB _ _ DT
 have FR:=S.dk BG<|qB _ _ Cn
 generalize upd LX x (HO.ins C c (Bo "knob_numbers" (.ref AY) d))=TD at bl Si C8 CA GW KB F7 JE FR |-;clear S;refine⟨C,c,_,_,bl,T.cl,T.n_board_list,by rw[Az,_l<|by decide];exact aZ,D5,bs.map sJ,oQ,U,C8,CG (F:=λ(a:Th) y=>TupAt TD (tV a) y) sJ CA,(by rw[Ι];have:=O.b5;lia),(λa ha=>by obtain⟨b,hb,rfl⟩:=xj.mp ha;have:=O.sz b hb;show b.2<=97;lia),λBS qv IQ c5 As Au IX=>?_⟩;have c0:(bs.map sJ).map tN=bs:=by
  rw[bi];exact on bs
 rw[c0] at IX;have zk:=As _ _ bl;refine⟨C,c,_,zk,T.cl,T.n_key_places,bg (CK _ _ _)<|by lia,?_⟩;have G:SX x IQ _:=SX.up (o:=HO.ins C c<|Bo "key_places" (.ref BS) (Bo "knob_numbers" (.ref AY) d));have a7:upd IQ x (HO.ins C c<|Bo "key_places" (.ref BS) (Bo "knob_numbers" (.ref AY) d)) x=_:=Ai;have US:=(Si.trans<|SX.of As).trans G;have FD:=G.lst zk<|As _ _ C8
 have KM:=G.pair zk<|Ao As CA
 have Ev:=G.lst zk<|As _ _ GW
 have CF:=G.pair zk<|Ao As KB
 have FC:=G.lst zk<|As _ _ F7
 have FF:=G.dk zk<|As _ _ JE
 have GV:=G.dk zk<|As _ _ FR
 have GH:=G.lst zk Au;have Ki:=G.pair zk IX;generalize upd IQ x (HO.ins C c (Bo "key_places" (.ref BS) (Bo "knob_numbers" (.ref AY) d)))=dP at a7 US FD KM Ev CF FC FF GV GH Ki |-;clear G;refine⟨C,c,_,_,a7,T.cl,T.n_rank_list,by rw[Az,_l<|by decide,Az,_l<|by decide];exact a1,D8,rk.map b_,qo,U,Ev,CF,by rw[ah];exact O.nr,(λa ha=>by obtain⟨r,hr,rfl⟩:=ay.mp ha;exact O.nz r hr),λFI EZ y9 dd vb MU IU=>?_⟩;have cn:(rk.map b_).map tN=rk.map nW:=by
  rw[bi];rfl
 rw[cn] at IU;have xz:=vb _ _ a7;refine⟨C,c,_,xz,T.cl,T.n_pipe_places,bg (bo (CK _ _ _)<|fo<|CK _ _ _)<|by lia,?_⟩;have n:SX x y9 _:=SX.up (o:=HO.ins C c<|Bo "pipe_places" (.ref FI) (Bo "key_places" (.ref BS) (Bo "knob_numbers" (.ref AY) d)));have as:upd y9 x (HO.ins C c<|Bo "pipe_places" (.ref FI) (Bo "key_places" (.ref BS) (Bo "knob_numbers" (.ref AY) d))) x=_:=Ai;have JA:=(US.trans<|SX.of vb).trans n;have DO:=n.lst xz<|vb _ _ FD
 have DU:=n.pair xz<|Ao vb KM
 have EM:=n.lst xz<|vb _ _ FC
 have CC:=n.lst xz<|vb _ _ Ev
 have Db:=n.pair xz<|Ao vb CF
 have CS:=n.lst xz MU;have EI:=n.pair xz IU;have C0:=n.dk xz<|vb _ _ FF
 have AE:=n.dk xz<|vb _ _ GV
 have Co:=n.lst xz<|vb _ _ GH
 have EE:=n.pair xz<|Ao vb Ki
 generalize J:Bo "pipe_places" (.ref FI) (Bo "key_places" (.ref BS) (Bo "knob_numbers" (.ref AY) d))=B at as JA DO DU EM CC Db CS EI C0 AE Co EE n |-;generalize upd y9 x (HO.ins C c B)=SO at as JA DO DU EM CC Db CS EI C0 AE Co EE |-;have dM:B.length<=9:=by rw[<-J];exact bo (CK _ _ _)<|fo<|bo (CK _ _ _)<|fo<|bo (CK _ _ _)<|fo b6
 have z:∀{f:_A}{v:V},¬ f = "pipe_places"->¬ f = "key_places"->¬ f = "knob_numbers"->d.lookup f=_a v->B.lookup f=_a v:=λh1 h2 h3 h=>by
  rw[<-J,Az,_l h1,Az,_l h2,Az,_l h3];exact h
 have NE:=z (by decide) (by decide) (by decide) aZ;have IT:=z (by decide) (by decide) (by decide) bm;have MG:=z (by decide) (by decide) (by decide) a1;have a8:B.lookup ("pipe_places" : _A)=_a (.ref FI):=by rw[<-J,Az,_o U]
 have B4:=z (by decide) (by decide) (by decide) bb;have GB:=z (by decide) (by decide) (by decide) ac;have a9:B.lookup ("key_places" : _A)=_a (.ref BS):=by rw[<-J,Az,_l<|by decide,Az,_o U]
 have bK:∀m∈meths,B.lookup m=none:=λm W=>by
  rw[<-J,Az,_l<|Ep m W _<|by decide,Az,_l<|Ep m W _<|by decide,Az,_l<|Ep m W _<|by decide];exact bN m W
 clear n J z;have cs:Rows SO ρ L:=λv u=>JA.tup hx<|hR v u
 refine⟨C,c,_,_,as,T.cl,T.n_rank_numbers,B4,p,Fk,L,ρ,rk,BQ,U,JA.lst hx hp,cs,by lia,AE,λi r hr=>FG i r.1<|by rw[ar,hr];rfl,O.nrr,O.ln,λFc II da sN ND=>?_⟩;have wP:=sN _ _ as;refine⟨C,c,_,wP,T.cl,T.n_knob_lines,by lia,?_⟩;have s:SX x II _:=SX.up (o:=HO.ins C c<|Bo "knob_lines" (.ref Fc) B);have b3:upd II x (HO.ins C c<|Bo "knob_lines" (.ref Fc) B) x=_:=Ai;have L3:=(JA.trans<|SX.of sN).trans s;have F1:=s.lst wP<|sN _ _ DO
 have Kk:=s.pair wP<|Ao sN DU
 have JU:=s.lst wP<|sN _ _ EM
 have GY:=s.lst wP<|sN _ _ CC
 have IB:=s.pair wP<|Ao sN Db
 have HK:=s.lst wP<|sN _ _ CS
 have HM:=s.pair wP<|Ao sN EI
 have Ic:=T_ ND s wP;have IM:=s.dk wP<|sN _ _ C0
 have KA:=s.dk wP<|sN _ _ AE
 have FM:=s.lst wP<|sN _ _ Co
 have HA:=s.pair wP<|Ao sN EE
 generalize upd II x (HO.ins C c (Bo "knob_lines" (.ref Fc) B))=S1 at b3 L3 F1 Kk JU GY IB HK HM Ic IM KA FM HA |-;clear s;have b1:Rows S1 ρ L:=λv u=>L3.tup hx<|hR v u
 refine⟨p,_,"step",ρ,U,L3.lst hx hp,b1,by lia,λcc cz c3 EK Jn=>?_⟩;rw[O.none] at Jn;have a2:Cp K cz cc []:=.inl<|.inl Jn
 refine⟨⟨_,a2⟩,DG (K:=K) (xs:=[]) (λ_=>_h) id a2 (Aw<|by simp) (λy D=>nomatch D) (λy D=>nomatch D)<|λUU UY YU ZU c4=>?_⟩;have oI:=EK.trans ZU;have vF:=oI _ _ b3;refine⟨C,c,_,vF,T.cl,T.n_step_sets,bg (CK _ _ _)<|by lia,?_⟩;have t:SX x UY _:=SX.up (o:=HO.ins C c<|Bo "step_sets" (.ref UU) (Bo "knob_lines" (.ref Fc) B));have X:∀{f:_A},¬ f = "step_sets"->¬ f = "knob_lines"->(Bo "step_sets" (.ref UU) (Bo "knob_lines" (.ref Fc) B)).lookup f=B.lookup f:=λh1 h2=>by rw[Az,_l h1,Az,_l h2]
 refine q _ ⟨⟨⟨c,_,D5,B8,BS,xk,oQ,qv,uk,cb,Ai,(X (by decide)<|by decide).trans NE,(X (by decide)<|by decide).trans IT,(X (by decide)<|by decide).trans a9,(X (by decide)<|by decide).trans GB,
  λm W=>(X (Ep m W _<|by decide)<|Ep m W _<|by decide).trans<|bK m W,t.lst vF<|oI _ _ F1,t.pair vF<|Ao oI Kk,t.dk vF<|oI _ _ IM,λi b hb=>OE i b.1<|by rw[ar,hb];rfl,t.lst vF<|oI _ _ FM,t.pair vF<|Ao oI HA,t.lst vF<|oI _ _ JU,?_⟩,O.b5,O.sz,by have:=O.nk;lia⟩,⟨c,_,D8,Fk,FI,Fc,qo,EZ,BQ,Ai,(X (by decide)<|by decide).trans MG,(X (by decide)<|by decide).trans B4,(X (by decide)<|by decide).trans a8,by rw[Az,_l<|by decide,Az,_o U],t.lst vF<|oI _ _ GY,t.pair vF<|Ao oI IB,t.dk vF<|oI _ _ KA,λi r hr=>FG i r.1<|by rw[ar,hr];rfl,t.lst vF<|oI _ _ HK,t.pair vF<|Ao oI HM,T_ (Ic.mono oI) t vF⟩,O.nr,O.nz,?_⟩ ((L3.trans<|SX.of oI).trans t)
 case refine_2=>rw[Xe O.ln,<-ek,ah,L']
 rw[<-ek];refine CG (F:=λ(r:R) y=>TupAt _ r.v y) ρ ?_;have bR:Rows _ ρ uk:=λv u=>t.tup vF<|(b1.mono oI) v<|a0 u
 generalize upd UY x _=bP at bR |-;have ch:∀l:_b V,(∀v∈l,TupAt bP (ρ v).v v)->Paired (λv y=>TupAt bP (ρ v).v y) l l:=by
  intro l
  induction l with
  |nil=>intro _;exact .nil
  |cons a b ih=>intro h;exact .cons (h a<|be ..)<|ih λv u=>h v<|aT _ u
 exact ch uk bR
inductive iu(C:_g)(vs:_b V)(H:Hp)(Q:VK)(f6:XK):Prop
|mk(x:_g)(bs:_b (_A×_d))(ks:_b R)(_:vs=[.ref x])(_:EY C H x bs ks)(_:∀D oQ H',H D=_n->Al H H'->H' D=_a (.lst oQ)->Paired (λb y=>TupAt H' (bV b) y) bs oQ->Q (.ref D) H')
theorem AAG:Aq gm gm<|Ae sOb:=Bh
include N T in
theorem lH:BX P w K mg base BW 1 aD.Ob gm<|iu C:=by
 refine N.FOb.1.Dl AAG λH t Q E D h=>?_;obtain⟨x,bs,F,rfl,O,q⟩:=h;refine⟨_,Ag<|Ax<|Dw Es U T.list eD<|Aa (De (pv 0) U) Ab,?_⟩;obtain⟨⟨i,fs,e,L,kp,s,b,m,u,d,j,f,k,G,J,o,g,c,p,y,A,I,z,n⟩,r,B,v⟩:=id O;exact⟨C,i,_,_,j,T.cl,T.n_board_list,f,e,b,U,oz<|.inl g,λl a=>q l b _ a (Ay a) Ai<|Ao (Ay a) c⟩
inductive Zn(C:_g)(vs:_b V)(H:Hp)(Q:VK)(f6:XK):Prop
|mk(x:_g)(bs:_b (_A×_d))(ks:_b R)(_:vs=[.ref x])(_:EY C H x bs ks)(_:Q (.int ((GQ bs).length:_d)) H)
theorem scOc:Aq gm gm<|Ae sOc:=Bh
include N T in
theorem Ze:BX P w K mg base BW 1 aD.Oc gm<|Zn C:=by
 refine N.FOc.1.Dl scOc λH p Q E B h=>?_;obtain⟨x,bs,D,rfl,O,q⟩:=h;refine⟨_,Ag<|Ax<|A_ BV U T.len dv<|Aa (De (pv 0) U) Ab,?_⟩;obtain⟨⟨f,fs,s,I,kp,o,z,a,r,b,g,v,i,d,G,l,F,k,m,u,c,e,y,j⟩,n,A,t⟩:=id O;refine⟨C,f,_,_,g,T.cl,T.n_key_places,d,kp,a,U,oz<|.inl c,?_⟩;rw[<-e.length];exact q
inductive dj(C:_g)(vs:_b V)(H:Hp)(Q:VK)(f6:XK):Prop
|mk(x:_g)(bs:_b (_A×_d))(ks:_b R)(j:_d)(b:_A×_d)(n:_i)(_:vs=[.ref x,.str b.1,.int n])(_:EY C H x bs ks)(_:bs[j]? = _a b)(_:∀H',Al H H'->Q (.int ((((bs.take j).map (·.2)).sum:_d)+n)) H')
theorem scOk:Aq kC kC<|Ae sOk:=Bh
include N T in
theorem j5:BX P w K mg base BW 2 aD.Ok kC<|dj C:=by
 refine N.FOk.1.Dl scOk λH vs Q E p h=>?_;obtain⟨x,bs,ks,j,b,n,rfl,O,l,q⟩:=h;have v:=Fi p;refine⟨_,Ag<|Ax<|Ar Bt (BL N.FCa (lC N T) p<|Aa (G7 RL (De (pv 0) U) JQ<|Ej<|Hf v (De (pv 0) U) (pv 1)<|λ_ _=>rfl) Ab)<|pv 2,?_⟩;obtain⟨⟨r,fs,I,bn,kp,kr,c,X,rL,B,s,M,t,l3,l4,lm,V,m,D,J,h6,h7,h8,Y⟩,xl,S,xA⟩:=id O;have Z:j<bs.length:=(ag.mp l).1;have hl:=m.length;have g:=Gf.k (k:=δ b.1) D;rw[J j b l] at g;refine⟨C,r,_,_,s,T.cl,T.n_board_list,M,C,r,_,_,s,T.cl,T.n_board_numbers,t,_,g,I,c,U,oz V,λd z=>?_⟩;have i:=Ay (o:=HO.lst<|HQ c _n<|some (j:_i)) z;have e:upd H d (HO.lst<|HQ c _n<|some (j:_i)) d=_:=Ai;generalize upd H d (HO.lst (HQ c _n (_a (j:_i))))=u at i e |-;rw[OJ c j (by lia)] at e;refine⟨d,(bs.take j).map sJ,c.take j,U,e,CG (F:=λ(a:Th) y=>TupAt u (tV a) y) sJ<|IK (Ao i m) j,by rw[Ι,I'];lia,(λa A=>by obtain⟨L,f,rfl⟩:=xj.mp A;exact z3 (S L<|List.mem_of_mem_take f)<|by show 61<=100;decide),λR W=>?_⟩;have G:((bs.take j).map sJ).map (λa=>a.2.1)=(bs.take j).map (·.2):=by
  rw[bi];rfl
 rw[G];exact q R<|i.trans W
inductive eZ(C:_g)(vs:_b V)(H:Hp)(Q:VK)(f6:XK):Prop
|mk(x:_g)(bs:_b (_A×_d))(ks:_b R)(i:_d)(qd:_d×_d)(_:vs=[.ref x,.int (i:_d)])(_:EY C H x bs ks)(_:(GQ bs)[i]? = _a qd)(_:∀y,TupAt H (qV qd) y->Q y H)
theorem zM:Aq q3 q3<|Ae sOo:=Bh
include N T in
theorem lK:BX P w K mg base BW 1 aD.Oo q3<|eZ C:=by
 refine N.FOo.1.Dl zM λH v Q E L h=>?_;obtain⟨x,bs,M,i,u,rfl,O,e,q⟩:=h;refine⟨_,Ag<|Ax<|Av Et (De (pv 0) U) (pv 1)<|λ_ _=>rfl,?_⟩;obtain⟨⟨k,fs,A,V,kp,t,I,b,z,c,l,F,m,g,S,p,R,o,r,D,f,j,G,n⟩,s,J,B⟩:=id O;obtain⟨y,a,d⟩:=Cj j e;exact⟨C,k,_,_,l,T.cl,T.n_key_places,g,b,_,oz f,Aj a,q y d⟩
inductive Z5(C:_g)(vs:_b V)(H:Hp)(Q:VK)(f6:XK):Prop
|mk(x:_g)(bs:_b (_A×_d))(ks:_b R)(k j1 j2:_d)(b1 b2:_A×_d)(nm:_A)(s:_i)(_:vs=[.ref x,.int (k:_d)])(_:EY C H x bs ks)(_:ks[k]? = _a ⟨"coupler",nm,[.str b1.1,.str b2.1,.int s]⟩)(_:bs[j1]? = _a b1)(_:bs[j2]? = _a b2)(_:∀y H',Al H H'->TupAt H' [.int (j1:_d),.int (j2:_d),.int s] y->Q y H')
inductive Vu(C:_g)(vs:_b V)(H:Hp)(Q:VK)(f6:XK):Prop
|mk(x:_g)(bs:_b (_A×_d))(ks:_b R)(k j1:_d)(b1:_A×_d)(wd nm:_A)(rs:_b V)(_:vs=[.ref x,.int (k:_d)])(_:EY C H x bs ks)(_:ks[k]? = _a ⟨wd,nm,.str b1.1::rs⟩)(_:bs[j1]? = _a b1)(_:Q (.int (j1:_d)) H)
theorem scBk:Aq eH eH<|Ae sBk:=Bh
include N T in
theorem Yk:BX P w K mg base BW 1 aD.Bk eH<|Vu C:=by
 refine N.FBk.1.Dl scBk λH I Q E u h=>?_;obtain⟨x,bs,Z,k,v,c,R,nm,V,rfl,O,r,a,q⟩:=h;have i:=Fi u;refine⟨_,Ag<|Ax<|Hf i (De (pv 0) U) (Av (Am (K:=K) U) (Av Et (De (pv 0) U) (pv 1)<|λ_ _=>rfl) Ac<|λ_ _=>rfl)<|λ_ _=>rfl,?_⟩;obtain⟨⟨d,fs,J,bn,kp,G,W,A,p,m,e,M,g,l3,z,D,h2,B,n,s,X,h7,t,l⟩,F,Y,L⟩:=id O;obtain⟨y,f,S,rfl,o⟩:=Cj l r;have b:=Gf.k (k:=δ c.1) n;rw[s v c a] at b;exact⟨C,d,_,_,e,T.cl,T.n_board_numbers,g,C,d,_,_,e,T.cl,T.n_knob_rows,z,p,_,oz t,Aj f,_,_,oz o,Aj (j:=2) U,_,b,q⟩
theorem ut:Aq ["self","knob","row"] eH (Ae sOp):=Bh
include N T in
theorem xu:BX P w K mg base BW 2 aD.Op eH<|Z5 C:=by
 refine N.FOp.1.Dl ut λH X Q E r h=>?_;obtain⟨x,bs,J,k,s,u,b,o,nm,s0,rfl,O,m,a,e,q⟩:=h;have A:=Fi r;refine⟨_,(Af (BP (i:=2) ut.nd U (Or.inl U)<|Av Et (De (pv 0) U) (pv 1)<|λ_ _=>rfl)
  (Ag<|Ax<|Bx<|Aa (NB (pv 0) T.cl N.FBk (Yk N T) r<|Aa (pv 1) Ab)<|Aa (Hf A (De (pv 0) U) (Av (Am (K:=K) U) (pv 2) Ac<|λ_ _=>rfl)<|λ_ _=>rfl)<|Aa (Av (Am (K:=K) U) (pv 2) Ac<|λ_ _=>rfl) Ab)),?_⟩
 obtain⟨⟨c,fs,Y,bn,kp,W,oQ,R,G,D,d,l1,v,l3,M,F,h2,S,g,n,h6,h7,I,B⟩,V,wv,Z⟩:=id O;obtain⟨y,t,T0,rfl,l⟩:=Cj B m;have z:=Gf.k (k:=δ b.1) g;rw[n s b a] at z;have f:=Gf.k (k:=δ o.1) g;rw[n u o e] at f;refine⟨C,c,_,_,d,T.cl,T.n_knob_rows,M,G,_,oz I,Aj t,?_⟩;refine⟨c,fs,d,F _<|by decide,x,bs,J,k,s,b,_,_,_,U,O,m,a,?_⟩;refine⟨C,c,_,_,d,T.cl,T.n_board_numbers,v,_,_,oz l,Aj (j:=3) U,_,f,?_⟩;exact⟨_,_,oz l,Aj (j:=4) U,by show 3<=sizeLine;decide,λp L=>q _ _ (Ay L) ⟨p,U,Ai⟩⟩
inductive cj(C:_g)(vs:_b V)(H:Hp)(Q:VK)(f6:XK):Prop
|mk(x:_g)(bs:_b (_A×_d))(ks:_b R)(k i j1 j2:_d)(b1 b2:_A×_d)(qd:_d×_d)(nm:_A)(s:_i)(_:vs=[.ref x,.int (k:_d),.int (i:_d)])(_:EY C H x bs ks)(_:(GQ bs)[i]? = _a qd)(_:ks[k]? = _a ⟨"coupler",nm,[.str b1.1,.str b2.1,.int s]⟩)(_:bs[j1]? = _a b1)(_:bs[j2]? = _a b2)(_:∀H',Al H H'->Q (Sg bs j1 j2 s qd b2.2) H')
theorem bu:Aq ["organ","knob","key","coupler","place","second","number"] p4 (Ae sLe):=Bh
include N T in
theorem tR:BX P w K mg base BW 3 aD.Le p4<|cj C:=by
 refine N.FLe.1.Dl bu λH vs Q E o h=>?_;obtain⟨x,bs,l,k,i,y,j2,b1,r,b,nm,g,rfl,O,hq,hk,R,d,q⟩:=h;refine⟨_,(Af (Cg (Dg<|Ij Er G_ Ac (pv 2)<|J5 (pv 0) T.cl N.FOc (Ze N T) o) (Ag<|Ax Ot) Be)
  (Af (BP (i:=3) bu.nd U (Or.inl U)<|NB (pv 0) T.cl N.FOp (xu N T) o<|Aa (pv 1) Ab)
  (Af (BP (i:=4) bu.nd U (Or.inl U)<|NB (pv 0) T.cl N.FOo (lK N T) o<|Aa (pv 2) Ab)
  (Af (BP (i:=5) bu.nd U (Or.inl U)<|Av (Bu (K:=K) U) (J5 (pv 0) T.cl N.FOb (lH N T) o) (Av (Am (K:=K) U) (pv 3) Ac<|λ_ _=>rfl)<|λ_ _=>rfl)
  (Af (BP (i:=6) bu.nd U (Or.inl U)<|Ar Bt (Av (Am (K:=K) U) (pv 4) Ac<|λ_ _=>rfl)<|Av (Am (K:=K) U) (pv 3) Ac<|λ_ _=>rfl)
  (Af (Cg (PW.pt<|HD (Bb QH (Av (Am (K:=K) U) (pv 4) Ac<|λ_ _=>rfl) (Av (Am (K:=K) U) (pv 3) Ac<|λ_ _=>rfl)<|Bc _)<|Gh<|Dg<|Ij Er G_ Ac (pv 6)<|Av (Am (K:=K) U) (pv 5) Ac<|λ_ _=>rfl) (Ag<|Ax Ot) Be)
  (Ag<|Ax<|NB (pv 0) T.cl N.FOk (j5 N T) o<|Aa (Av (Am (K:=K) U) (pv 5) Ac<|λ_ _=>rfl)<|Aa (pv 6) Ab))))))),?_⟩
 have hi:i<(GQ bs).length:=(ag.mp hq).1;have a:∀{S:Hp},EY C S x bs l->∃f fs,S x=_a (.ins C f fs)/\∀m∈meths,fs.lookup m=none:=λO'=>by
  obtain⟨⟨f,fs,_,_,_,_,_,_,_,_,h1,_,_,_,_,v,_⟩,_⟩:=O';exact⟨f,fs,h1,v⟩
 obtain⟨f,fs,W,v⟩:=a O;refine Ed (λ_=>?_)<|λz=>_D (_v<|by lia) z
 refine⟨f,fs,W,v _<|by decide,x,bs,l,U,O,?_⟩;refine ib ?_;rw[_v (by lia:(i:_i)<((GQ bs).length:_d))];refine PQ ?_;refine⟨f,fs,W,v _<|by decide,x,bs,l,k,y,j2,b1,r,nm,g,U,O,hk,R,d,λy1 H1 L A=>?_⟩;have p:=O.mono L;obtain⟨Z,Y,t,XA⟩:=a p;refine⟨Z,Y,t,XA _<|by decide,x,bs,l,i,b,U,p,hq,λy2 AT=>?_⟩;refine⟨Z,Y,t,XA _<|by decide,x,bs,l,U,p,λD oQ H2 hD e F OL=>?_⟩;obtain⟨T1,rfl,M⟩:=A.mono e;obtain⟨T2,rfl,X⟩:=AT.mono e;obtain⟨v3,EU,T3,rfl,zC⟩:=Cj OL d;refine⟨_,_,oz M,Aj (j:=1) U,oQ,_,oz F,Aj EU,?_⟩;refine⟨_,_,oz X,Aj (j:=1) U,_,_,oz M,Aj (j:=2) U,?_⟩;refine⟨_,_,oz X,Aj (j:=0) U,_,_,oz M,Aj (j:=0) U,U,?_⟩;have fin:=q H2<|L.trans e
 unfold Sg at fin;by_cases n:b.1=y
 .have z:(!decide (V.int (b.1:_d)=V.int (y:_d)))=false:=by rw[n];simp
  rw[z];refine PQ ?_;refine Ed (λu=>?_)<|λu=>?_
  .refine⟨_,_,oz zC,Aj (j:=1) U,?_⟩;have c:0<=(b.2:_i)+g:=_G u;by_cases s:(b.2:_i)+g<(r.2:_d)
   .have I:decide ((b.2:_i)+g<(r.2:_d))=true:=_v s;refine ib ?_;rw[I];refine PQ ?_;rw[_o ⟨n,c,s⟩] at fin;obtain⟨GS,J,B,F9⟩:=a<|p.mono e;refine⟨GS,J,B,F9 _<|by decide,_,_,oz zC,Aj (j:=0) U,x,bs,l,j2,r,_,U,p.mono e,d,λH3 s3=>?_⟩;have G:=q H3<|(L.trans e).trans s3
    unfold Sg at G;rw[_o ⟨n,c,s⟩] at G;exact G
   .have I:decide ((b.2:_i)+g<(r.2:_d))=false:=_L s;refine ib ?_;rw[I];refine Mq ?_;rw[_l λz=>s z.2.2] at fin;exact fin
  .have c:decide (0<=(b.2:_i)+g)=false:=(fq _).mp u;rw[_l λz=>_D (_v z.2.1) u] at fin;exact fin
 .have z:(!decide (V.int (b.1:_d)=V.int (y:_d)))=true:=by
   rw[_L λz=>n (by have:=V.int.inj z;lia)];rfl
  rw[z];refine Mq ?_;rw[_l λz=>n z.1] at fin;exact fin
abbrev nV(l:_b _d):_b V:=l.map λn:_d=>V.int (n:_i)
inductive pF(vs:_b V)(H:Hp)(Q:VK)(f6:XK):Prop
|mk(i:_i)(_:vs=[.int i])(_:Q (.bl (decide (0<=i) && decide (i<1200))) H)
theorem sr:Aq fv fv<|Ae sMy:=Bh
include N T in
theorem um:BX P w K mg base BW 2 aD.My fv pF:=by
 refine N.FMy.1.Dl sr λH e Q E c h=>?_;obtain⟨i,rfl,q⟩:=h;obtain⟨d,b⟩:=T.below;refine⟨_,Ag<|Ax<|Dv (BL N.FWh (Tv N T) c<|Aa (pv 0) Ab)<|Du<|G3 Er G_ Ac (pv 0)<|CW (v:=.int 1200) U b ⟨d,U⟩,?_⟩;refine⟨i,U,Mq ?_⟩;refine Ed (λa=>?_)<|λa=>?_
 .rw[a,fw] at q;exact q
 .rw[(fq _).mp a,iX] at q;exact q
inductive Vr(vs:_b V)(H:Hp)(Q:VK)(f6:XK):Prop
|mk(p:_g)(l:_b _d)(_:vs=[.ref p])(_:H p=_a (.lst (nV l)))(_:l.length<=500)(_:∀n∈l,n<1200)(_:∀H',Al H H'->Q (.int (Wd.mk l:_d)) H')
theorem vo(l:_b _d)(n:_d):Ī ((Wd.mk l:_d):_i) (1 * 2 ^ ((n:_d):_i).toNat)=((Wd.mk (l++[n]):_d):_i):=by
 rw[om,aI,Hn,Qp,Wd.gq]
theorem gY:Aq ["numbers","some","number"] ["numbers"] (Ae zP):=Bh
include N T in
theorem Ym:BX P w K mg base BW 3 aD.St ["numbers"] Vr:=by
 refine N.FSt.1.Dl gY λH G Q E A h=>?_;obtain⟨p,l,rfl,t,C,o,q⟩:=h;refine⟨_,(Af (Cg (PW.pt<|HD (Dg<|Dz<|A_ Di U T.isin bv<|Aa (pv 0)<|Aa (Ek (v:=.ty "list") U T.list eD U) Ab)<|Gh<|Dg<|Dz<|A_ (Kd U) U T.all iP<|Aa (Bm U (BR (osc:=Ae zP) (N:=["numbers","some","number"]) U U<|by decide) (BZ<|pv 0) (λ_ _ _ _=>CJ)<|λ_ _ _ _=>(BL N.FMy (um N T) A<|Aa (pv 0) Ab)) Ab) (Ag FQ) Be)
  (Af (BP (i:=1) gY.nd U (Or.inl U) Ac)
  (Af (DQ _U U (BZ<|pv 0) (Bg (i:=2) gY.nd U<|Or.inl U)<|Ag<|BP (i:=1) gY.nd U (Or.inl U)<|Ar cM (pv 1)<|Ar cL Ac<|pv 2)
  (Ag<|Ax<|pv 1)))),?_⟩
 have g:Cp K H p<|nV l:=.inl<|.inl t
 refine⟨_,"list",_,_,U,.lst t,Wx,PQ ?_⟩;have m:(nV l).length<sizeLine:=Aw<|by simp;lia
 refine⟨⟨_,g⟩,DG (K:=K) (xs:=nV l) (λ_=>_h) (λ_=>.bl _h) g m (λx r b c R k=>k b<|Al.refl b) (λx r _ b c R k=>?_)<|λD b F c B=>?_⟩
 .obtain⟨n,d,rfl⟩:=ay.mp r;refine⟨(n:_i),U,?_⟩;have e:(decide ((0:_i)<=(n:_i)) && decide ((n:_i)<1200))=true:=by
   have:=o n d;simp;lia
  rw[e];exact k b<|Al.refl b
 .refine⟨D,(nV l).map λ_=>_h,U,.inl<|.inl ?_,?_⟩
  .rw[B,bX.mpr<|λ_ _=>rfl];simp
  .have e:((nV l).map λ_=>_h).all id=true:=by simp
   rw[e];refine⟨⟨_,c.seq g⟩,Dk (K:=K) (a:=p) (xs:=nV l) (λi σ f=>f=b/\∃j,σ=[_a (.ref p),_a<|.int (Wd.mk (l.take i):_d),j]) ⟨U,_,U⟩ (λi σ f _ h=>by rw[h.1];exact c.seq g) ?_ ?_⟩
   .rintro i y σ f s ⟨rfl,j,rfl⟩;rw[ar] at s;obtain⟨n,d,rfl⟩:=aS.mp s;have u:=o n<|am d
    refine⟨⟨by lia,by lia,by decide⟩,?_⟩;refine⟨U,_a<|.int (n:_i),?_⟩;try dsimp only
    rw[vo,ck,d];rfl
   .rintro σ f ⟨rfl,j,rfl⟩;have z:l.take (nV l).length=l:=Č<|by simp
    rw[z];exact q _ c
inductive cX(vs:_b V)(H:Hp)(Q:VK)(f6:XK):Prop
|mk(n:_d)(i:_i)(_:vs=[.int n,.int i])(_:Q (.bl (decide (0<=i) && n.testBit i.toNat)) H)
theorem cu(n:_d)(i:_i):decide (V.int (Ą ((n:_i) / 2 ^ i.toNat) 1)=V.int 1)=n.testBit i.toNat:=by
 rw[Hn,show (1:_i)=((1:_d):_i) from rfl,<-Int.natCast_ediv,Tf,Bool.eq_iff_iff];rw[Nat.testBit_eq_decide_div_mod_eq,Nat.and_one_is_mod];simp only[_N,V.int.injEq];exact Int.ofNat_inj
theorem scHa:Aq py py<|Ae sHa:=Bh
include N T in
theorem Zq:BX P w K mg base BW 1 aD.Ha py cX:=by
 refine N.FHa.1.Dl scHa λH d Q E f h=>?_;obtain⟨n,i,rfl,q⟩:=h;refine⟨_,Ag<|Ax<|Dv (G3 Er G_ Ac (pv 1)<|Uq PySem.F.plainAttrs_int PySem.F.slot_int_bit_length PySem.F.type_int_bit_length UG<|pv 0)<|Du<|Eb Ez (Ar Np (Ar Vc (pv 0)<|pv 1) Ac) Ac<|Bc _,?_⟩;refine Ed (λa=>?_)<|λa=>?_
 .have c:0<=i:=_G a;refine⟨U,(n:_i),U,U,?_⟩;rw[La];refine Ed (λb=>?_)<|λb=>?_
  .refine⟨c,U,?_⟩;try dsimp only
   rw[cu];rw[a,fw] at q;exact q
  .have e:n.testBit i.toNat=false:=by
    cases hb:n.testBit i.toNat with
    |false=>rfl
    |true =>
     have:=Wd.Zd hb;exact _D (_v (by lia:i<(Wd.len n:_i))) b
   rw[e,kL] at q;exact q
 .rw[(fq _).mp a,iX] at q;exact q
inductive bH(vs:_b V)(H:Hp)(Q:VK)(f6:XK):Prop
|mk(n:_d)(_:vs=[.int n])(_:n<2 ^ 1200)(_:∀p H',H p=_n->Al H H'->H' p=_a (.lst (nV (Wd.mem n)))->Q (.ref p) H')
theorem dH(n:_d):((((_B<|Wd.len n).map λ(i:_d)=>(0:_i)+(i:_i)).filter λi=>decide (0<=i) && n.testBit i.toNat).map λi=>V.int i)=nV (Wd.mem n):=by
 unfold Wd.mem;rw[fm,bi];have e:((λi:_i=>decide (0<=i) && n.testBit i.toNat) ∘ λ(i:_d)=>(0:_i)+(i:_i))=n.testBit:=by
  funext i;show (decide (0<=(0:_i)+(i:_i)) && n.testBit ((0:_i)+(i:_i)).toNat)=n.testBit i;have a:(0:_i)<=0+(i:_i):=by lia
  have b:((0:_i)+(i:_i)).toNat=i:=by lia
  rw[_v a,b,fw]
 rw[e];refine iq λi _=>?_;show V.int ((0:_i)+(i:_i))=V.int (i:_i);rw[kg]
theorem scMe:Aq ["some"] ["some"] (Ae zK):=Bh
include N T in
theorem Z1:BX P w K mg base BW 2 aD.Me ["some"] bH:=by
 refine N.FMe.1.Dl scMe λH l Q E f h=>?_;obtain⟨n,rfl,e,q⟩:=h;refine⟨_,Ag<|Ax<|Bm U (BR (osc:=Ae zK) (N:=["some"]) U U<|by decide) (Dj U T.range<|Aa (Uq PySem.F.plainAttrs_int PySem.F.slot_int_bit_length PySem.F.type_int_bit_length UG<|pv 0) Ab) (λ_ _ _ _=>(HF<|Dz<|BL N.FHa (Zq N T) f<|Aa (pv 1)<|Aa (pv 0) Ab))<|λ_ _ _ _=>(pv 0),?_⟩;have b:Wd.len n<=1200:=Wd.Ip e;refine⟨U,(n:_i),U,U,?_⟩;rw[La];refine⟨_,U,by lia,by lia,?_⟩;rw[aI];refine Fz (lo:=0) (n:=Wd.len n) (λi=>decide (0<=i) && n.testBit i.toNat) (λi=>.int i) (bg b<|by decide) (λi g a c R k=>?_) (λi g _ a c R k=>k a<|Al.refl a)<|λD a j c d=>?_
 .exact⟨n,_,U,k a<|Al.refl a⟩
 .rw[dH] at d;exact q D a j c d
inductive Z0(vs:_b V)(H:Hp)(Q:VK)(f6:XK):Prop
|mk(n:_d)(k:_i)(c:_d)(_:vs=[.int n,.int k,.int c])(_:n<2 ^ 1200)(_:-1200<=k)(_:k<=1200)(_:c<=1200)(_:Q (.int (Wd.mv n k c:_d)) H)
theorem Wb(m c:_d):Ą (m:_i) (1 * 2 ^ ((if (0:_i) > (c:_i) then (0:_i) else (c:_i))).toNat - 1)=((m % 2 ^ c:_d):_i):=by
 have h:¬ (0:_i) > (c:_i):=by lia
 rw[_l h,om,aI,Hn];have a:1<=2 ^ c:=Nat.one_le_two_pow;have e:((2 ^ c:_d):_i) - 1=((2 ^ c - 1:_d):_i):=by lia
 rw[e,Tf,Nat.and_two_pow_sub_one_eq_mod]
theorem vp:Aq ["some","steps","count","moved"] oB (Ae sSh):=Bh
include N T in
theorem aX:BX P w K mg base BW 1 aD.Sh oB Z0:=by
 refine N.FSh.1.Dl vp λH j Q E m h=>?_;obtain⟨n,k,c,rfl,f,o,p,l,q⟩:=h;refine⟨_,(Af (BP (i:=3) vp.nd U (Or.inl U)<|cW (Bb QG (pv 1) Ac<|Bc _) (Ar iY (pv 0)<|pv 1)<|Ar Vc (pv 0)<|K8 Jo<|pv 1)
  (Ag<|Ax<|Ar Np (pv 3)<|Ar El (Ar cL Ac<|A_ (Qa U) U T.max ŵ<|Aa (pv 2)<|Aa Ac Ab) Ac)),?_⟩
 have d:Wd.len n<=1200:=Wd.Ip f;have g:(2:_i) ^ 27=134217728:=by decide
 refine Ed (λb=>?_)<|λb=>?_
 .have a:0<k:=_G b;refine⟨⟨by lia,by rw[La,g];lia⟩,?_⟩;refine⟨_,_,U,⟨⟨by split <;> lia,by split <;> lia,by decide⟩,?_⟩⟩;try dsimp only
  have e:((n:_i) * 2 ^ k.toNat)=((n * 2 ^ k.toNat:_d):_i):=by rw[Hn];simp
  show Q (.int _) _;rw[e,Wb];unfold Wd.mv at q;rw[_o a] at q;exact q
 .have a:¬ 0<k:=λz=>b<|_v z
  refine⟨by lia,?_⟩;refine⟨_,_,U,⟨⟨by split <;> lia,by split <;> lia,by decide⟩,?_⟩⟩;try dsimp only
  have e:((n:_i) / 2 ^ (-k).toNat)=((n / 2 ^ (-k).toNat:_d):_i):=by rw[Hn];simp
  show Q (.int _) _;rw[e,Wb];unfold Wd.mv at q;rw[_l a] at q;exact q
inductive jZ(C:_g)(vs:_b V)(H:Hp)(Q:VK)(f6:XK):Prop
|mk(x:_g)(bs:_b (_A×_d))(ks:_b R)(_:vs=[.ref x])(_:EY C H x bs ks)(_:∀D ys H',H D=_n->Al H H'->H' D=_a (.lst ys)->Paired (λ(r:R) y=>TupAt H' [.str r.w,.str r.nm] y) ks ys->Q (.ref D) H')
theorem scOz:Aq gm gm<|Ae sOz:=Bh
include N T in
theorem lZ:BX P w K mg base BW 1 aD.Oz gm<|jZ C:=by
 refine N.FOz.1.Dl scOz λH Y Q E hr h=>?_;obtain⟨x,bs,ks,rfl,O,q⟩:=h;refine⟨_,Ag<|Ax<|Bm U (BR (osc:=Ae sOz) (N:=gm) U U<|by decide) (BZ<|De (pv 0) U) (λ_ _ _ _=>CJ)<|λ_ _ _ _=>(Bx<|Aa (Av (Am (K:=K) U) (pv 0) Ac<|λ_ _=>rfl)<|Aa (Av (Am (K:=K) U) (pv 0) Ac<|λ_ _=>rfl) Ab),?_⟩;obtain⟨⟨B,fs,Z,bn,kp,s,oQ,M,i,p,G,l1,J,l3,I,V,h2,S,W,h5,h6,h7,t,c⟩,X,wv,xA⟩:=id O;have g:Cp K H s i:=.inl<|.inl t
 have L:=c.length;refine⟨C,B,_,_,G,T.cl,T.n_knob_rows,I,⟨_,g⟩,O3 (K:=K) (xs:=i) (λ_=>_h) (λv=>[.str (dR H v).w,.str (dR H v).nm]) g (Aw<|by lia) (λy f a b R k=>k a<|Al.refl a) (λy f _ a b R k=>?_)<|λD a u o b z m=>?_⟩
 .obtain⟨r,_,n⟩:=Dq c f;have e:=Ut n;rw[e] at k;obtain⟨T0,rfl,l⟩:=n.mono b;exact⟨_,_,oz l,Aj (j:=0) U,_,_,oz l,Aj (j:=1) U,by show 2<=sizeLine;decide,λA d=>k _ _ (Ay d) ⟨A,U,Ai⟩⟩
 .rw[bX.mpr (λ_ _=>rfl)] at m;have h:=CG (F:=λ(r:R) y=>TupAt a [.str r.w,.str r.nm] y) (dR H) m;rw[Wz c] at h;exact q D u a o b z h
inductive aq(C:_g)(vs:_b V)(H:Hp)(Q:VK)(f6:XK):Prop
|mk(x:_g)(bs:_b (_A×_d))(ks:_b R)(wd:_A)(D:_d)(_:vs=[.ref x,.int (D:_d),.str wd])(_:EY C H x bs ks)(_:∀L (cl:_b _d) H',H L=_n->Al H H'->H' L=_a (.lst (nV cl))->(∀k,k∈cl ↔ ∃r,ks[k]? = _a r/\r.w=wd/\D.testBit k=_h)->cl.length<=200->Q (.ref L) H')
theorem uv:Aq mj oD<|Ae yj:=Bh
include N T in
theorem cF:BX P w K mg base BW 2 aD.Dc oD<|aq C:=by
 refine N.FDc.1.Dl uv λH vs Q E L h=>?_;obtain⟨x,bs,b,u,D,rfl,O,q⟩:=h;refine⟨_,(Af (Q3 (i:=3) uv.nd U U U (BR (osc:=Ae yj) (N:=mj) U U<|by decide) (BZ<|J5 (pv 0) T.cl N.FOz (lZ N T) L) (λ_ _ _ _=>CJ)<|λ_ _ _ _=>(Av (Am (K:=K) U) (pv 0) Ac<|λ_ _=>rfl))
  (Ag<|Ax<|WR U (Nt (osc:=Ae yj) (N:=mj) U U<|by decide) (Kw U T.enumerate<|Aa (pv 3) Ab) (λ_ _ _ _=>HF<|PW.pt<|RZ (Bb Ez (pv 1) (pv 4)<|Bc _)<|Qf<|Dz<|BL N.FHa (Zq N T) L<|Aa (pv 3)<|Aa (pv 0) Ab)<|λ_ _ _ _=>(pv 0))),?_⟩
 obtain⟨⟨dx,fs,bl,bn,kp,kr,oQ,qv,rL,aa,G,l1,l2,l3,l4,lm,s,f,h4,h5,h6,h7,h8,h9⟩,xl,wv,xA⟩:=id O;refine⟨dx,fs,G,lm _<|by decide,x,_,_,U,O,λD1 Y H1 ab W I B=>?_⟩;have m:Cp K H1 D1 Y:=.inl<|.inl I
 have zI:=B.length;refine⟨⟨_,m⟩,DG (K:=K) (xs:=Y) (λ_=>_h) (PN H1 0) m (Aw<|by lia) (λy S a t R k=>k a<|Al.refl a) (λy S _ a t R k=>?_)<|λD2 H2 MW Z d=>?_⟩
 .obtain⟨r,_,M⟩:=Dq B S;have e:=Hg M 0;obtain⟨T0,rfl,hT⟩:=M.mono t;have c:=k a<|Al.refl a
  rw[e] at c;exact⟨_,_,oz hT,Aj (j:=0) U,c⟩
 rw[bX.mpr (λ_ _=>rfl),Ms 0 B] at d;have e2:(b.map λr=>([V.str r.w,V.str r.nm]:_b V).getD 0 .non)=b.map λr=>V.str r.w:=rfl;rw[e2] at d;have n:Cp K H2 D2<|b.map λr=>V.str r.w:=.inl<|.inl d
 refine⟨D2,U,⟨_,n⟩,Xd (K:=K) (xs:=b.map λr=>V.str r.w) (λi v=>decide (v=.str u) && D.testBit i) (λi _=>.int (i:_d)) n (Aw<|by rw[ah];lia) (λi v A a t R k=>?_) (λi v A _ a t R k=>k a<|Al.refl a)<|λD3 H3 JO s3 rj=>?_⟩
 .rw[ar] at A;obtain⟨z,X,rfl⟩:=aS.mp A;have c:=k a<|Al.refl a
  refine⟨U,?_⟩;refine Ed (λg=>?_)<|λg=>?_
  .rw[g,fw] at c;refine⟨D,_,U,?_⟩;rw[_v (by lia:(0:_i)<=(i:_d)),fw,aI];exact c
  .rw[(fq _).mp g,iX] at c;exact c
 .refine q D3 (((b.map λr=>V.str r.w).zipIdx.filter λp=>decide (p.1=V.str u) && D.testBit p.2).map (·.2)) H3 ((W.trans Z).free JO) ((W.trans Z).trans s3) ?_ (λk=>?_) ?_
  .rw[rj];refine congrArg (λl=>_a<|HO.lst l) ?_;unfold nV;rw[bi];rfl
  .constructor
   .intro hk;obtain⟨⟨v,J⟩,hm,rfl⟩:=ay.mp hk;obtain⟨G,s⟩:=cy.mp hm;have f:=List.mem_zipIdx' G;rw[jS] at f;obtain⟨F,f⟩:=f;rw[eI] at s;have o:J<b.length:=by simpa using F
    refine⟨b[J],af o,?_,s.2⟩;have:=s.1;rw[f] at this;exact V.str.inj<|_G this
   .rintro⟨z,X,hc,hd⟩;refine ay.mpr ⟨(V.str z.w,k),cy.mpr ⟨?_,?_⟩,U⟩
    .rw[List.mem_zipIdx_iff_getElem?,ar,X];rfl
    .show (decide (V.str z.w=V.str u) && D.testBit k)=_h;rw[hc,hd,_v U];rfl
  .rw[ah];refine bo (dE _ _) ?_;rw[ŗ,ah];lia
inductive gf(C:_g)(vs:_b V)(H:Hp)(Q:VK)(f6:XK):Prop
|mk(x:_g)(bs:_b (_A×_d))(ks:_b R)(n:_d)(_:vs=[.ref x,.int (n:_d)])(_:EY C H x bs ks)(_:n<2 ^ 1200)(_:Q (.int (Wd.mv n 0 (bs.map (·.2)).sum:_d)) H)
theorem GF{x:_g}{bs:_b (_A×_d)}{a:_b R}(O:EY C H x bs a):(bs.map (·.2)).sum<=305:=by
 have h:=Qc bs 61 O.sz;rw[GK] at h;have:=O.nb;have:bs.length * 61<=5 * 61:=mh _ this;lia
theorem scHk:Aq qx qx<|Ae sHk:=Bh
include N T in
theorem ju:BX P w K mg base BW 2 aD.Hk qx<|gf C:=by
 refine N.FHk.1.Dl scHk λH s Q E a h=>?_;obtain⟨x,bs,c,n,rfl,O,b,q⟩:=h;refine⟨_,Ag<|Ax<|BL N.FSh (aX N T) a<|Aa (pv 1)<|Aa Ac<|Aa (J5 (pv 0) T.cl N.FOc (Ze N T) a) Ab,?_⟩;obtain⟨⟨f,fs,u,v,kp,p,k,l,t,d,g,i,j,m,r,e,_⟩,_⟩:=id O;have o:=GF O;refine⟨f,fs,g,e _<|by decide,x,bs,c,U,O,n,0,(GQ bs).length,U,b,by decide,by decide,by rw[GK];lia,?_⟩;rw[GK];exact q
theorem fJ(h:n<=3000):n<sizeLine:=bg h<|by decide
theorem Y8{v:V}{Q:St->Hp->Prop}:Ci i v σ H Q=Q (σ.set i<|some v) H:=rfl
theorem Zo{c:TT}{tb u:TS}{D:Ends}{r:VK}{b k:St->Hp->Prop}(h:RW c tb { D with nx:=u D } σ H):({ nx:=oH (RW c tb) u D,rt:=r,bk:=b,ct:=k }:Ends).nx σ H:=h
def rJ:_t HO->_d
 |some (.lst xs)=>xs.length
 |_=>0
def rQ:_t HO->_d
 |some (.dK kvs)=>kvs.length
 |_=>0
abbrev kI(j:_d):Key:=_R ((j:_d):_i)
theorem cH{js:_b _d}(h:kvs.map (·.1)=js.map kI)(j:_d):(Cv kvs<|kI j).isSome=decide (j∈js):=by
 rw[<-Fw];rw[dA,gE,_N];constructor
 .rintro⟨p,a,e⟩;have:p.1∈js.map kI:=by rw[<-h];exact cS a
  obtain⟨b,d,g⟩:=ay.mp this;have f:kI b=kI j:=g.trans<|_G e
  have:((b:_d):_i)=(j:_d):=Š f;have:b=j:=by lia
  subst this;exact d
 .intro c;have:kI j∈kvs.map (·.1):=by rw[h];exact cS c
  obtain⟨p,a,e⟩:=ay.mp this;exact⟨p,a,_v e⟩
def Sv(H:Hp)(bs:_b<|_A×_d)(d3:_b Kb)(D n:_d)(kvs:_b<|Key×V)(js:_b _d):Prop:=∀(m j:_d),js[m]? = _a j->∃(k i:_d)(T:_g)(z:Kb),Cv kvs (kI j)=_a (.ref T)/\H T=_a (.tup [V.int (k:_d),V.int (i:_d)])/\D.testBit k=_h/\d3[k]? = _a z/\gl bs z i=_a j/\(n.testBit i=_h \/ i∈js.take m)
theorem Sv.by'{bs:_b (_A×_d)}{D:_d}{js:_b _d}(h:Sv H bs d3 D n kvs js)(e:∀T xs,H T=_a (.tup xs)->H' T=_a (.tup xs)):Sv H' bs d3 D n kvs js:=λm j a=>by
 obtain⟨k,i,T,z,d,c,b⟩:=h m j a;exact⟨k,i,T,z,d,e _ _ c,b⟩
theorem Sv.mono{bs:_b (_A×_d)}{D:_d}{js:_b _d}(h:Sv H bs d3 D n kvs js)(s:Al H H'):Sv H' bs d3 D n kvs js:=h.by' λT a e=>s _ _ e
theorem Sv.upd{bs:_b (_A×_d)}{D:_d}{js:_b _d}{A:_g}{u:HO}(h:Sv H bs d3 D n kvs js)(a:H A=_a u)(b:∀xs,u≠.tup xs):Sv (L2.upd H A o) bs d3 D n kvs js:=h.by' λT xs e=>by
 rw[An (λz=>by rw[z,a] at e;exact b xs<|_m e)];exact e
theorem Sv.snoc{bs:_b (_A×_d)}{D:_d}{js:_b _d}{k c:_d}{T:_g}{z:Kb}(h:Sv H bs d3 D n kvs js)(i:Cv kvs (kI j)=_n)(o:H T=_a (.tup [V.int (k:_d),V.int (c:_d)]))(B:D.testBit k=_h)(hz:d3[k]? = _a z)(l:gl bs z c=_a j)(hi:n.testBit c=_h \/ c∈js) :
  Sv H bs d3 D n (kvs++[(kI j,.ref T)]) (js++[j]):=λm f a=>by
 by_cases b:m<js.length
 .rw[ce b] at a;obtain⟨s,u,t,w,g,r,v,x,q,p⟩:=h m f a;refine⟨s,u,t,w,?_,r,v,x,q,?_⟩
  .rw[Gx _ _ _ _ i];by_cases e:kI f=kI j
   .rw[e,i] at g
    cases g
   .rw[_l e];exact g
  .rw[fg (fh b)];exact p
 .have d:=(ag.mp a).1;rw[av,bt] at d;have y:m=js.length:=by lia
  subst y;rw[ci (ai _),iN] at a;have A:j=f:=by simpa using a
  subst A;refine⟨k,c,T,z,?_,o,B,hz,l,?_⟩
  .rw[Gx _ _ _ _ i,_o U]
  .rw[fg (ai _),eW];exact hi
inductive oE(C:_g)(vs:_b V)(H:Hp)(Q:VK)(f6:XK):Prop
|mk(x:_g)(c:_d->_A)(sz:_b _d)(d3:_b Kb)(D n:_d)(_:vs=[.ref x,.int (D:_d),.int (n:_d)])(_:EY C H x (Bj c sz) (Cy c d3))(_:Vo sz.length d3)(_:n<2 ^ 1200)(_:∀i,n.testBit i=_h->i<sz.sum)(_:∀W (kvs:_b (Key×V)) (js:_b _d) H',H W=_n->Al H H'->H' W=_a (.dK kvs)->kvs.map (·.1)=js.map kI->js.Nodup->Sv H' (Bj c sz) d3 D n kvs js->(∀j,j∈js ↔ Su (stp (Bj c sz) d3 D) (λi=>n.testBit i=_h) j)->Q (.ref W) H')
theorem VM:Aq ["organ","knobs","held","couplers","ways","left","ahead","knob","key"] ef (Ae sWa):=Bh
inductive su(H:Hp)(CL:_g)(cl:_b _d)(W:_g)(L:_g)(c:_d->_A)(sz:_b _d)(d3:_b Kb)(D:_d)(n:_d)(st:_d->_d->Prop)(x:_g)(σ:St)(H4:Hp):Prop
|mk(_:Al H H4)(_:H4 CL=_a (.lst (nV cl)))(kvs:_b (Key × V))(js ls:_b _d)(_:H4 W=_a (.dK kvs))(_:H4 L=_a (.lst (nV ls)))(_:kvs.map (·.1)=js.map kI)(_:js.Nodup)(_:Sv H4 (Bj c sz) d3 D n kvs js)(_:(∀j∈js,Su st (λi=>n.testBit i=_h) j))(_:(∀i∈ls,n.testBit i=_h \/ i∈js))(_:(∀i,(n.testBit i=_h \/ i∈js)->i∈ls \/ ∀j,st i j->j∈js))(_:ls.length+(sz.sum - js.length)<=1600)(v6 v7 v8:_)(_:σ=[_a (.ref x),_a<|.int (D:_d),_a<|.int (n:_d),_a<|.ref CL,_a<|.ref W,_a<|.ref L,v6,v7,v8])
inductive fu(H:Hp)(CL:_g)(cl:_b _d)(W:_g)(L:_g)(c:_d->_A)(sz:_b _d)(d3:_b Kb)(D:_d)(n:_d)(st:_d->_d->Prop)(i0:_d)(ls:_b _d)(js:_b _d)(x:_g)(m:_d)(σ:St)(H6:Hp):Prop
|mk(_:Al H H6)(_:H6 CL=_a (.lst (nV cl)))(oP:_b (Key × V))(re sD:_b _d)(_:H6 W=_a (.dK oP))(_:H6 L=_a (.lst (nV sD)))(_:oP.map (·.1)=re.map kI)(_:re.Nodup)(_:Sv H6 (Bj c sz) d3 D n oP re)(_:(∀j∈re,Su st (λi=>n.testBit i=_h) j))(_:(∀i∈sD,n.testBit i=_h \/ i∈re))(_:(∀i,(n.testBit i=_h \/ i∈re)->i=i0 \/ i∈sD \/ ∀j,st i j->j∈re))(_:(∀k∈cl.take m,∀z j,d3[k]? = _a z->gl (Bj c sz) z i0=_a j->j∈re))(_:(n.testBit i0=_h \/ i0∈re))(_:sD.length+(sz.sum - re.length)<=ls.length+(sz.sum - js.length))(v7 v8:_)(_:σ=[_a (.ref x),_a<|.int (D:_d),_a<|.int (n:_d),_a<|.ref CL,_a<|.ref W,_a<|.ref L,_a<|.int (i0:_d),v7,v8])
theorem fu.snd{b:_g}{cl:_b _d}{W:_g}{L:_g}{sz:_b _d}{D:_d}{st:_d->_d->Prop}{e:_d}{d:_b _d}{js:_b _d}{x:_g}{a:Hp}(h:fu H b cl W L c sz d3 D n st e d js x m σ a):a b=_a (.lst<|nV cl):=by
 cases h;assumption
include N T in
theorem uO:BX P w K mg base BW 4 aD.Wa ef<|oE C:=by
 refine N.FWa.1.Dl VM λH vs Q E hr h=>?_;obtain⟨x,c,sz,Y,D,n,rfl,O,qk,hn,sg,q⟩:=h;have hu:=Fi hr;refine⟨_,(Af (BP (i:=3) VM.nd U (Or.inl U)<|BL N.FDc (cF N T) hr<|Aa (pv 0)<|Aa (pv 1)<|Aa CQ Ab)
  (Af (BP (i:=4) VM.nd U (Or.inl U) Iu)
  (Af (BP (i:=5) VM.nd U (Or.inl U)<|BL N.FMe (Z1 N T) hr<|Aa (pv 2) Ab)
  (Af (dC _U (Nx (pv 5)<|λ_=>rfl) (Af (BP (i:=6) VM.nd U (Or.inl U)<|E_ bE PySem.F.slot_list_pop PySem.F.type_list_pop Zy (pv 5)<|Aa Ac Ab)
  (Ag (DQ _U U (BZ<|pv 3) (Bg (i:=7) VM.nd U<|Or.inl U) (Af (BP (i:=8) VM.nd U (Or.inl U)<|BL N.FLe (tR N T) hr<|Aa (pv 0)<|Aa (pv 7)<|Aa (pv 6) Ab)
  (Ag (Cg (PW.pt<|RZ (Bb jE (pv 8) Ot<|Bc _)<|Qf<|bh<|X8 hu (pv 8)<|pv 4) (Af (Q_ hu (pv 4) (pv 8) (Bx<|Aa (pv 7)<|Aa (pv 6) Ab) U)
  (Ag<|Cg (Dg<|Dz<|BL N.FHa (Zq N T) hr<|Aa (pv 2)<|Aa (pv 8) Ab) (Ag<|C_<|E_ bE cr cw CZ (pv 5)<|Aa (pv 8) Ab) Be)) Be)))))))
  (Ag<|Ax<|pv 4))))),?_⟩
 have B:((Bj c sz).map (·.2)).sum=sz.sum:=by rw[D_]
 generalize aa:stp (Bj c sz) Y D=st;have hR:∀{j},Su st (λi=>n.testBit i=_h) j->j<sz.sum:=λ{j} r=>by
  rw[<-aa] at r;have:=r.lt;rw[B] at this;exact this
 refine⟨x,Bj c sz,Cy c Y,"coupler",D,U,O,λCL cl H1 TN s1 aP CB ET=>?_⟩;have aZ:∀k,k∈cl ↔ ∃z,Y[k]? = _a z/\pZ z=_h/\D.testBit k=true:=λk=>by
  rw[CB];constructor
  .rintro⟨r,hr,hw,hd⟩;obtain⟨z,hz,rfl⟩:=En hr;rw[Jt] at hw;exact⟨z,hz,_v<|congrArg V.str hw,hd⟩
  .rintro⟨z,hz,hc,hd⟩;exact⟨_,Fb hz,(Jt _ _ _).trans<|V.str.inj<|_G hc,hd⟩
 intro W hW;obtain⟨H2,i6,t2,u2⟩:=Jp (o:=HO.dK []) hW;rw[i6];refine⟨n,U,hn,λL H3 hL s3 rj=>?_⟩;have LH:=t2.trans s3;have NJ:=s1.trans LH;have a5:H W=none:=s1.free hW;have a4:H L=none:=(s1.trans t2).free hL;have as:W≠L:=λz=>by rw[<-z,s3 _ _ u2] at rj;cases rj
 have c3:=LH _ _ aP;have b0:Cp K H3 CL<|nV cl:=.inl<|.inl c3
 have bm:CL≠W:=λz=>by rw[z,s3 _ _ u2] at c3;cases c3
 have an:CL≠L:=λz=>by rw[z] at aP;rw[t2 _ _ aP] at hL;cases hL
 show Ci 5 _ _ _ _;rw[Y8];refine Zo ?_;refine Yz (su H CL cl W L c sz Y D n st x)
  (λ_ G=>rJ (G L)+(sz.sum - rQ (G W))) ⟨NJ,c3,[],[],Wd.mem n,s3 _ _ u2,rj,U,O0,(λm j hm=>by simp at hm),(λj hj=>nomatch hj),λi R=>.inl<|Wd.mem_iff.mp R,(λi R=>.inl<|Wd.mem_iff.mpr<|R.resolve_right<|by simp),?_,_,_,_,U⟩ ?_ ?_
 .have:=Wd.Ip hn;have:(Wd.mem n).length<=Wd.len n:=by unfold Wd.mem;exact z3 (List.length_filter_le _ _)<|by simp
  have pf:=GF O;rw[B] at pf;simp;lia
 .rintro σ G ⟨s4,c4,F,js,u,hw,hl,aw,nd,KU,hj,xw,F5,HG,v6,v7,v8,rfl⟩;refine⟨_,.inl ⟨_,oz hl,U⟩,?_⟩;have bW:js.length<=sz.sum:=Fp sz.sum nd λj h=>hR<|hj j h
  have bc:F.length=js.length:=by have:=congrArg Ρ aw;simpa using this
  cases u with
  |nil =>
   refine PQ ?_;refine q W F js G a5 s4 hw aw nd KU λj=>?_;rw[aa];exact Su.all (W:=λj=>j∈js) hj (λi R=>(F5 i R).resolve_left<|by simp) j
  |cons d u =>
   refine Mq ?_;refine⟨.inl ⟨U,_,oz hl⟩,L,_,0,0,.int (d:_d),U,U,hl,by decide,by decide,L7 (by decide) (by simp),U,?_⟩;have w5:upd G L (.lst<|(nV<|d::u).eraseIdx 0) W=_a (.dK F):=by rw[An as];exact hw
   have l5:upd G L (.lst<|(nV<|d::u).eraseIdx 0) L=_a (.lst<|nV u):=Ai;have c5:upd G L (.lst<|(nV<|d::u).eraseIdx 0) CL=_a (.lst<|nV cl):=by rw[An an];exact c4
   have s5:Al H<|upd G L<|.lst<|(nV<|d::u).eraseIdx 0:=λb o e=>by rw[An (Ak e a4)];exact s4 _ _ e
   have em:rJ (G L)+(sz.sum - rQ (G W))=u.length+1+(sz.sum - js.length):=by
    rw[hl,hw];show (nV<|d::u).length+(sz.sum - F.length)=_;rw[bc];simp
   rw[em];have ac:Sv (upd G L<|.lst<|(nV<|d::u).eraseIdx 0) (Bj c sz) Y D n F js:=KU.upd hl (λxs z=>by cases z);generalize upd G L (.lst ((nV (d::u)).eraseIdx 0))=H5 at w5 l5 c5 s5 ac |-;have bN:d<sz.sum:=by
    rcases xw d (be ..) with h | h
    .exact sg d h
    .exact hR<|hj d h
   have a3:∀j,st d j->Su st (λi=>n.testBit i=_h) j:=λj h=>by
    rcases xw d (be ..) with g | g
    .exact .one g h
    .exact .more (hj d g) h
   obtain⟨qd,hq⟩:∃qd,(GQ (Bj c sz))[d]? = _a qd:=⟨_,af<|by rw[GK,B];exact bN⟩;have M:u.length+(sz.sum - js.length)<u.length+1+(sz.sum - js.length):=by lia
   refine⟨⟨_,oz c5⟩,Dk (K:=K) (a:=CL) (xs:=nV cl) (fu H CL cl W L c sz Y D n st d u js x)
    ⟨s5,c5,F,js,u,w5,l5,aw,nd,ac,hj,λi R=>xw i<|Ņ _ R,λi R=>?_,(λk hk=>by simp at hk),xw d<|Î ..,Τ _,_,_,U⟩ (λm σ H6 _ h=>.inl<|.inl h.snd) ?_ ?_⟩
   .rcases F5 i R with h | h
    .rcases bq.mp h with rfl | h
     .exact .inl U
     .exact .inr<|.inl h
    .exact .inr<|.inr h
   .rintro m y σ H6 hm ⟨s6,c6,f,p,A,w6,l6,Z,E8,xS,E3,wf,wx,xL,wT,xD,v7,v8,rfl⟩;rw[ar] at hm;obtain⟨k,hk,rfl⟩:=aS.mp hm;obtain⟨z,hz,bR,UK⟩:=(aZ k).mp<|am hk;have SV:=qk.ok z<|am hz
    obtain⟨j1,j2,s0,rfl⟩:=il SV bR;obtain⟨bl,bP,_,_⟩:=SV;have a8:(Bj c sz)[j1]? = _a (c j1,sz[j1]):=Eg<|af bl
    have ab:(Bj c sz)[j2]? = _a (c j2,sz[j2]):=Eg<|af bP
    have aB:(Cy c Y)[k]? = _a ⟨"coupler",c<|30+k,[.str (c j1),.str<|c j2,.int s0]⟩:=Fb hz;have bS:p.length<=sz.sum:=Fp sz.sum E8 λj h=>hR<|E3 j h
    have ap:f.length=p.length:=by have:=congrArg Ρ Z;simpa using this
    have pf:=GF O;rw[B] at pf;refine⟨x,Bj c sz,Cy c Y,k,d,j1,j2,(c j1,sz[j1]),(c j2,sz[j2]),qd,c<|30+k,s0,U,O.mono s6,hq,aB,a8,ab,λH7 t=>?_⟩;have l:∀{Lu:_b _d},(∀j∈p,j∈Lu)->(∀j,gl (Bj c sz) (.cp j1 j2 s0) d=_a j->j∈Lu)->∀k'∈cl.take (m+1),∀z j,Y[k']? = _a z->gl (Bj c sz) z d=_a j->j∈Lu:=λ{Lu} bb a9 k' a1 z' j aK hg=>by
     rw[ck,hk] at a1;rcases aE.mp a1 with h | h
     .exact bb j<|xL k' h z' j aK hg
     .have:k'=k:=by simpa using h
      subst this;rw[hz] at aK
      cases aK;exact a9 j hg
    rcases au (j1:=j1) (s:=s0) hq ab with⟨e,eg⟩ | ⟨j,e,eg,b1⟩
    .rw[e];refine⟨U,PQ<|?_⟩;exact⟨s6.trans t,t _ _ c6,f,p,A,t _ _ w6,t _ _ l6,Z,E8,xS.mono t,E3,wf,wx,l (λj h=>h) (λj h=>by rw[eg] at h;cases h),wT,xD,_,_,rfl⟩
    .rw[e];have a6:st d j:=by rw[<-aa];exact⟨k,_,UK,hz,eg⟩
     refine⟨U,?_⟩;refine⟨_,Gf.k (k:=kI j)<|t _ _ w6,?_⟩;rw[cH Z j];by_cases J:j∈p
     .rw[_v J];exact⟨s6.trans t,t _ _ c6,f,p,A,t _ _ w6,t _ _ l6,Z,E8,xS.mono t,E3,wf,wx,l (λj h=>h) (λX h=>by rw[eg] at h;cases h;exact J),wT,xD,_,_,U⟩
     .rw[_L J];refine Mq ?_;have nv:Cv f (kI j)=none:=by
       have:=cH Z j;rw[_L J] at this;exact Option.not_isSome_iff_eq_none.mp<|by rw[this];decide
      have aN:(p++[j]).Nodup:=Ţ.mpr ⟨E8,by simp,λa ha b hb=>by rw[Ï.mp hb];intro z;exact J<|z ▸ ha⟩;have aM:∀X∈p++[j],Su st (λi=>n.testBit i=_h) X:=λX h=>by
       rcases aE.mp h with h | h
       .exact E3 X h
       .rw[al.mp h];exact a3 j a6
      have a2:(p++[j]).length<=sz.sum:=Fp sz.sum aN λj h=>hR<|aM j h
      rw[av,bt] at a2;refine⟨by show 2<=sizeLine;decide,λS KL=>?_⟩;obtain⟨H8,i6,t8,NS⟩:=Jp (o:=HO.tup [V.int (k:_d),V.int (d:_d)]) KL;rw[i6];have w8:=t8 _ _<|t _ _ w6
      refine⟨_,Ux.k (k:=kI j) w8<|Aw<|by lia,?_⟩;have u9:upd H8 W (.dK<|putK f (kI j)<|.ref S) W=_a (.dK<|f++[(kI j,.ref S)]):=by rw[<-Zb _ nv];exact Ai
      have l9:upd H8 W (.dK<|putK f (kI j)<|.ref S) L=_a (.lst<|nV A):=by rw[An as.symm];exact t8 _ _<|t _ _ l6
      have c9:upd H8 W (.dK<|putK f (kI j)<|.ref S) CL=_a (.lst<|nV cl):=by rw[An bm];exact t8 _ _<|t _ _ c6
      have s9:Al H<|upd H8 W<|.dK<|putK f (kI j)<|.ref S:=λb o e=>by rw[An (Ak e a5)];exact t8 _ _<|t _ _<|s6 _ _ e
      have I:Sv (upd H8 W<|.dK<|putK f (kI j)<|.ref S) (Bj c sz) Y D n (f++[(kI j,.ref S)])<|p++[j]:=by
       have p8:=((xS.mono t).mono t8).upd (o:=.dK<|putK f (kI j)<|.ref S) w8 (λxs z=>by cases z);exact p8.snoc nv (by rw[An (λz=>by rw[z,w8] at NS;cases NS)];exact NS) UK hz eg wT
      generalize upd H8 W (.dK (putK f (kI j) (.ref S)))=H9 at u9 l9 c9 s9 I |-;have a7:(f++[(kI j,V.ref S)]).map (·.1)=(p++[j]).map kI:=by rw[ee,ee,Z];rfl
      refine⟨n,_,U,?_⟩;have eb:(decide ((0:_i)<=(j:_d)) && n.testBit ((j:_d):_i).toNat)=n.testBit j:=by rw[_v (by lia),fw,aI]
      rw[eb]
      cases hb:n.testBit j with
      |true =>
       refine⟨s9,c9,_,p++[j],A,u9,l9,a7,aN,I,aM,λi h=>(wf i h).imp id<|Õ _,λi h=>?_,l (λj h=>Õ _ h) (λX h=>by rw[eg] at h;cases h;simp),wT.imp id<|Õ _,?_,_,_,U⟩
       .have h':n.testBit i=_h \/ i∈p:=by
         rcases h with h | h
         .exact .inl h
         .rcases aE.mp h with h | h
          .exact .inr h
          .rw[al.mp h];exact .inl hb
        rcases wx i h' with g | g | g
        .exact .inl g
        .exact .inr<|.inl g
        .exact .inr<|.inr λX BF=>cm _<|g X BF
       .rw[av,bt];lia
      |false =>
       refine⟨.inl ⟨U,_,oz l9⟩,_,l9,fJ (by simp only[Ë] at HG;rw[Ι];lia),?_⟩;have bK:upd H9 L (.lst<|nV A++[V.int (j:_d)]) L=_a (.lst<|nV<|A++[j]):=by
        have e9:nV (A++[j])=nV A++[V.int (j:_d)]:=ee;rw[e9];exact Ai
       have bB:upd H9 L (.lst<|nV A++[V.int (j:_d)]) W=_a (.dK<|f++[(kI j,.ref S)]):=by rw[An as];exact u9
       have bn:upd H9 L (.lst<|nV A++[V.int (j:_d)]) CL=_a (.lst<|nV cl):=by rw[An an];exact c9
       have bL:Al H<|upd H9 L<|.lst<|nV A++[V.int (j:_d)]:=λb o e=>by rw[An (Ak e a4)];exact s9 _ _ e
       refine⟨bL,bn,_,p++[j],A++[j],bB,bK,a7,aN,I.upd l9 (λxs z=>by cases z),aM,(λi h=>?_),(λi h=>?_),l (λj h=>Õ _ h) (λX h=>by rw[eg] at h;cases h;simp),wT.imp id<|Õ _,?_,_,_,U⟩
       .rcases aE.mp h with h | h
        .exact (wf i h).imp id<|cm _
        .exact .inr<|db _ h
       .have h':(n.testBit i=_h \/ i∈p) \/ i=j:=by
         rcases h with h | h
         .exact .inl<|.inl h
         .rcases aE.mp h with h | h
          .exact .inl<|.inr h
          .exact .inr<|al.mp h
        rcases h' with h' | rfl
        .rcases wx i h' with g | g | g
         .exact .inl g
         .exact .inr<|.inl<|cm _ g
         .exact .inr<|.inr λX BF=>cm _<|g X BF
        .exact .inr<|.inl<|by simp
       .rw[av,av,bt];lia
   .rintro σ H6 ⟨s6,c6,f,p,A,w6,l6,Z,E8,xS,E3,wf,wx,xL,wT,xD,v7,v8,rfl⟩;have ap:f.length=p.length:=by have:=congrArg Ρ Z;simpa using this
    refine⟨⟨s6,c6,f,p,A,w6,l6,Z,E8,xS,E3,wf,λi R=>?_,by simp only[Ë] at HG;lia,_,_,_,U⟩,?_⟩
    .rcases wx i R with rfl | g | g
     .refine .inr λj a0=>?_;rw[<-aa] at a0;obtain⟨k,z,br,VT,hg⟩:=a0;refine xL k ?_ z j VT hg;rw[Č (by simp)];exact (aZ k).mpr ⟨z,VT,ue hg,br⟩
     .exact .inl g
     .exact .inr g
    .show rJ (H6 L)+(sz.sum - rQ (H6 W))<_;rw[l6,w6];show (nV A).length+(sz.sum - f.length)<_;rw[ah,ap];lia
 .rintro σ H' Q1 Q2 hm h;obtain⟨v,hv,k,hk,h⟩:=Pb.e h;unfold Pb;rw[hv];exact⟨k,hk,hm _ _ h⟩
inductive nG(C:_g)(vs:_b V)(H:Hp)(Q:VK)(f6:XK):Prop
|mk(x:_g)(c:_d->_A)(sz:_b _d)(d3:_b Kb)(D n:_d)(_:vs=[.ref x,.int (D:_d),.int (n:_d)])(_:EY C H x (Bj c sz) (Cy c d3))(_:Vo sz.length d3)(_:n<2 ^ 1200)(_:∀i,n.testBit i=_h->i<sz.sum)(_:∀(m:_d) H',Al H H'->(∀j,m.testBit j=_h ↔ Su (stp (Bj c sz) d3 D) (λi=>n.testBit i=_h) j)->Q (.int (m:_d)) H')
theorem WW{T:_d}(h:∀i,n.testBit i=_h->i<T):Wd.mv n 0 T=n:=by
 refine g_ λi=>?_;rw[Wd.O6];simp;intro a;exact h i a
theorem scCq:Aq ef ef<|Ae sCq:=Bh
include N T in
theorem wL:BX P w K mg base BW 5 aD.Cq ef<|nG C:=by
 refine N.FCq.1.Dl scCq λH G Q E f h=>?_;obtain⟨x,c,sz,m,D,n,rfl,O,t,i,o,q⟩:=h;refine⟨_,Ag<|Ax<|BL N.FSt (Ym N T) f<|Aa (Dw (Fv U) U T.list eD<|Aa (BL N.FWa (uO N T) f<|Aa (pv 0)<|Aa (pv 1)<|Aa (BL N.FHk (ju N T) f<|Aa (pv 0)<|Aa (pv 2) Ab) Ab) Ab) Ab,?_⟩;have a:((Bj c sz).map (·.2)).sum=sz.sum:=by rw[D_]
 have v:=GF O;rw[a] at v;refine⟨x,Bj c sz,Cy c m,n,U,O,i,?_⟩;rw[a,WW o];refine⟨x,c,sz,m,D,n,U,O,t,i,o,λW d js I F y r g z _ k=>?_⟩;have e:∀j∈js,j<sz.sum:=λj h=>by
  have:=((k j).mp h).lt;rw[a] at this;exact this
 have p:=Fp sz.sum z e;have b:d.map (·.1)=(js.map λj:_d=>(j:_i)).map Sum.inl:=by rw[g,bi];rfl
 refine⟨W,d,_,U,r,b,λl u=>?_⟩;have A:(js.map λj:_d=>(j:_i)).map V.int=nV js:=by rw[bi];rfl
 rw[A];refine⟨l,js,U,Ai,by lia,λj h=>by have:=e j h;lia,λs B=>?_⟩;refine q (Wd.mk js) s ((y.trans<|Ay u).trans B) λj=>?_;rw[Wd.Ft,_N];exact k j
theorem Ja{K:_s}(h:X.K=K):Ga X (compareOp .NotIn)<|ye K true:=h ▸ RT
theorem R7(l:_b _d):(nV l).all Fj=true:=eM.mpr λv a=>by
 obtain⟨n,_,rfl⟩:=ay.mp a;rfl
theorem gC(j:_d)(js:_b _d):inV (.int (j:_d)) (nV js)=decide (j∈js):=by
 rw[dA,_N];unfold inV;rw[gE];constructor
 .rintro⟨y,a,e⟩;obtain⟨n,b,rfl⟩:=ay.mp a;have c:(((n:_d):_i) == ((j:_d):_i))=true:=e;have d:((n:_d):_i)=(j:_d):=eq_of_beq c;have:n=j:=by lia
  subst this;exact b
 .intro h;exact⟨_,List.mem_map_of_mem h,by show (((j:_d):_i) == ((j:_d):_i))=_h;exact ń _⟩
theorem zF:Aq eH eH<|Ae sOm:=Bh
include N T in
theorem wG:BX P w K mg base BW 2 aD.Om eH<|Vu C:=by
 refine N.FOm.1.Dl zF λH z Q E i h=>?_;obtain⟨x,bs,j,k,l,b,f,o,g,rfl,O,e,a,q⟩:=h;refine⟨_,Ag<|Ax<|NB (pv 0) T.cl N.FBk (Yk N T) i<|Aa (pv 1) Ab,?_⟩;obtain⟨⟨m,fs,B,X,kp,y,J,r,A,c,n,G,p,R,W,d,S,t,u,F,L,V,I,s⟩,v,M,D⟩:=id O;exact⟨m,fs,n,d _<|by decide,x,bs,j,k,l,b,f,o,g,U,O,e,a,q⟩
inductive sE(C:_g)(vs:_b V)(H:Hp)(Q:VK)(f6:XK):Prop
|mk(x:_g)(bs:_b (_A×_d))(rk:_b (_A×_d×_i))(ks:_b R)(ls:_b (_b Ln:_))(k j1:_d)(b1:_A×_d)(wd nm:_A)(rs:_b V)(l:_b Ln)(_:vs=[.ref x,.int (k:_d)])(_:Ds C H x bs rk ks ls)(_:ks[k]? = _a ⟨wd,nm,.str b1.1::rs⟩)(_:bs[j1]? = _a b1)(_:ls[k]? = _a l)(_:∀(T0 L0:_g) (ts:_b V) H',H L0=_n->Al H H'->H' T0=_a (.tup [.int (j1:_d),.ref L0])->H' L0=_a (.lst ts)->Paired (λx y=>TupAt H' (gF x) y) l ts->Q (.ref T0) H')
theorem zy:Aq eH eH<|Ae sOs:=Bh
include N T in
theorem uM:BX P w K mg base BW 2 aD.Os eH<|sE C:=by
 refine N.FOs.1.Dl zy λH vs Q E B h=>?_;obtain⟨x,bs,rk,D,ls,k,j,n,u,J,z,l,rfl,O,t,e,F,q⟩:=h;refine⟨_,Ag<|Ax<|Bx<|Aa (NB (pv 0) T.cl N.FBk (Yk N T) B<|Aa (pv 1) Ab)<|Aa (Dw Es U T.list eD<|Aa (Av (Bu (K:=K) U) (De (pv 0) U) (pv 1)<|λ_ _=>rfl) Ab) Ab,?_⟩;obtain⟨⟨dx,fs,bl,bn,kp,kr,oQ,qv,rL,V,d,l1,l2,l3,l4,W,h2,h3,h4,h5,h6,h7,h8,h9⟩,xl,wv,xA⟩:=id O.o;obtain⟨I,S,rl,rn,pp,kl,qo,EZ,yY,g,m1,m2,m3,R,g2,g3,g4,g5,g6,g7,r,p,X⟩:=id O.r;obtain⟨s,G⟩:I=dx/\S=fs:=by rw[d] at g;cases g;exact⟨U,U⟩
 subst s G;obtain⟨y,L,A,b,rfl,m,Z⟩:=Cj X F;refine⟨_,_,d,W _<|by decide,x,bs,D,k,j,n,u,J,z,U,O.o,t,e,?_⟩;refine⟨C,_,_,_,d,T.cl,T.n_knob_lines,R,r,_,oz p,Aj L,A,b,U,oz<|.inl m,λi a=>?_⟩;obtain⟨H1,i6,f,Y⟩:=Jp (o:=HO.lst b) a;rw[i6];refine⟨by show 2<=sizeLine;decide,λv M=>?_⟩;have c:=Ay (o:=HO.tup [.int (j:_d),.ref i]) M;exact q v i b _ a (f.trans c) Ai (c _ _ Y)<|Ao (f.trans c) Z
inductive rD(C:_g)(vs:_b V)(H:Hp)(Q:VK)(f6:XK):Prop
|mk(x:_g)(bs:_b (_A×_d))(rk:_b (_A×_d×_i))(ks:_b R)(ls:_b (_b Ln:_))(_:vs=[.ref x])(_:Ds C H x bs rk ks ls)(_:∀D qo H',H D=_n->Al H H'->H' D=_a (.lst qo)->Paired (λ(a:Th) y=>TupAt H' (tV a) y) (rk.map b_) qo->Q (.ref D) H')
theorem scOr:Aq gm gm<|Ae sOr:=Bh
include N T in
theorem vy:BX P w K mg base BW 1 aD.Or gm<|rD C:=by
 refine N.FOr.1.Dl scOr λH L Q E hr h=>?_;obtain⟨x,bs,rk,ks,r,rfl,O,q⟩:=h;refine⟨_,Ag<|Ax<|Dw Es U T.list eD<|Aa (De (pv 0) U) Ab,?_⟩;obtain⟨⟨n,fs,R,bn,kp,J,oQ,y,M,i,d,X,t,l3,l4,D,h2,B,F,W,h6,h7,h8,A⟩,G,wv,S⟩:=id O.o;obtain⟨o,f,k,Y,pp,z,c,EZ,yY,b,e,Z,m3,u,g,p,V,g5,g6,s,I,v,g9⟩:=id O.r;obtain⟨j,m⟩:o=n/\f=fs:=by rw[d] at b;cases b;exact⟨U,U⟩
 subst j m;exact⟨C,_,_,_,d,T.cl,T.n_rank_list,e,k,c,U,oz<|.inl g,λl a=>q l c _ a (Ay a) Ai<|Ao (Ay a) p⟩
inductive rF(C:_g)(vs:_b V)(H:Hp)(Q:VK)(f6:XK):Prop
|mk(x:_g)(bs:_b (_A×_d))(rk:_b (_A×_d×_i))(ks:_b R)(ls:_b (_b Ln:_))(_:vs=[.ref x])(_:Ds C H x bs rk ks ls)(_:Q (.int ((GQ (rk.map nW)).length:_d)) H)
theorem scOq:Aq gm gm<|Ae sOq:=Bh
include N T in
theorem sZ:BX P w K mg base BW 1 aD.Oq gm<|rF C:=by
 refine N.FOq.1.Dl scOq λH L Q E hr h=>?_;obtain⟨x,bs,rk,ks,o,rfl,O,q⟩:=h;refine⟨_,Ag<|Ax<|A_ BV U T.len dv<|Aa (De (pv 0) U) Ab,?_⟩;obtain⟨⟨m,fs,R,bn,kp,J,oQ,t,M,e,b,X,p,l3,l4,D,h2,z,F,W,h6,h7,h8,v⟩,G,wv,S⟩:=id O.o;obtain⟨n,d,rl,Y,j,u,B,k,yY,a,y,Z,i,r,A,g3,V,g5,g,c,I,s,g9⟩:=id O.r;obtain⟨f,l⟩:n=m/\d=fs:=by rw[b] at a;cases a;exact⟨U,U⟩
 subst f l;refine⟨C,_,_,_,b,T.cl,T.n_pipe_places,i,j,k,U,oz<|.inl g,?_⟩;rw[<-c.length];exact q
inductive nR(C:_g)(vs:_b V)(H:Hp)(Q:VK)(f6:XK):Prop
|mk(x:_g)(bs:_b (_A×_d))(rk:_b (_A×_d×_i))(ks:_b R)(ls:_b (_b Ln:_))(j:_d)(r:_A×_d×_i)(n:_i)(_:vs=[.ref x,.str r.1,.int n])(_:Ds C H x bs rk ks ls)(_:rk[j]? = _a r)(_:∀H',Al H H'->Q (.int ((((rk.take j).map (λr=>r.2.1)).sum:_d)+n)) H')
theorem zf:Aq l7 l7<|Ae sOe:=Bh
include N T in
theorem wF:BX P w K mg base BW 2 aD.Oe l7<|nR C:=by
 refine N.FOe.1.Dl zf λH vs Q E l h=>?_;obtain⟨x,bs,rk,ks,ls,j,r,n,rfl,O,s,q⟩:=h;have t:=Fi l;refine⟨_,Ag<|Ax<|Ar Bt (BL N.FCa (lC N T) l<|Aa (G7 RL (De (pv 0) U) JQ<|Ej<|Hf t (De (pv 0) U) (pv 1)<|λ_ _=>rfl) Ab)<|pv 2,?_⟩;obtain⟨⟨Y,fs,bl,bn,kp,kr,oQ,qv,rL,L,i,l1,l2,l3,l4,lm,h2,h3,h4,h5,h6,h7,h8,h9⟩,xl,wv,xA⟩:=id O.o;obtain⟨G,J,X,rn,pp,kl,b,EZ,yY,p,u,S,m3,m4,y,m,R,V,g6,g7,lv,Z,g9⟩:=id O.r;obtain⟨A,D⟩:G=Y/\J=fs:=by rw[i] at p;cases p;exact⟨U,U⟩
 subst A D;have hj:j<rk.length:=(ag.mp s).1;have B:=m.length;rw[ah] at B;have g:=Gf.k (k:=δ r.1) R;rw[V j r s] at g;refine⟨C,_,_,_,i,T.cl,T.n_rank_list,u,C,_,_,_,i,T.cl,T.n_rank_numbers,S,_,g,X,b,U,oz y,λc v=>?_⟩;have f:=Ay (o:=HO.lst<|HQ b _n<|some (j:_i)) v;have e:upd H c (HO.lst<|HQ b _n<|some (j:_i)) c=_:=Ai;generalize upd H c (HO.lst (HQ b _n (_a (j:_i))))=H6 at f e |-;rw[OJ b j (by lia)] at e;refine⟨c,(rk.map b_).take j,b.take j,U,e,IK (Ao f m) j,(by rw[cE,ah];have:=O.nr;lia),(λa z=>by obtain⟨F,d,rfl⟩:=ay.mp<|gS z;exact bo (O.nz F d)<|by decide),λW I=>?_⟩;have M:(((rk.map b_).take j).map λa=>a.2.1)=(rk.take j).map (λr=>r.2.1):=by
  rw[<-ku,bi];rfl
 rw[M];exact q W<|f.trans I
def Yh(l:_b _d):Nat:=l.foldl (· ||| ·) 0
theorem TV(l:_b _d)(n:_d):Yh (l++[n])=Yh l ||| n:=by
 unfold Yh;rw[oe];rfl
theorem M9:∀(l:_b _d)(i:_d),(Yh l).testBit i=_h ↔ ∃n∈l,n.testBit i=true:=by
 have f:∀(k:_d)(l:_b _d)(i:_d),l.length=k->((Yh l).testBit i=_h ↔ ∃n∈l,n.testBit i=_h):=by
  intro k
  induction k with
  |zero =>
   intro l i h
   cases l with
   |nil=>exact⟨λz=>_D z (by unfold Yh;rw[List.foldl_nil,ø];decide),λ⟨n,d,_⟩=>nomatch d⟩
   |cons a b=>cases h
  |succ k g =>
   intro l i h;obtain⟨a,z,rfl⟩:=FW (l:=l)<|by intro e;rw[e] at h;cases h
   rw[av,bt] at h;rw[TV,Zm,g a i<|by lia];constructor
   .rintro (⟨n,d,c⟩ | c)
    .exact⟨n,cm _ d,c⟩
    .exact⟨z,by simp,c⟩
   .rintro⟨n,d,c⟩;rcases aE.mp d with h | h
    .exact .inl ⟨n,h,c⟩
    .rw[al.mp h] at c;exact .inr c
 exact λl i=>f l.length l i U
inductive iD(vs:_b V)(H:Hp)(Q:VK)(f6:XK):Prop
|mk(p:_g)(l:_b _d)(_:vs=[.ref p])(_:H p=_a (.lst (nV l)))(_:l.length<=500)(_:Q (.int (Yh l:_d)) H)
theorem fV:Aq ["sets","some","each"] ["sets"] (Ae sUn):=Bh
include N T in
theorem lL:BX P w K mg base BW 1 aD.Un ["sets"] iD:=by
 refine N.FUn.1.Dl fV λH m Q E k h=>?_;obtain⟨p,l,rfl,j,o,q⟩:=h;refine⟨_,(Af (BP (i:=1) fV.nd U (Or.inl U) Ac)
  (Af (DQ _U U (BZ<|pv 0) (Bg (i:=2) fV.nd U<|Or.inl U)<|Ag<|BP (i:=1) fV.nd U (Or.inl U)<|Ar cM (pv 1)<|pv 2)
  (Ag<|Ax<|pv 1))),?_⟩
 have e:Cp K H p<|nV l:=.inl<|.inl j
 refine⟨⟨_,e⟩,Dk (K:=K) (a:=p) (xs:=nV l) (λi σ b=>b=H/\∃c,σ=[_a (.ref p),_a<|.int (Yh (l.take i):_d),c]) ⟨U,_,U⟩ (λi σ b _ h=>by rw[h.1];exact e) ?_ ?_⟩
 .rintro i y σ b d ⟨rfl,c,rfl⟩;rw[ar] at d;obtain⟨n,f,rfl⟩:=aS.mp d;refine⟨U,_a<|.int (n:_i),?_⟩;try dsimp only
  rw[Qp,ck,f];show _=[_a (V.ref p),_a<|V.int ((Yh (l.take i++[n]):_d):_i),_];rw[TV];rfl
 .rintro σ b ⟨rfl,c,rfl⟩;have g:l.take (nV l).length=l:=Č<|by simp
  rw[g];exact q
noncomputable def Jy(d3:_b Kb)(k:_d):Nat:=match d3[k]? with
 |some (.pl _ b)=>b
 |some (.cp b _ _)=>b
 |none=>0
theorem Ws{k:_d}(h:(Cy c d3)[k]? = _a r):∃rs,r=⟨r.w,r.nm,.str (c<|Jy d3 k)::rs⟩:=by
 obtain⟨z,a,rfl⟩:=En h;unfold Jy;rw[a]
 cases z with
 |cp i j s=>exact⟨_,U⟩
 |pl w i=>exact⟨_,U⟩
theorem bO{k:_d}{z:Kb}(h:Vo n d3)(hz:d3[k]? = _a z):Jy d3 k<n:=by
 have a:=h.ok z<|am hz
 unfold Jy;rw[hz]
 cases z with
 |cp i j s=>exact a.1
 |pl w i=>exact a.1
inductive Ww(d3:_b Kb)(D b:_d):Prop
|mk(k:_d)(z:Kb)(_:d3[k]? = _a z)(_:z.w = "mute")(_:D.testBit k=_h)(_:Jy d3 k=b)
inductive mD(C:_g)(vs:_b V)(H:Hp)(Q:VK)(f6:XK):Prop
|mk(x:_g)(c:_d->_A)(sz:_b _d)(d3:_b Kb)(D:_d)(_:vs=[.ref x,.int (D:_d)])(_:EY C H x (Bj c sz) (Cy c d3))(_:Vo sz.length d3)(_:∀L (ml:_b _d) H',H L=_n->Al H H'->H' L=_a (.lst (nV ml))->(∀b,b∈ml ↔ Ww d3 D b)->ml.length<=200->Q (.ref L) H')
theorem scMu:Aq na na<|Ae sMu:=Bh
include N T in
theorem ud:BX P w K mg base BW 3 aD.Mu na<|mD C:=by
 refine N.FMu.1.Dl scMu λH vs Q E a h=>?_;obtain⟨x,c,sz,f,D,rfl,O,Y,q⟩:=h;refine⟨_,Ag<|Ax<|Bm U (BR (osc:=Ae sMu) (N:=na) U U<|by decide) (BZ<|BL N.FDc (cF N T) a<|Aa (pv 0)<|Aa (pv 1)<|Aa CQ Ab) (λ_ _ _ _=>CJ)<|λ_ _ _ _=>(NB (pv 1) T.cl N.FOm (wG N T) a<|Aa (pv 0) Ab),?_⟩;refine⟨x,Bj c sz,Cy c f,"mute",D,U,O,λX s H1 TN t A d L=>?_⟩;have n:Cp K H1 X<|nV s:=.inl<|.inl A
 have F:=O.mono t;let g:V->V:=λv=>match v with | .int k=>.int (Jy f k.toNat:_d) | _=>.non
 refine⟨⟨_,n⟩,DG (K:=K) (xs:=nV s) (λ_=>_h) g n (Aw<|by rw[ah];lia) (λy B l u R k=>k l<|Al.refl l) (λy B _ l u R k=>?_)<|λD2 W MW s2 j=>?_⟩
 .obtain⟨i,hi,rfl⟩:=ay.mp B;obtain⟨r,a,p,o⟩:=(d i).mp hi;obtain⟨Z,er⟩:=Ws a;rw[er] at a;obtain⟨z,m,_⟩:=En a;have G:=bO Y m;obtain⟨⟨dx,fs,bl,bn,kp,kr,oQ,qv,rL,I,h1,l1,l2,l3,l4,J,_⟩,_⟩:=id<|F.mono u;have S:=k l<|Al.refl l
  refine⟨dx,fs,h1,J _<|by decide,x,Bj c sz,Cy c f,i,Jy f i,(c<|Jy f i,sz[Jy f i]),_,_,Z,U,F.mono u,a,Eg<|af G,S⟩
 .rw[bX.mpr (λ_ _=>rfl)] at j;have e:(nV s).map g=nV (s.map<|Jy f):=by
   unfold nV;rw[bi,bi];rfl
  rw[e] at j;refine q D2 _ W (t.free MW) (t.trans s2) j (λb=>?_)<|by rw[ah];exact L
  rw[ay];constructor
  .rintro⟨k,M,rfl⟩;obtain⟨r,a,p,o⟩:=(d k).mp M;obtain⟨z,m,rfl⟩:=En a;exact⟨k,z,m,(Jt _ _ _).symm.trans p,o,U⟩
  .rintro⟨k,z,m,p,o,rfl⟩;exact⟨k,(d k).mpr ⟨_,Fb m,(Jt _ _ _).trans p,o⟩,U⟩
inductive sO(sz:_b _d)(i b:_d):Prop
|mk(n:_)(_:n<sz.getD b 0)(_:b<sz.length)(_:i=(sz.take b).sum+n)
theorem dJ{sz:_b _d}{a:_d}(h:(GQ<|Bj c sz)[i]? = _a (a,n)):sO sz i a:=by
 obtain⟨b,f,g,d⟩:=eU h;obtain⟨z,e,rfl⟩:=HB f;rw[D_] at d;refine⟨n,?_,(ag.mp e).1,d⟩;rw[ax,e];exact g
theorem bG{sz:_b _d}{a b:_d}(f:sO sz i a)(p:sO sz i b):a=b:=by
 obtain⟨n,g,d,rfl⟩:=f;obtain⟨m,k,j,e⟩:=p;have c:∀{a b n m:_d},a<b->b<sz.length->n<sz.getD a 0->(sz.take a).sum+n≠(sz.take b).sum+m:=λ{a b n m} l j g e=>by
  have f:(sz.take<|a+1).sum<=(sz.take b).sum:=Qy sz<|by lia
  have d:a<sz.length:=by lia
  rw[ck,af d,gu] at f;rw[ax,af d] at g;have o:n<sz[a]:=g;simp at f;lia
 rcases og a b with h | h | h
 .exact _D e<|c h j g
 .exact h
 .exact _D e.symm<|c h d k
inductive qX(C:_g)(vs:_b V)(H:Hp)(Q:VK)(f6:XK):Prop
|mk(x:_g)(c:_d->_A)(sz:_b _d)(d3:_b Kb)(D n:_d)(_:vs=[.ref x,.int (D:_d),.int (n:_d)])(_:EY C H x (Bj c sz) (Cy c d3))(_:Vo sz.length d3)(_:n<2 ^ 1200)(_:∀i,n.testBit i=_h->i<sz.sum)(_:sz.sum<=305)(_:∀(m:_d) H',Al H H'->(∀j,m.testBit j=_h ↔ n.testBit j=_h/\∀b,sO sz j b->¬ Ww d3 D b)->Q (.int (m:_d)) H')
theorem yI:Aq ["organ","knobs","keys","muted"] fx (Ae sUk):=Bh
include N T in
theorem tX:BX P w K mg base BW 4 aD.Uk fx<|qX C:=by
 refine N.FUk.1.Dl yI λH vs Q E B h=>?_;obtain⟨x,c,sz,Z,D,n,rfl,O,qk,Y,J,pf,q⟩:=h;refine⟨_,(Af (BP (i:=3) yI.nd U (Or.inr U)<|BL N.FMu (ud N T) B<|Aa (pv 0)<|Aa (pv 1) Ab)
  (Ag<|Ax<|BL N.FSt (Ym N T) B<|Aa (Bm U (BR (osc:=Ae sUk) (N:=["organ","knobs","keys","muted"]) U U<|by decide) (BZ<|BL N.FMe (Z1 N T) B<|Aa (pv 2) Ab) (λ_ _ _ _=>(HF<|Bb (Ja (K:=K) U) (Av (Am (K:=K) U) (NB (pv 1) T.cl N.FOo (lK N T) B<|Aa (pv 0) Ab) Ac<|λ_ _=>rfl) (pv 4) U))<|λ_ _ _ _=>(pv 0)) Ab)),?_⟩
 refine⟨x,c,sz,Z,D,U,O,qk,λML f H1 Se s1 X t ac=>?_⟩;refine⟨n,U,Y,λP1 H2 an S L=>?_⟩;have r:Cp K H2 P1<|nV<|Wd.mem n:=.inl<|.inl L
 have O2:=O.mono<|s1.trans S
 have aa:=Wd.Ip Y;have ab:(Wd.mem n).length<=305:=by
  have nd:(Wd.mem n).Nodup:=by unfold Wd.mem;exact ć _ List.nodup_range
  refine bo (Fp sz.sum nd λi g=>J i<|Wd.mem_iff.mp g) pf
 have e:∀{i},i∈Wd.mem n->∃a m,(GQ<|Bj c sz)[i]? = _a (a,m):=λ{i} g=>by
  have M:i<(GQ<|Bj c sz).length:=by rw[GK,D_];exact J i<|Wd.mem_iff.mp g
  exact⟨_,_,af M⟩
 let p:V->Bool:=λv=>match v with | .int i=>(match (GQ<|Bj c sz)[i.toNat]? with | some (a,_)=>!decide (a∈f) | none=>_h) | _=>_h
 refine⟨⟨_,r⟩,DG (K:=K) (xs:=nV<|Wd.mem n) p id r (Aw<|by rw[ah];lia) (λy hy o F R k=>?_) (λy hy _ o F R k=>k o<|Al.refl o)<|λD3 H3 JO s3 G=>?_⟩
 .obtain⟨i,g,rfl⟩:=ay.mp hy;obtain⟨a,m,d⟩:=e g;have A:p (V.int (i:_d)) = !decide (a∈f):=by
   show (match (GQ<|Bj c sz)[((i:_d):_i).toNat]? with | some (a,_)=>!decide (a∈f) | none=>_h)=_;rw[aI,d]
  have kk:=k o<|Al.refl o
  rw[A] at kk;obtain⟨⟨dx,fs,bl,bn,kp,kr,oQ,qv,rL,ap,l,l1,l2,l3,l4,lm,_⟩,_⟩:=id<|O2.mono F;refine⟨dx,fs,l,lm _<|by decide,x,Bj c sz,Cy c Z,i,(a,m),U,O2.mono F,d,λyv X9=>?_⟩;obtain⟨T0,rfl,hT⟩:=X9;refine⟨_,_,oz hT,Aj (j:=0) U,_,.inl<|oz<|F _ _<|S _ _ X,U,R7 f,?_⟩;have W:inV (V.int (a:_d)) (nV f)=decide (a∈f):=gC a f;rw[W];exact kk
 .rw[on] at G;have e3:(nV<|Wd.mem n).filter p=nV ((Wd.mem n).filter λi=>p<|.int (i:_d)):=by
   unfold nV;rw[fm];rfl
  rw[e3] at G;have u:∀i∈(Wd.mem n).filter (λi=>p<|.int (i:_d)),i<sz.sum:=λi g=>J i<|Wd.mem_iff.mp (cy.mp g).1
  refine⟨D3,_,U,G,bo (dE _ _)<|by lia,λi g=>by have:=u i g;lia,λH4 s4=>?_⟩;refine q _ H4 (s1.trans<|S.trans<|s3.trans s4) λj=>?_;rw[Wd.Ft,_N,cy,Wd.mem_iff];constructor
  .rintro⟨l,s⟩;refine⟨l,λb hb hm=>?_⟩;obtain⟨a,m,d⟩:=e<|Wd.mem_iff.mpr l;have A:p (V.int (j:_d)) = !decide (a∈f):=by
    show (match (GQ<|Bj c sz)[((j:_d):_i).toNat]? with | some (a,_)=>!decide (a∈f) | none=>_h)=_;rw[aI,d]
   rw[A] at s;have I:=bG hb<|dJ d
   subst I;rw[_v ((t b).mpr hm)] at s
   cases s
  .rintro⟨l,s⟩;refine⟨l,?_⟩;obtain⟨a,m,d⟩:=e<|Wd.mem_iff.mpr l;have A:p (V.int (j:_d)) = !decide (a∈f):=by
    show (match (GQ<|Bj c sz)[((j:_d):_i).toNat]? with | some (a,_)=>!decide (a∈f) | none=>_h)=_;rw[aI,d]
   rw[A,_L λz=>s a (dJ d)<|(t a).mp z];rfl
def VJ(c:_d->_A)(sz:_b _d)(d3:_b Kb)(D n j:_d):Prop:=Su (stp (Bj c sz) d3 D) (λi=>n.testBit i=_h) j \/ (n.testBit j=_h/\∀b,sO sz j b->¬ Ww d3 D b)
inductive qP(C:_g)(vs:_b V)(H:Hp)(Q:VK)(f6:XK):Prop
|mk(x:_g)(c:_d->_A)(sz:_b _d)(d3:_b Kb)(D n:_d)(_:vs=[.ref x,.int (D:_d),.int (n:_d)])(_:EY C H x (Bj c sz) (Cy c d3))(_:Vo sz.length d3)(_:n<2 ^ 1200)(_:∀i,n.testBit i=_h->i<sz.sum)(_:∀(m:_d) H',Al H H'->(∀j,m.testBit j=_h ↔ VJ c sz d3 D n j)->Q (.int (m:_d)) H')
theorem yt:Aq ef ef<|Ae sSk:=Bh
include N T in
theorem wA:BX P w K mg base BW 6 aD.Sk ef<|qP C:=by
 refine N.FSk.1.Dl yt λH t Q E e h=>?_;obtain⟨x,c,sz,g,D,n,rfl,O,l,d,f,q⟩:=h;refine⟨_,Ag<|Ax<|Ar cM (BL N.FCq (wL N T) e<|Aa (pv 0)<|Aa (pv 1)<|Aa (pv 2) Ab)<|BL N.FUk (tX N T) e<|Aa (pv 0)<|Aa (pv 1)<|Aa (BL N.FHk (ju N T) e<|Aa (pv 0)<|Aa (pv 2) Ab) Ab,?_⟩;have a:((Bj c sz).map (·.2)).sum=sz.sum:=by rw[D_]
 have o:=GF O;rw[a] at o;refine⟨x,c,sz,g,D,n,U,O,l,d,f,λm u b p=>?_⟩;refine⟨x,Bj c sz,Cy c g,n,U,O.mono b,d,?_⟩;rw[a,WW f];refine⟨x,c,sz,g,D,n,U,O.mono b,l,d,f,o,λi k s r=>?_⟩;show Q (.int<|Ī (m:_i) (i:_i)) k;rw[Qp];refine q (m ||| i) k (b.trans s) λj=>?_;rw[Zm,p,r];rfl
def d8(sz:_b _d)(b n:_d):Nat:=Wd.mv n (-((sz.take b).sum:_i))<|sz.getD b 0
theorem aH(n:_d)(k:_i)(c:_d):Wd.mv n k c<2 ^ c:=by
 unfold Wd.mv;exact tj _<|Nat.two_pow_pos _
inductive mJ(C:_g)(vs:_b V)(H:Hp)(Q:VK)(f6:XK):Prop
|mk(x:_g)(c:_d->_A)(sz:_b _d)(ks:_b R)(b n:_d)(_:vs=[.ref x,.int (b:_d),.int (n:_d)])(_:EY C H x (Bj c sz) ks)(_:b<sz.length)(_:n<2 ^ 1200)(_:∀H',Al H H'->Q (.int (d8 sz b n:_d)) H')
theorem wK:Aq ["organ","board","keys","told"] oS (Ae sNb):=Bh
include N T in
theorem wU:BX P w K mg base BW 3 aD.Nb oS<|mJ C:=by
 refine N.FNb.1.Dl wK λH vs Q E r h=>?_;obtain⟨x,c,sz,s,b,n,rfl,O,z,G,q⟩:=h;refine⟨_,(Af (BP (i:=3) wK.nd U (Or.inl U)<|Av (Bu (K:=K) U) (J5 (pv 0) T.cl N.FOb (lH N T) r) (pv 1)<|λ_ _=>rfl)
  (Ag<|Ax<|BL N.FSh (aX N T) r<|Aa (pv 2)<|Aa (K8 Jo<|NB (pv 0) T.cl N.FOk (j5 N T) r<|Aa (Av (Am (K:=K) U) (pv 3) Ac<|λ_ _=>rfl)<|Aa Ac Ab)<|Aa (Av (Am (K:=K) U) (pv 3) Ac<|λ_ _=>rfl) Ab)),?_⟩
 have V:=GF O;rw[D_] at V;have Y:(sz.take b).sum<=sz.sum:=by
  have:=congrArg q5<|eR b sz
  rw[gu] at this;lia
 have e:(Bj c sz)[b]? = _a (c b,sz[b]):=Eg<|af z
 have p:=O.sz (c b,sz[b])<|am e
 have F:sz[b]<=61:=p;have a:(((Bj c sz).take b).map (·.2)).sum=(sz.take b).sum:=by rw[ku,D_]
 have v:sz.getD b 0=sz[b]:=by rw[ax,af z];rfl
 have d:∀{A:Hp},EY C A x (Bj c sz) s->∃f fs,A x=_a (.ins C f fs)/\∀m∈meths,fs.lookup m=none:=λL=>by
  obtain⟨⟨f,fs,_,_,_,_,_,_,_,_,W,_,_,_,_,g,_⟩,_⟩:=L;exact⟨f,fs,W,g⟩
 obtain⟨f,fs,R,g⟩:=d O;refine⟨f,fs,R,g _<|by decide,x,Bj c sz,s,U,O,λD M H2 Z t o u=>?_⟩;obtain⟨v3,J,T3,rfl,y⟩:=Cj u e;refine⟨M,_,oz o,Aj J,?_⟩;obtain⟨S,k,l,X⟩:=d<|O.mono t;refine⟨S,k,l,X _<|by decide,_,_,oz y,Aj (j:=0) U,x,Bj c sz,s,b,(c b,sz[b]),0,U,O.mono t,e,λI B=>?_⟩;refine⟨_,_,oz<|B _ _ y,Aj (j:=1) U,n,_,sz[b],U,G,?_,?_,by lia,?_⟩
 .rw[a];lia
 .rw[a];lia
 .have fin:=q I<|t.trans B
  unfold d8 at fin;rw[v] at fin;rw[a,_ap];exact fin
def lq(rk:_b<|_A×_d×_i)(r:_d):Nat:=((rk.take r).map<|λr=>r.2.1).sum
def VB(rk:_b<|_A×_d×_i)(r:_d):Nat:=(rk.map<|λr=>r.2.1).getD r 0
def ak(rk:_b<|_A×_d×_i):Nat:=(rk.map<|λr=>r.2.1).sum
structure sW(rk:_b<|_A×_d×_i)(l:Ln):Prop where
 r:l.r<rk.length
 lo:0<=l.lo
 le:l.lo<=l.hi
 hi:l.hi<=60
 s1 : -200<=l.sh
 s2:l.sh<=200
noncomputable def Rp(rk:_b<|_A×_d×_i)(l:Ln)(n:_d):Nat:=Wd.mv (Wd.mv (Wd.mv n (-l.lo) (l.hi - l.lo+1).toNat) (l.lo+l.sh)<|VB rk l.r) (lq rk l.r:_d)<|ak rk
theorem Vw{rk:_b (_A×_d×_i)}{r:_d}(h:r<rk.length):lq rk r+VB rk r<=ak rk:=by
 unfold lq VB ak;have e:((rk.map<|λr=>r.2.1).take<|r+1).sum=((rk.take r).map<|λr=>r.2.1).sum+(rk.map<|λr=>r.2.1).getD r 0:=by
  rw[ck,af<|by rw[ah];exact h,gu,ku,ax,af<|by rw[ah];exact h];simp
 have:=congrArg q5<|eR (r+1)<|rk.map<|λr=>r.2.1
 rw[gu] at this;lia
theorem qJ{rk:_b (_A×_d×_i)}(a:rk.length<=12)(f:∀r∈rk,r.2.1<=97):ak rk<=1164:=by
 have h:=Qc (rk.map nW) 97 λb c=>by
  obtain⟨r,d,rfl⟩:=ay.mp c;exact f r d
 rw[GK,bi,ah] at h;have:rk.length * 97<=12 * 97:=mh _ a;have e:ak rk=(rk.map ((·.2) ∘ nW)).sum:=rfl;lia
inductive mG(C:_g)(vs:_b V)(H:Hp)(Q:VK)(f6:XK):Prop
|mk(x:_g)(bs:_b (_A×_d))(rk:_b (_A×_d×_i))(ks:_b R)(ls:_b (_b Ln:_))(y:V)(l:Ln)(n:_d)(_:vs=[.ref x,y,.int (n:_d)])(_:Ds C H x bs rk ks ls)(_:TupAt H (gF l) y)(_:sW rk l)(_:n<2 ^ 1200)(_:∀H',Al H H'->Q (.int (Rp rk l n:_d)) H')
theorem iR:Aq ["organ","line","numbers","rank","from_low","on_rank"] nK (Ae sLl):=Bh
include N T in
theorem vH:BX P w K mg base BW 3 aD.Ll nK<|mG C:=by
 refine N.FLl.1.Dl iR λH vs Q E d h=>?_;obtain⟨x,bs,rk,s,t,y,l,n,rfl,O,hy,b,hn,q⟩:=h;refine⟨_,(Af (BP (i:=3) iR.nd U (Or.inl U)<|Av (Bu (K:=K) U) (J5 (pv 0) T.cl N.FOr (vy N T) d) (Av (Am (K:=K) U) (pv 1) Ac<|λ_ _=>rfl)<|λ_ _=>rfl)
  (Af (BP (i:=4) iR.nd U (Or.inl U)<|BL N.FSh (aX N T) d<|Aa (pv 2)<|Aa (K8 Jo<|Av (Am (K:=K) U) (pv 1) Ac<|λ_ _=>rfl)<|Aa (Ar Bt (Ar El (Av (Am (K:=K) U) (pv 1) Ac<|λ_ _=>rfl)<|Av (Am (K:=K) U) (pv 1) Ac<|λ_ _=>rfl) Ac) Ab)
  (Af (BP (i:=5) iR.nd U (Or.inl U)<|BL N.FSh (aX N T) d<|Aa (pv 4)<|Aa (Ar Bt (Av (Am (K:=K) U) (pv 1) Ac<|λ_ _=>rfl)<|Av (Am (K:=K) U) (pv 1) Ac<|λ_ _=>rfl)<|Aa (Av (Am (K:=K) U) (pv 3) Ac<|λ_ _=>rfl) Ab)
  (Ag<|Ax<|BL N.FSh (aX N T) d<|Aa (pv 5)<|Aa (NB (pv 0) T.cl N.FOe (wF N T) d<|Aa (Av (Am (K:=K) U) (pv 3) Ac<|λ_ _=>rfl)<|Aa Ac Ab)<|Aa (J5 (pv 0) T.cl N.FOq (sZ N T) d) Ab)))),?_⟩
 obtain⟨T0,rfl,hT⟩:=hy;have ab:=qJ O.nr O.nz;have o:l.r<rk.length:=b.r;have ac:=Vw o;have I:=af o;have aa:rk[l.r].2.1<=97:=O.nz _<|de b.r
 have v:VB rk l.r=rk[l.r].2.1:=by
  unfold VB;rw[ax,ar,I];rfl
 have f:(GQ<|rk.map nW).length=ak rk:=by
  rw[GK,bi];rfl
 have Z:=b.lo;have h2:=b.le;have h3:=b.hi;have h4:=b.s1;have h5:=b.s2;have a:∀{X:Hp},Ds C X x bs rk s t->∃k fs,X x=_a (.ins C k fs)/\∀m∈meths,fs.lookup m=none:=λO'=>by
  obtain⟨⟨k,fs,_,_,_,_,_,_,_,_,Z,_,_,_,_,z,_⟩,_⟩:=O'.o;exact⟨k,fs,Z,z⟩
 obtain⟨k,fs,hx,z⟩:=a O;refine⟨k,fs,hx,z _<|by decide,x,bs,rk,s,t,U,O,λD qo H2 hD e B G=>?_⟩;have c:=e _ _ hT;have g:(rk.map b_)[l.r]? = _a (b_ rk[l.r]):=by rw[ar,I];rfl
 obtain⟨v3,EU,T3,rfl,zC⟩:=Cj G g;refine⟨_,_,oz c,Aj (j:=0) U,qo,_,oz B,Aj EU,?_⟩;have e1:l.hi - l.lo+1=(((l.hi - l.lo+1).toNat:_d):_i):=by lia
 refine⟨_,_,oz c,Aj (j:=2) U,_,_,oz c,Aj (j:=3) U,_,_,oz c,Aj (j:=2) U,n,-l.lo,(l.hi - l.lo+1).toNat,by rw[<-e1] <;> rfl,hn,by lia,by lia,by lia,?_⟩;have Y:=aH n (-l.lo) (l.hi - l.lo+1).toNat;generalize V:Wd.mv n (-l.lo) (l.hi - l.lo+1).toNat=p at Y |-;have S:p<2 ^ 1200:=ba Y<|gT (by decide)<|by lia
 refine⟨_,_,oz c,Aj (j:=2) U,_,_,oz c,Aj (j:=1) U,_,_,oz zC,Aj (j:=1) U,p,l.lo+l.sh,rk[l.r].2.1,U,S,by lia,by lia,by lia,?_⟩;have n2:=aH p (l.lo+l.sh) rk[l.r].2.1;generalize u:Wd.mv p (l.lo+l.sh) rk[l.r].2.1=W at n2 |-;have L:W<2 ^ 1200:=ba n2<|gT (by decide)<|by lia
 obtain⟨GS,J,A,F9⟩:=a<|O.mono e;refine⟨GS,J,A,F9 _<|by decide,_,_,oz zC,Aj (j:=0) U,x,bs,rk,s,t,l.r,rk[l.r],0,U,O.mono e,I,λH3 F=>?_⟩;obtain⟨Ya,M,EQ,R⟩:=a<|(O.mono e).mono F;refine⟨Ya,M,EQ,R _<|by decide,x,bs,rk,s,t,U,(O.mono e).mono F,W,_,(GQ<|rk.map nW).length,U,L,?_,?_,?_,?_⟩
 .lia
 .have:((rk.take l.r).map<|λr=>r.2.1).sum=lq rk l.r:=rfl;lia
 .lia
 .have fin:=q H3<|e.trans F
  unfold Rp at fin;rw[V,v,u] at fin;rw[f,_ap];exact fin
def yR(H:Hp):V->Ln
 |.ref T=>match H T with
  |some (.tup [.int r,.int sh,.int lo,.int hi])=>⟨r.toNat,sh,lo,hi⟩
  |_=>⟨0,0,0,0⟩
 |_=>⟨0,0,0,0⟩
theorem bf{l:Ln}{v:V}(h:TupAt H (gF l) v):yR H v=l:=by
 obtain⟨T,rfl,e⟩:=h;show (match H T with | some (.tup [.int r,.int sh,.int lo,.int hi])=>(⟨r.toNat,sh,lo,hi⟩:Ln) | _=>⟨0,0,0,0⟩)=l;rw[e];show (⟨((l.r:_d):_i).toNat,l.sh,l.lo,l.hi⟩:Ln)=l;rw[aI]
theorem fK{l:_b Ln}(h:Paired (λx y=>TupAt H (gF x) y) l vs):vs.map (yR H)=l:=by
 induction h with
 |nil=>rfl
 |cons x y a=>rw[df,a,bf x]
def kW(sz:_b _d)(rk:_b<|_A×_d×_i)(b:_d)(l:_b Ln)(n:_d):Nat:=Yh<|l.map λln=>Rp rk ln<|d8 sz b n
inductive ql(C:_g)(vs:_b V)(H:Hp)(Q:VK)(f6:XK):Prop
|mk(x:_g)(c:_d->_A)(sz:_b _d)(rk:_b (_A×_d×_i))(d3:_b Kb)(ls:_b (_b Ln:_))(k n:_d)(z:Kb)(l:_b Ln)(_:vs=[.ref x,.int (k:_d),.int (n:_d)])(_:Ds C H x (Bj c sz) rk (Cy c d3) ls)(_:Vo sz.length d3)(_:d3[k]? = _a z)(_:ls[k]? = _a l)(_:l.length<=100)(_:∀ln∈l,sW rk ln)(_:n<2 ^ 1200)(_:∀H',Al H H'->Q (.int (kW sz rk (Jy d3 k) l n:_d)) H')
theorem qI:Aq nI pi<|Ae sBs:=Bh
include N T in
theorem xg:BX P w K mg base BW 4 aD.Bs pi<|ql C:=by
 refine N.FBs.1.Dl qI λH vs Q E b h=>?_;obtain⟨x,c,sz,rk,a,u,k,n,z,l,rfl,O,qk,Z,hl,WZ,hg,hn,q⟩:=h;refine⟨_,(Af (BP (i:=3) qI.nd U (Or.inl U)<|NB (pv 0) T.cl N.FOs (uM N T) b<|Aa (pv 1) Ab)
  (Af (BP (i:=4) qI.nd U (Or.inr U)<|BL N.FNb (wU N T) b<|Aa (pv 0)<|Aa (Av (Am (K:=K) U) (pv 3) Ac<|λ_ _=>rfl)<|Aa (pv 2) Ab)
  (Ag<|Ax<|BL N.FUn (lL N T) b<|Aa (Bm U (BR (osc:=Ae sBs) (N:=nI) U U<|by decide) (BZ<|Av (Am (K:=K) U) (pv 3) Ac<|λ_ _=>rfl) (λ_ _ _ _=>CJ)<|λ_ _ _ _=>(BL N.FLl (vH N T) b<|Aa (pv 1)<|Aa (pv 0)<|Aa (pv 5) Ab)) Ab))),?_⟩
 have b:=Fb (c:=c) Z;obtain⟨rs,er⟩:=Ws b;rw[er] at b;have B:=bO qk Z;have o:(Bj c sz)[Jy a k]? = _a (c<|Jy a k,sz[Jy a k]):=Eg<|af B
 have f:∀{d:Hp},Ds C d x (Bj c sz) rk (Cy c a) u->∃r fs,d x=_a (.ins C r fs)/\∀m∈meths,fs.lookup m=none:=λO'=>by
  obtain⟨⟨r,fs,_,_,_,_,_,_,_,_,h1,_,_,_,_,G,_⟩,_⟩:=O'.o;exact⟨r,fs,h1,G⟩
 obtain⟨r,fs,hx,G⟩:=f O;refine⟨r,fs,hx,G _<|by decide,x,Bj c sz,rk,Cy c a,u,k,Jy a k,(c<|Jy a k,sz[Jy a k]),_,_,rs,l,U,O,b,o,hl,λT0 L0 A H1 _ X S D BB=>?_⟩;have O1:=O.mono X;refine⟨_,_,oz S,Aj (j:=0) U,x,c,sz,Cy c a,Jy a k,n,U,O1.o,B,hn,λL p=>?_⟩;have O2:=O1.mono p;have ZA:=aH n (-((sz.take<|Jy a k).sum:_i))<|sz.getD (Jy a k) 0
 have aa:sz.getD (Jy a k) 0<=61:=by
  rw[ax,af B];exact O.o.sz _<|am o
 have g:d8 sz (Jy a k) n<2 ^ 1200:=ba ZA<|gT (by decide)<|by lia
 have Lc:=p _ _ D;have F:=Ao p BB;have ab:=F.length;have s:Cp K L L0 A:=.inl<|.inl Lc
 refine⟨_,_,oz<|p _ _ S,Aj (j:=1) U,⟨_,s⟩,DG (K:=K) (xs:=A) (λ_=>_h) (λv=>.int (Rp rk (yR L v) (d8 sz (Jy a k) n):_d)) s (Aw<|by lia) (λy M d J R k=>k d<|Al.refl d) (λy M _ d J R Y=>?_)<|λD3 H3 JO s3 I=>?_⟩
 .obtain⟨t,sB,W⟩:=Dq F M;have e:=bf W;rw[e] at Y;exact⟨x,Bj c sz,rk,Cy c a,u,y,t,_,U,O2.mono J,W.mono J,hg t sB,g,λH4 s4=>Y H4 s4⟩
 .rw[bX.mpr (λ_ _=>rfl)] at I;have e3:(A.map λv=>V.int (Rp rk (yR L v) (d8 sz (Jy a k) n):_d))=nV (l.map λt=>Rp rk t<|d8 sz (Jy a k) n):=by
   rw[<-fK F];unfold nV;rw[bi,bi];rfl
  rw[e3] at I;exact⟨D3,_,U,I,by rw[ah];lia,q H3<|X.trans<|p.trans s3⟩
def ni(sz:_b _d)(rk:_b<|_A×_d×_i)(d3:_b Kb)(ls:_b<|_b Ln)(cl:_b _d)(n:_d):Nat:=Yh<|cl.map λk=>kW sz rk (Jy d3 k) (ls.getD k []) n
abbrev jx(rk:_b<|_A×_d×_i)(ls:_b<|_b Ln):Prop:=∀l∈ls,l.length<=100/\∀ln∈l,sW rk ln
inductive my(C:_g)(vs:_b V)(H:Hp)(Q:VK)(f6:XK):Prop
|mk(x:_g)(c:_d->_A)(sz:_b _d)(rk:_b (_A×_d×_i))(d3:_b Kb)(ls:_b (_b Ln:_))(D n:_d)(_:vs=[.ref x,.int (D:_d),.int (n:_d)])(_:Ds C H x (Bj c sz) rk (Cy c d3) ls)(_:Vo sz.length d3)(_:jx rk ls)(_:n<2 ^ 1200)(_:∀(cl:_b _d) H',Al H H'->(∀k,k∈cl ↔ ∃z,d3[k]? = _a z/\z.w = "stop" /\ D.testBit k=_h)->Q (.int (ni sz rk d3 ls cl n:_d)) H')
theorem scBa:Aq fx fx<|Ae sBa:=Bh
include N T in
theorem vq:BX P w K mg base BW 5 aD.Ba fx<|my C:=by
 refine N.FBa.1.Dl scBa λH vs Q E p h=>?_;obtain⟨x,c,sz,rk,d,a,D,n,rfl,O,qk,xw,W,q⟩:=h;refine⟨_,Ag<|Ax<|BL N.FUn (lL N T) p<|Aa (Bm U (BR (osc:=Ae sBa) (N:=fx) U U<|by decide) (BZ<|BL N.FDc (cF N T) p<|Aa (pv 0)<|Aa (pv 1)<|Aa CQ Ab) (λ_ _ _ _=>CJ)<|λ_ _ _ _=>(BL N.FBs (xg N T) p<|Aa (pv 1)<|Aa (pv 0)<|Aa (pv 3) Ab)) Ab,?_⟩;refine⟨x,Bj c sz,Cy c d,"stop",D,U,O.o,λCL j H1 TN G A Y ET=>?_⟩;have l:∀k,k∈j ↔ ∃z,d[k]? = _a z/\z.w = "stop" /\ D.testBit k=true:=λk=>by
  rw[Y];constructor
  .rintro⟨r,p,t,s⟩;obtain⟨z,f,rfl⟩:=En p;exact⟨z,f,(Jt _ _ _).symm.trans t,s⟩
  .rintro⟨z,f,t,s⟩;exact⟨_,Fb f,(Jt _ _ _).trans t,s⟩
 have o:Cp K H1 CL<|nV j:=.inl<|.inl A
 have O1:=O.mono G;let g:V->V:=λv=>match v with | .int k=>.int (kW sz rk (Jy d k.toNat) (a.getD k.toNat []) n:_d) | _=>.non
 refine⟨⟨_,o⟩,DG (K:=K) (xs:=nV j) (λ_=>_h) g o (Aw<|by rw[ah];lia) (λy F u L R k=>k u<|Al.refl u) (λy F _ u L R k=>?_)<|λD2 Z MW s2 b=>?_⟩
 .obtain⟨i,hi,rfl⟩:=ay.mp F;obtain⟨z,f,t,s⟩:=(l i).mp hi;have m:i<a.length:=by
   rw[O.nl,K7];exact (ag.mp f).1
  have S:=af m;have B:a.getD i []=a[i]:=by rw[ax,S];rfl
  have I:=xw a[i] (de m);refine⟨x,c,sz,rk,d,a,i,n,z,a[i],U,O1.mono L,qk,f,S,I.1,I.2,W,λJ X=>?_⟩;have M:R (.int (kW sz rk (Jy d i) (a.getD i []) n:_d)) J:=k J X;rw[B] at M;exact M
 .rw[bX.mpr (λ_ _=>rfl)] at b;have e:(nV j).map g=nV (j.map λk=>kW sz rk (Jy d k) (a.getD k []) n):=by
   unfold nV;rw[bi,bi];rfl
  rw[e] at b;exact⟨D2,_,U,b,by rw[ah];lia,q j Z (G.trans s2) l⟩
inductive pH(C:_g)(vs:_b V)(H:Hp)(Q:VK)(f6:XK):Prop
|mk(x:_g)(c:_d->_A)(sz:_b _d)(rk:_b (_A×_d×_i))(d3:_b Kb)(ls:_b (_b Ln:_))(D n:_d)(_:vs=[.ref x,.int (D:_d),.int (n:_d)])(_:Ds C H x (Bj c sz) rk (Cy c d3) ls)(_:Vo sz.length d3)(_:jx rk ls)(_:n<2 ^ 1200)(_:∀i,n.testBit i=_h->i<sz.sum)(_:∀(cl:_b _d) (m:_d) H',Al H H'->(∀k,k∈cl ↔ ∃z,d3[k]? = _a z/\z.w = "stop" /\ D.testBit k=_h)->(∀j,m.testBit j=_h ↔ VJ c sz d3 D n j)->Q (.int (ni sz rk d3 ls cl m:_d)) H')
theorem zc:Aq ef ef<|Ae sSo:=Bh
include N T in
theorem tu:BX P w K mg base BW 7 aD.So ef<|pH C:=by
 refine N.FSo.1.Dl zc λH y Q E k h=>?_;obtain⟨x,c,sz,rk,g,l,D,n,rfl,O,j,v,p,f,q⟩:=h;refine⟨_,Ag<|Ax<|BL N.FBa (vq N T) k<|Aa (pv 0)<|Aa (pv 1)<|Aa (BL N.FSk (wA N T) k<|Aa (pv 0)<|Aa (pv 1)<|Aa (pv 2) Ab) Ab,?_⟩;have u:=GF O.o;rw[D_] at u;refine⟨x,c,sz,g,D,n,U,O.o,j,p,f,λm A e d=>?_⟩;have a:m<2 ^ 1200:=by
  refine ja m λi z=>?_;rw[<-fq];intro o;rcases (d i).mp o with h | h
  .have:=h.lt;rw[D_] at this;lia
  .have:=f i h.1;lia
 exact⟨x,c,sz,rk,g,l,D,m,U,O.mono e,j,v,a,λr s t b=>q r m s (e.trans t) b d⟩
theorem Aw(h:n<=40000):n<sizeLine:=bg h<|by decide
theorem DW(h:n<=40000):n<=sizeLine:=fh<|Aw h
noncomputable abbrev tb(P1:_g):M7:=⟨P1,⟨125,29,125,60⟩,"holes_of" ++ ".<locals>." ++ "<lambda>"⟩
theorem _root_.L2.Df.z{k:_d}(r:Df k A):Df 0 A:=r.mono<|cK _
inductive Rg(B:M7)(vs:_b V)(H:Hp)(Q:VK)(f6:XK):Prop
|mk(a:_g)(ts:_b T3)(ys:_b V)(_:vs=[.ref a])(_:Cz H a ts ys)(_:ys.length<30000)(_:∀t∈ts,t.2.1<t.2.2)(_:Tb B H)(_:∀(p:_g)(hs:_b T3)(zs:_b V)(H':Hp),H p=_n->Kp B H H'->Tb B H'->Cz H' p hs zs->Canon hs->(∀tr t,DN hs tr t ↔ DN ts tr t)->hs.length<=ts.length->Q (.ref p) H')
inductive Zx(B:M7)(vs:_b V)(H:Hp)(Q:VK)(f6:XK):Prop
|mk(r:_g)(len:_i)(hs:_b T3)(_:vs=[.ref r])(_:GD H r len hs)(_:Canon hs)(_:hs.length<=400)(_:0<=len)(_:len<=1000000000000)(_:∀t∈hs,SN len t)(_:Tb B H)(_:∀H',Kp B H H'->Tb B H'->Q (.bl _h) H')
theorem gP:Aq ["spans","holes","span","ahead"] kw (Ae sHo):=Bh
inductive yF(a:_g)(l:_g)(ss:_b T3)(H:Hp)(p:_g)(us:_b V)(i:_d)(σ:St)(H4:Hp):Prop
|mk(hs:_b Ro.T3)(zs:_b V)(v2 v3:_t V)(_:σ=[_a (.ref a),_a (.ref l),v2,v3])(_:Cz H4 l hs zs)(_:Uj (ss.take i) hs)(_:hs.length<=i)(_:Al H H4)(_:Cz H4 p ss us)
theorem bM(N:Vb K mg C c1 aD)(T:Txt K w.params mg C cR aN aK aB aP aM)(K1:Hl mg base c1 P1):BX P w K mg base BW 1 aD.Ho kw<|Rg<|tb P1:=by
 refine N.FHo.ok gP (λvs H Q E h=>?_)<|λA a3 s H vs Q E hr h=>?_
 .obtain⟨a,L,I,rfl,_⟩:=h;rfl
 .obtain⟨a,L,I,rfl,A0,xt,aa,sm,q⟩:=h;refine⟨_,(@Af _ _ _ _ _ (@CT _ _ _ _ _ _ 1 gP.nd U (Or.inl U) (@CV _ _ _ _ Ab) (by kernel_rfl)<|.inl U)
   (@Af _ _ _ _ _ (DQ _U U (BZ<|A_ (KH U) U T.sorted fb<|@BJ _ _ _ _ _ U (pv 0) Ab) (Bg (i:=2) gP.nd U<|Or.inl U) (@Ag _ _ _ (@Cg _ _ _ _ _ _ _ _ (PW.pt<|RZ (Nx (pv 1)<|λ_=>rfl)<|RZ (Bb Ez (@Av _ _ _ _ _ _ _ (Am (K:=K) U) (@Av _ _ _ _ _ _ _ Et (pv 1) (K8 Jo Ac)<|λ_ _=>rfl) Ac<|λ_ _=>rfl) (@Av _ _ _ _ _ _ _ (Am (K:=K) U) (pv 2) Ac<|λ_ _=>rfl)<|Bc _)<|Qf<|Bb Er (@Av _ _ _ _ _ _ _ (Am (K:=K) U) (pv 2) Ac<|λ_ _=>rfl) (@Av _ _ _ _ _ _ _ (Am (K:=K) U) (@Av _ _ _ _ _ _ _ Et (pv 1) (K8 Jo Ac)<|λ_ _=>rfl) Ac<|λ_ _=>rfl)<|Bc _) (@Af _ _ _ _ _ (@CT _ _ _ _ _ _ 3 gP.nd U (Or.inl U) (Uq bE PySem.F.slot_list_pop PySem.F.type_list_pop pG<|pv 1) (by kernel_rfl)<|.inl U)
   (@Ag _ _ _<|C_<|E_ bE cr cw CZ (pv 1)<|@BJ _ _ _ _ _ U (@Bx _ _ _ _ _<|@BJ _ _ _ _ _ U (@Av _ _ _ _ _ _ _ (Am (K:=K) U) (pv 2) Ac<|λ_ _=>rfl)<|@BJ _ _ _ _ _ U (@Av _ _ _ _ _ _ _ (Am (K:=K) U) (pv 3) Ac<|λ_ _=>rfl)<|@BJ _ _ _ _ _ U (A_ (Qa U) U T.max ŵ<|@BJ _ _ _ _ _ U (@Av _ _ _ _ _ _ _ (Am (K:=K) U) (pv 3) Ac<|λ_ _=>rfl)<|@BJ _ _ _ _ _ U (@Av _ _ _ _ _ _ _ (Am (K:=K) U) (pv 2) Ac<|λ_ _=>rfl) Ab) Ab) Ab)) (@Ag _ _ _<|C_<|E_ bE cr cw CZ (pv 1)<|@BJ _ _ _ _ _ U (pv 2) Ab))))
   (@Ag _ _ _<|@Ax _ _ _ _<|VG U K1 hr.z U T.sorted (pv 1) U U (λ_ _ _ _=>rfl) U (by decide) U U U U U))),?_⟩
  refine⟨cK _,λl hl=>?_⟩;have s1:=Ay (o:=HO.lst []) hl;have A1:=A0.mono s1;have l1:upd H l (HO.lst []) l=_a (.lst []):=Ai;generalize upd H l (HO.lst [])=H1 at s1 A1 l1 |-;refine⟨a,L,I,U,oz A1.l,A1.p,by lia,λp u hp pm pw=>?_⟩;have s2:=Ay (o:=HO.lst<|u.map λi=>I.getD i V.non) hp;have hb:∀i∈u,i<I.length:=λi hi=>dL.mp<|pm.mem_iff.mp hi
  have O:l≠p:=Ak l1 hp;have A2:Cz (upd H1 p<|HO.lst<|u.map λi=>I.getD i V.non) p (u.map λi=>L.getD i (0,0,0))<|u.map λi=>I.getD i V.non:=⟨Ai,Ao s2<|Mi A1.p hb⟩
  have l2:=s2 _ _ l1;have SZ:=s1.trans s2;generalize upd H1 p (HO.lst (u.map λi=>I.getD i V.non))=H2 at s2 A2 l2 SZ |-;have lt:=A0.len;have as:u.Perm<|_B L.length:=by rw[lt];exact pm
  have qS:=Ig (z:=((0,0,0):Ro.T3)) as;have C2:=gM pw;have ac:(u.map λi=>L.getD i ((0,0,0):Ro.T3)).length=L.length:=by rw[ah,as.length_eq,dQ]
  generalize (u.map λi=>L.getD i ((0,0,0):Ro.T3))=ss at A2 qS C2 ac;generalize (u.map λi=>I.getD i V.non)=Z at A2;have bm:H p=none:=s1.free hp;refine⟨⟨_,oz A2.l⟩,Dk (K:=K) (a:=p) (xs:=Z) (yF a l ss H p Z) ⟨[],[],_,_,U,⟨l2,.nil⟩,Uj.nil,ai _,SZ,A2⟩ (λi σ m _ h=>by obtain⟨_,_,_,_,_,_,_,_,_,h⟩:=h;exact oz h.l) ?_ ?_⟩
  .rintro i y σ m hi ⟨v,n,v2,v3,rfl,d,M,Pw,Y,D⟩;obtain⟨x,R,hx,Fn,rfl,hT⟩:=D.at hi;obtain⟨e1,e2⟩:=Tz hx;have qT:Fd K m R<|K3 x:=.inl<|.inl hT
   have a9:=aa x<|(qS x).mp Fn
   have a2:∀g∈ss.take i,qN g x:=λg hg=>by
    rw[e1,fk] at C2;exact C2.2.2 g hg x<|be ..
   have bl:i<Z.length:=(ag.mp hi).1;have a6:Z.length<30000:=by have:=D.len;lia
   have W:n.length<=i:=by have:=d.len;lia
   have push:¬ (∃f h,v=f++[h]/\h.1=x.1/\x.2.1<=h.2.2)->Cz (upd m l<|HO.lst<|n++[V.ref R]) l (v++[x]) (n++[V.ref R])/\Uj (ss.take<|i+1) (v++[x])/\(v++[x]).length<=i+1/\Al H (upd m l<|HO.lst<|n++[V.ref R])/\Cz (upd m l<|HO.lst<|n++[V.ref R]) p ss Z:=λa4=>by
    refine⟨d.snoc hT,?_,by rw[av,bt];lia,λb o e=>by rw[An (Ak e hl)];exact Y b o e,⟨by rw[An (_T O)];exact D.l,Bv D.p d.l⟩⟩;rw[e2];exact M.push a9 a2 λf h e hh=>a4 ⟨f,h,e,hh⟩
   rcases zB v with e0 | ⟨f,h,e0⟩
   .subst e0;have a8:n=[]:=List.length_eq_zero_iff.mp<|by rw[<-d.len];rfl
    subst a8;refine⟨_r,.inl ⟨[],oz d.l,U⟩,PQ<|?_⟩;refine⟨.inl ⟨U,_,oz d.l⟩,_,d.l,by show 0<sizeLine;decide,?_⟩;obtain⟨k1,k2,k3,k4,X⟩:=push λ⟨f,h,e,_⟩=>by simp at e
    exact⟨_,_,_,_,U,k1,k2,k3,k4,X⟩
   .have XY:v=f++[h]:=by rw[e0];simp
    subst XY;obtain⟨r,zh,ez⟩:∃r zh,n=r++[zh]:=by
     have hz:n.length=f.length+1:=by rw[<-d.len];simp
     exact⟨n.dropLast,n.getLast (by intro z;rw[z] at hz;simp at hz),(Ÿ _).symm⟩
    subst ez;have aw:r.length=f.length:=by have:=d.len;simp at this;lia
    obtain⟨k,Th,UA,_,rfl,QU⟩:=d.at (i:=r.length) (y:=zh)<|by simp
    have eh:k=h:=by
     rw[aw] at UA;simpa using UA.symm
    subst eh;have qL:Cp K m l<|r++[V.ref Th]:=.inl<|.inl d.l
    have qh:Fd K m Th<|K3 k:=.inl<|.inl QU
    refine⟨_h,.inl ⟨_,qL,by simp⟩,?_⟩;refine⟨_,_,qL,Bw.M8,_,_,qh,Aj (j:=0) U,_,_,qT,Aj (j:=0) U,U,?_⟩;refine Ed (λg1=>?_)<|λg1=>?_
    .have bc:k.1=x.1:=V.int.inj<|_G g1
     refine⟨_,_,qT,Aj (j:=1) U,_,_,qL,Bw.M8,_,_,qh,Aj (j:=2) U,?_⟩;refine Ed (λg2=>?_)<|λg2=>?_
     .have SI:x.2.1<=k.2.2:=_G g2;refine⟨.inl ⟨U,_,qL⟩,l,_,V.ref Th,U,U,d.l,by simp,?_⟩;have L5:Cz (upd m l<|HO.lst (r++[V.ref Th]).dropLast) l f r:=by
       rw[AA];refine⟨Ai,Bv (ws:=r) ?_ d.l⟩;have tS:=d.p;have tk:=Og.IK tS f.length;rw[Of U,<-aw,Of U] at tk;exact tk
      have a1:upd m l (HO.lst (r++[V.ref Th]).dropLast) R=_a (.tup<|K3 x):=by rw[An (Kh hT d.l (λz=>by cases z))];exact hT
      have G:upd m l (HO.lst (r++[V.ref Th]).dropLast) Th=_a (.tup<|K3 k):=by rw[An (Kh QU d.l (λz=>by cases z))];exact QU
      have s5:Al H<|upd m l<|HO.lst (r++[V.ref Th]).dropLast:=λb o e=>by rw[An (Ak e hl)];exact Y b o e
      have A5:Cz (upd m l<|HO.lst (r++[V.ref Th]).dropLast) p ss Z:=⟨by rw[An (_T O)];exact D.l,Bv D.p d.l⟩;generalize upd m l (HO.lst (r++[V.ref Th]).dropLast)=J at L5 a1 G s5 A5 |-;have aZ:Fd K J R<|K3 x:=.inl<|.inl a1
      have an:Fd K J Th<|K3 k:=.inl<|.inl G
      refine⟨.inl ⟨U,_,oz L5.l⟩,_,_,aZ,Aj (j:=0) U,_,_,an,Aj (j:=1) U,_,_,an,Aj (j:=2) U,_,_,aZ,Aj (j:=2) U,_,_,U,by show 3<=sizeLine;decide,λt6 YN=>?_⟩;have a7:(if x.2.2 > k.2.2 then x.2.2 else k.2.2)=max k.2.2 x.2.2:=by split <;> lia
      rw[a7];have F:=Ay (o:=HO.tup [V.int x.1,V.int k.2.1,V.int<|max k.2.2 x.2.2]) YN;have ap:upd J t6 (HO.tup [V.int x.1,V.int k.2.1,V.int<|max k.2.2 x.2.2]) t6=_a (.tup<|K3 (x.1,k.2.1,max k.2.2 x.2.2)):=Ai;have L6:=L5.mono F;have A6:=A5.mono F;generalize upd J t6 (HO.tup [V.int x.1,V.int k.2.1,V.int (max k.2.2 x.2.2)])=H6 at F ap L6 A6 |-;refine⟨_,L6.l,Aw (by simp at W;lia),?_⟩;refine⟨f++[(x.1,k.2.1,max k.2.2 x.2.2)],_,_,_,U,L6.snoc ap,?_,by simp at Pw |-;lia,λb o e=>by rw[An (Ak e hl)];exact F _ _<|s5 b o e,⟨by rw[An (_T O)];exact A6.l,Bv A6.p L6.l⟩⟩;rw[e2];exact M.join a2 bc SI
     .refine⟨.inl ⟨U,_,qL⟩,_,d.l,Aw<|by lia,?_⟩;obtain⟨k1,k2,k3,k4,X⟩:=push (λ⟨MD,h2,e,_,z⟩=>by
       have:h2=k:=by have:=congrArg Ŗ e;simp at this;exact this.symm
       subst this;exact g2<|_v z)
      exact⟨_,_,_,_,U,k1,k2,k3,k4,X⟩
    .refine⟨.inl ⟨U,_,qL⟩,_,d.l,Aw<|by lia,?_⟩;obtain⟨k1,k2,k3,k4,X⟩:=push (λ⟨MD,h2,e,z,_⟩=>by
      have:h2=k:=by have:=congrArg Ŗ e;simp at this;exact this.symm
      subst this;exact g1<|_v<|by rw[z])
     exact⟨_,_,_,_,U,k1,k2,k3,k4,X⟩
  .rintro σ m ⟨v,n,v2,v3,rfl,d,M,Pw,Y,D⟩;rw[dt (by rw[D.len];exact ai _)] at M;have a6:=D.len;have W:=d.len;have TK:=sm.same Y;refine⟨l,v,n,U,oz d.l,d.p,by lia,TK,λp5 MS J YA ZT X a5 TZ bb=>?_⟩;have S:MS.Perm<|_B v.length:=by rw[W];exact TZ
   have ab:Kp (tb P1) m J:=λb o ho e=>X b o (λz=>by
    rcases TK with t1 | ⟨c,t1,_⟩
    .rw[z] at e;rw[t1] at e;exact ho _ (_m e).symm
    .rw[z] at e;rw[t1] at e;exact ho _ (_m e).symm) e
   have L5:=Cz.kp d ab;have F:=Ay (o:=HO.lst<|MS.map λi=>n.getD i V.non) ZT;have a0:Tb (tb P1) J:=a5;refine q p5 (MS.map λi=>v.getD i (0,0,0)) _ _ (Y.free YA) ((Kp.of (B:=tb P1) Y).trans<|ab.trans<|Kp.of F) (a0.same F) ⟨Ai,Ao F<|Mi L5.p λi hi=>dL.mp<|TZ.mem_iff.mp hi⟩ (canon_of M.sep M.nodup S bb) (λtr t=>?_)<|by rw[ah,S.length_eq,dQ];lia
   rw[DN.perm (Ig S),M.cov,DN.perm qS]
include N T in
theorem o9:BX P w K mg base BW 2 aD.My fv m9:=by
 refine N.FMy.1.Dl sr λH g Q E d h=>?_;obtain⟨i,rfl,b,c,q⟩:=h;obtain⟨f,a⟩:=T.below;refine⟨_,@Ag _ _ _<|@Ax _ _ _ _<|Dv (BL N.FWh (Tv N T) d<|@BJ _ _ _ _ _ U (pv 0) Ab)<|Du<|G3 Er G_ Ac (pv 0)<|CW (v:=.int 1200) U a ⟨f,U⟩,?_⟩;refine⟨i,U,Mq ?_⟩;refine Xy b ?_;have e:decide (i<1200)=true:=_v c;try dsimp only
 dsimp only[tC,Pb,Ua,rU,MK,Qk];rw[e];exact q
theorem scIl:Aq fv fv<|Ae sIl:=Bh
include N T in
theorem jf:BX P w K mg base BW 2 aD.Il fv gJ:=by
 refine N.FIl.1.Dl scIl λH g Q E f h=>?_;obtain⟨i,rfl,c,d,q⟩:=h;obtain⟨a,b⟩:=T.cMOST_TICKS;refine⟨_,@Ag _ _ _<|@Ax _ _ _ _<|Dv (BL N.FWh (Tv N T) f<|@BJ _ _ _ _ _ U (pv 0) Ab)<|Du<|G3 Er Er Ac (pv 0)<|CW (v:=.int 1000000000000) U b ⟨a,U⟩,?_⟩;refine⟨i,U,Mq ?_⟩;refine Xy c ?_;have e:decide (i<=1000000000000)=true:=_v d;try dsimp only
 dsimp only[tC,Pb,Ua,rU,MK,Qk];rw[e];exact q
theorem zW:Aq hB hB<|Ae sHw:=Bh
include N T in
theorem uR:BX P w K mg base BW 3 aD.Hw hB rW:=by
 refine N.FHw.1.Dl zW λH m Q E b h=>?_;obtain⟨c,t,len,rfl,d,ok,q⟩:=h;refine⟨_,(@Af _ _ _ _ _ (@Cg _ _ _ _ _ _ _ _ (PW.pt<|HD (Dg<|Dz<|A_ Di U T.isin bv<|@BJ _ _ _ _ _ U (pv 0)<|@BJ _ _ _ _ _ U (Ek (v:=.ty "tuple") U T.tuple ip U) Ab)<|HD (Bb QH (A_ BV U T.len dv<|@BJ _ _ _ _ _ U (pv 0) Ab) Ac<|Bc _)<|Gh<|Dg<|Dz<|BL N.FMy (o9 N T) b<|@BJ _ _ _ _ _ U (@Av _ _ _ _ _ _ _ (Am (K:=K) U) (pv 0) Ac<|λ_ _=>rfl) Ab) (@Ag _ _ _<|@Ax _ _ _ _ Gr) Be)
  (@Ag _ _ _<|@Ax _ _ _ _<|Dv (BL N.FWh (Tv N T) b<|@BJ _ _ _ _ _ U (@Av _ _ _ _ _ _ _ (Am (K:=K) U) (pv 0) Ac<|λ_ _=>rfl) Ab)<|Dv (BL N.FWh (Tv N T) b<|@BJ _ _ _ _ _ U (@Av _ _ _ _ _ _ _ (Am (K:=K) U) (pv 0) Ac<|λ_ _=>rfl) Ab)<|Du<|Xh Er G_ Er Ac (@Av _ _ _ _ _ _ _ (Am (K:=K) U) (pv 0) Ac<|λ_ _=>rfl) (@Av _ _ _ _ _ _ _ (Am (K:=K) U) (pv 0) Ac<|λ_ _=>rfl)<|pv 1)),?_⟩
 obtain⟨l,g,f,i,k⟩:=ok;have a:Fd K H c<|Jw t:=.inl<|.inl d
 refine⟨_,"tuple",_,_,U,.tup d,Wq,?_⟩;refine⟨c,_,U,.inr a,U,V3 U ?_⟩;refine⟨_,_,a,Aj (j:=0) U,t.1,U,l,g,?_⟩;refine⟨_,_,a,Aj (j:=1) U,_,U,?_⟩;refine⟨_,_,a,Aj (j:=2) U,_,U,?_⟩;refine⟨_,_,a,Aj (j:=1) U,_,U,Xy f ?_⟩;refine⟨_,_,a,Aj (j:=2) U,_,U,Xy i ?_⟩;have e:decide (t.2.2<=len)=true:=_v k;try dsimp only
 show Q (.bl (decide (t.2.2<=len))) _;rw[e];exact q
theorem Wx{K:_s}:Ú K (.type "list") (.type "list")=_a true:=by kernel_rfl
theorem zO:Aq hB hB<|Ae sAh:=Bh
include N T in
theorem jt:BX P w K mg base BW 4 aD.Ah hB jL:=by
 refine N.FAh.1.Dl zO λH s Q E l h=>?_;obtain⟨a,i,p,len,rfl,f,n,ok,q⟩:=h;refine⟨_,@Ag _ _ _<|@Ax _ _ _ _<|Dv (A_ Di U T.isin bv<|@BJ _ _ _ _ _ U (pv 0)<|@BJ _ _ _ _ _ U (Ek (v:=.ty "list") U T.list eD U) Ab)<|Du<|A_ (Kd U) U T.all iP<|@BJ _ _ _ _ _ U (Bm U (BR (osc:=Ae sAh) (N:=hB) U U<|by decide) (BZ<|pv 0) (λ_ _ _ _=>CJ)<|λ_ _ _ _=>(BL N.FHw (uR N T) l<|@BJ _ _ _ _ _ U (pv 0)<|@BJ _ _ _ _ _ U (pv 2) Ab)) Ab,?_⟩;refine⟨_,"list",_,_,U,.lst f.l,Wx,?_⟩;refine⟨⟨_,oz f.l⟩,WQ (K:=K) (λ_=>_h) (λ_=>.bl _h) f (Aw<|by lia) (λx j g c b d R k=>k b<|Al.refl b) (λx j _ g c b d R k=>?_)<|λD o r d m=>?_⟩
 .exact⟨g,x,len,U,d _ _ c,ok x j,k b<|Al.refl b⟩
 .refine⟨D,(i.filter λ_=>_h).map λ_=>_h,U,oz<|by rw[m,bi];rfl,?_⟩;have e:((i.filter λ_=>_h).map λ_=>_h).all id=true:=by simp
  rw[e];exact q _ d
theorem fU:Aq ["spans","holes"] kw (Ae sFh):=Bh
theorem x_(N:Vb K mg C c1 aD)(T:Txt K w.params mg C cR aN aK aB aP aM)(j:Hl mg base c1 P1):BX P w K mg base BW 2 aD.Fh kw<|rY<|tb P1:=by
 have d:BX P w K mg base BW 1 aD.Ho kw<|Rg<|tb P1:=bM N T j
 refine N.FFh.1.Dl fU λH D Q E k h=>?_;obtain⟨a,i,m,rfl,e,B,b,n,q⟩:=h;obtain⟨s,x⟩:=T.cMOST_HOLES;refine⟨_,(@Af _ _ _ _ _ (@CT _ _ _ _ _ _ 1 fU.nd U (Or.inl U) (Kz d (ae k) U N.mHo N.FHo.kp N.bHo .nil Ni<|@BJ _ _ _ _ _ U (pv 0) Ab) (by kernel_rfl)<|.inl U)
  (@Af _ _ _ _ _ (@Cg _ _ _ _ _ _ _ _ (Bb QG (A_ BV U T.len dv<|@BJ _ _ _ _ _ U (pv 1) Ab) (CW (v:=.int 400) U x ⟨s,U⟩)<|Bc _) (@Ag _ _ _ FQ) Be)
  (@Ag _ _ _<|@Ax _ _ _ _<|pv 1))),?_⟩
 refine⟨a,i,m,U,e,by lia,b,n,λp y r u f l t c c1 o g=>?_⟩;have z:=c.len;have A:=e.len;refine⟨p,_,U,oz<|.inl c.l,UJ (by lia) ?_⟩;exact q p y r u f l t c c1 o g
theorem scRf:Aq f7 f7<|Ae sRf:=Bh
theorem yH(N:Vb K mg C c1 aD)(T:Txt K w.params mg C cR aN aK aB aP aM)(l:Hl mg base c1 P1):BX P w K mg base BW 3 aD.Rf f7<|oN<|tb P1:=by
 have d:BX P w K mg base BW 2 aD.Fh kw<|rY<|tb P1:=x_ N T l
 refine N.FRf.1.Dl scRf λH G Q E n h=>?_;obtain⟨a,k,x,len,rfl,f,m,D,b,u,q⟩:=h;obtain⟨i,z⟩:=T.cMOST_TICKS;refine⟨_,(@Af _ _ _ _ _ (@Cg _ _ _ _ _ _ _ _ (Bb QG (pv 0) (CW (v:=.int 1000000000000) U z ⟨i,U⟩)<|Bc _) (@Ag _ _ _ FQ) Be)
  (@Ag _ _ _<|@Ax _ _ _ _<|@Bx _ _ _ _ _<|@BJ _ _ _ _ _ U (pv 0)<|@BJ _ _ _ _ _ U (BL N.FFh d n<|@BJ _ _ _ _ _ U (pv 1) Ab) Ab)),?_⟩
 refine UJ (by lia) ?_;refine⟨a,k,x,U,m,D,b,u,λp F A I g t B s c1 y j=>⟨by show 2<=sizeLine;decide,λr c=>?_⟩⟩;have e:=Ay (o:=HO.tup [V.int len,V.ref p]) c;exact q r F _ (t.trans<|Kp.of e) (B.same e) ⟨p,A,g,Ai,s.mono e⟩ c1 y j
theorem yu:Aq f7 f7<|Ae sR1:=Bh
theorem xY(N:Vb K mg C c1 aD)(T:Txt K w.params mg C cR aN aK aB aP aM)(m:Hl mg base c1 P1):BX P w K mg base BW 5 aD.R1 f7<|Ro.Ol<|tb P1:=by
 have k:BX P w K mg base BW 3 aD.Rf f7<|oN<|tb P1:=yH N T m
 refine N.FR1.1.ok yu (λu H Q E h=>?_)<|λO A d s H u Q E i h=>?_
 .obtain⟨a,g,j,len,rfl,_⟩:=h;rfl
 .obtain⟨a,g,j,len,rfl,B,b,l,I,ok,n,q⟩:=h;refine⟨_,(@Af _ _ _ _ _ (@Cg _ _ _ _ _ _ _ _ (PW.pt<|HD (Dg<|Dz<|BL N.FIl (jf N T) i<|@BJ _ _ _ _ _ U (pv 0) Ab)<|Gh<|Dg<|Dz<|BL N.FAh (jt N T) i<|@BJ _ _ _ _ _ U (pv 1)<|@BJ _ _ _ _ _ U (pv 0) Ab) (@Ag _ _ _ FQ) Be)
   (@Ag _ _ _<|@Ax _ _ _ _<|BL N.FRf k i<|@BJ _ _ _ _ _ U (pv 0)<|@BJ _ _ _ _ _ U (pv 1) Ab)),?_⟩
  refine⟨len,U,B,b,?_⟩;refine⟨a,g,j,len,U,l,by lia,ok,λM c=>?_⟩;refine⟨a,g,j,len,U,b,l.mono c,I,λt o=>(ok t o).2.2.2.1,n.same c,λr x z J G D L y F=>?_⟩;obtain⟨p,v,f,e,A⟩:=D;exact q r x z ((Kp.of c).trans J) G ⟨p,v,c.free f,e,A⟩ L y F
theorem zQ:Aq fv fv<|Ae sIq:=Bh
theorem vV(N:Vb K mg C c1 aD)(T:Txt K w.params mg C cR aN aK aB aP aM)(x:Hl mg base c1 P1):BX P w K mg base BW 5 aD.Iq fv<|Zx<|tb P1:=by
 have l:BX P w K mg base BW 1 aD.Ho kw<|Rg<|tb P1:=bM N T x
 refine N.FIq.1.Dl zQ λH Z Q E d h=>?_;obtain⟨r,len,i,rfl,R,L,o,I,m,ok,z,q⟩:=h;obtain⟨O,D⟩:=T.cMOST_HOLES;refine⟨_,(@Af _ _ _ _ _ (@Cg _ _ _ _ _ _ _ _ (PW.pt<|HD (Dg<|Dz<|A_ Di U T.isin bv<|@BJ _ _ _ _ _ U (pv 0)<|@BJ _ _ _ _ _ U (Ek (v:=.ty "tuple") U T.tuple ip U) Ab)<|HD (Bb QH (A_ BV U T.len dv<|@BJ _ _ _ _ _ U (pv 0) Ab) Ac<|Bc _)<|Gh<|Dg<|Dz<|BL N.FIl (jf N T) d<|@BJ _ _ _ _ _ U (@Av _ _ _ _ _ _ _ (Am (K:=K) U) (pv 0) Ac<|λ_ _=>rfl) Ab) (@Ag _ _ _<|@Ax _ _ _ _ Gr) Be)
  (@Af _ _ _ _ _ (@Cg _ _ _ _ _ _ _ _ (PW.pt<|HD (Dg<|Dz<|BL N.FAh (jt N T) d<|@BJ _ _ _ _ _ U (@Av _ _ _ _ _ _ _ (Am (K:=K) U) (pv 0) Ac<|λ_ _=>rfl)<|@BJ _ _ _ _ _ U (@Av _ _ _ _ _ _ _ (Am (K:=K) U) (pv 0) Ac<|λ_ _=>rfl) Ab)<|Gh<|Bb QG (A_ BV U T.len dv<|@BJ _ _ _ _ _ U (@Av _ _ _ _ _ _ _ (Am (K:=K) U) (pv 0) Ac<|λ_ _=>rfl) Ab) (CW (v:=.int 400) U D ⟨O,U⟩)<|Bc _) (@Ag _ _ _<|@Ax _ _ _ _ Gr) Be)
  (@Ag _ _ _<|@Ax _ _ _ _<|Eb (bA<|bg (gi (by decide:8<=64) _) d.units) (@Av _ _ _ _ _ _ _ (Am (K:=K) U) (pv 0) Ac<|λ_ _=>rfl) (Kz l (ae d) U N.mHo N.FHo.kp N.bHo .nil Ni<|@BJ _ _ _ _ _ U (@Av _ _ _ _ _ _ _ (Am (K:=K) U) (pv 0) Ac<|λ_ _=>rfl) Ab)<|Bc _))),?_⟩
 obtain⟨p,g,f,e⟩:=R;have Y:=e.len;have c:Fd K H r [V.int len,V.ref p]:=.inl<|.inl f
 refine⟨_,"tuple",_,_,U,.tup f,Wq,?_⟩;refine⟨r,_,U,.inr c,U,V3 U ?_⟩;refine⟨_,_,c,Aj (j:=0) U,len,U,I,m,?_⟩;refine⟨_,_,c,Aj (j:=1) U,_,_,c,Aj (j:=0) U,p,i,g,len,U,e,by lia,ok,λS b=>PQ ?_⟩;have k:=e.mono b;have a:Fd K S r [V.int len,V.ref p]:=.inl<|.inl<|b _ _ f
 refine⟨_,_,a,Aj (j:=1) U,p,_,U,oz<|.inl k.l,UJ (by lia) ?_⟩;refine⟨_,_,a,Aj (j:=1) U,_,_,a,Aj (j:=1) U,p,i,g,U,k,by lia,λt A=>(ok t A).2.2.2.1,z.same b,λB n J G X s M u W F n2=>?_⟩;have y:n=i:=HR W L F;subst y;exact⟨p,B,n,g,J,U,U,Cz.kp k s,u,q G ((Kp.of b).trans s) M⟩
theorem zm:Aq n0 n0<|Ae zb:=Bh
include N T in
theorem wR:BX P w K mg base BW 1 aD.Oa n0 Z2:=by
 refine N.FOa.1.Dl zm λH I Q E L h=>?_;obtain⟨r,len,b,c,rfl,⟨p,J,i,n⟩,A,M,q⟩:=h;refine⟨_,@Ag _ _ _<|@Ax _ _ _ _<|A_ K6 U T.sorted fb<|@BJ _ _ _ _ _ U (Bm U (BR (osc:=Ae zb) (N:=n0) U U<|by decide) (BZ<|@Av _ _ _ _ _ _ _ (Am (K:=K) U) (pv 0) Ac<|λ_ _=>rfl) (λ_ _ _ _=>(HF<|Ij Er G_ (@Av _ _ _ _ _ _ _ (Am (K:=K) U) (pv 0) Ac<|λ_ _=>rfl) (pv 2)<|@Av _ _ _ _ _ _ _ (Am (K:=K) U) (pv 0) Ac<|λ_ _=>rfl))<|λ_ _ _ _=>(@Av _ _ _ _ _ _ _ (Am (K:=K) U) (pv 0) Ac<|λ_ _=>rfl)) Ab,?_⟩;have F:=n.len;refine⟨_,_,oz i,Aj (j:=1) U,⟨_,oz n.l⟩,WQ (K:=K) (λh=>decide (h.2.1<=b) && decide (b<h.2.2)) (λh=>.int h.1) n (Aw<|by lia) (λx B o a e c R k=>?_) (λx B _ o a e c R k=>?_)<|λD z G y C=>?_⟩
 .refine⟨_,_,oz<|c _ _ a,Aj (j:=1) U,?_⟩;have f:=k e<|Al.refl e
  refine Ed (λd=>?_)<|λd=>?_
  .refine⟨_,_,oz<|c _ _ a,Aj (j:=2) U,?_⟩;rw[show decide (x.2.1<=b)=_h from d,vk] at f;exact f
  .rw[show decide (x.2.1<=b)=_r from (KG _).mp d,Pd] at f;exact f
 .exact⟨_,_,oz<|c _ _ a,Aj (j:=0) U,k e<|Al.refl e⟩
 have g:z D=_a (.lst (((c.filter λh=>decide (h.2.1<=b) && decide (b<h.2.2)).map (·.1)).map V.int)):=by rw[C,bi];rfl
 refine⟨D,_,U,oz g,λl u m s v=>?_⟩;obtain⟨d,t⟩:=Xz A s v;exact q l u _ (y.trans<|Ay m) Ai d t
theorem n8:Aq ["holes","part","tracks","hole"] ["holes","part"] (Ae sTk):=Bh
inductive xX(p:_g)(k:_i)(D:_g)(H:Hp)(hs:_b T3)(i:_d)(σ:St)(H4:Hp):Prop
|mk(kvs:_b (Key × V))(js:_b _i)(v3:_t V)(_:σ=[_a (.ref p),_a (.int k),_a (.ref D),v3])(_:Al H H4)(_:H4 D=_a (.dK kvs))(_:kvs.map (·.1)=js.map _R)(_:(∀t,t∈js ↔ ∃h∈hs.take i,pt k h=t))(_:js.length<=i)(_:(∀kv∈kvs,∃l ns,kv.2=V.ref l/\H l=_n/\H4 l=_a (.lst (Η V.int ns))/\ns.length<=i))
include N T in
theorem xN:BX P w K mg base BW 1 aD.Tk ["holes","part"] o7:=by
 refine N.FTk.1.Dl n8 λH vs Q E hr h=>?_;obtain⟨p,hs,zs,k,rfl,A0,hz,hk,q⟩:=h;refine⟨_,(@Af _ _ _ _ _ (@CT _ _ _ _ _ _ 2 n8.nd U (Or.inl U) Iu (by kernel_rfl)<|.inl U)
  (@Af _ _ _ _ _ (DQ _U U (BZ<|pv 0) (Bg (i:=3) n8.nd U<|Or.inl U)<|@Ag _ _ _<|C_<|E_ bE cr cw CZ (R4 (pv 2) (@Av _ _ _ _ _ _ _ (Am (K:=K) U) (pv 3) (pv 1)<|λ_ _=>rfl) (@CV _ _ _ _ Ab) ⟨U,U,U,U⟩)<|@BJ _ _ _ _ _ U (@Av _ _ _ _ _ _ _ (Am (K:=K) U) (pv 3) Ac<|λ_ _=>rfl) Ab)
  (@Ag _ _ _<|@Ax _ _ _ _<|pv 2))),?_⟩
 have l0:=A0.len;refine λD hD=>?_;obtain⟨H1,i6,s1,d1⟩:=Jp (o:=HO.dK []) hD;rw[i6];refine⟨⟨_,.inl<|.inl (A0.mono s1).l⟩,Dk (K:=K) (a:=p) (xs:=zs) (xX p k D H hs) ⟨[],[],_,U,s1,d1,U,λt=>⟨λh=>_D h gI,λ⟨_,h,_⟩=>_D h gI⟩,ai _,λ_ h=>_D h gI⟩ (λi σ L _ h=>by obtain⟨_,_,_,_,s,_⟩:=h;exact .inl<|.inl (A0.mono s).l) ?_ ?_⟩
 .rintro i y σ L hi ⟨f,js,v3,rfl,R,d4,O,M,nj,lk⟩;obtain⟨x,T0,hx,Fn,rfl,hT⟩:=(A0.mono R).at hi;obtain⟨e1,e2⟩:=Tz hx;have aM:i<zs.length:=(ag.mp hi).1;have aK:f.length=js.length:=by have:=congrArg Ρ O;simpa using this
  have qT:Fd K L T0<|K3 x:=.inl<|.inl hT
  have as:TQ (K3 x) k=_a (.int<|pt k x):=by
   rcases hk with rfl | rfl
   .exact Aj (j:=1) U
   .exact Aj (j:=2) U
  refine⟨D,U,.inl ⟨f,.inl d4⟩,_,_,qT,as,cK _,λn sB=>?_⟩;have S:=Ay (o:=HO.lst []) sB;have a5:upd L n (HO.lst []) n=_a (.lst []):=Ai;have J:=S _ _ d4;have F:=S _ _ hT;have G:H n=none:=R.free sB;have si:=R.trans S;have C:∀u∈f,∃l A,u.2=V.ref l/\H l=_n/\upd L n (HO.lst []) l=_a (.lst<|Η V.int A)/\A.length<=i/\l≠n:=λu m=>by
   obtain⟨l,A,a,b,c,d⟩:=lk u m;exact⟨l,A,a,b,S _ _ c,d,Ak c sB⟩
  generalize upd L n (HO.lst [])=I at S a5 J F si C |-;have aw:Fd K I T0<|K3 x:=.inl<|.inl F
  refine⟨f,_R<|pt k x,J,U,Aw<|by lia,λv hv=>?_,λhv=>?_⟩
  .obtain⟨u,hf,rfl⟩:=aS.mp hv;have m:u∈f:=tP hf;have an:u.1=_R (pt k x):=by have:=List.find?_some hf;simpa using this
   obtain⟨l,A,a,b,c,d,aB⟩:=C u m;have ab:pt k x∈js:=by
    have:_R (pt k x)∈js.map (_R (β:=_A)):=by rw[<-O,<-an];exact ay.mpr ⟨u,m,U⟩
    obtain⟨z,ac,ap⟩:=ay.mp this
    cases ap;exact ac
   rw[a];refine⟨.inl ⟨U,_,oz c⟩,_,_,aw,Aj (j:=0) U,_,c,Aw<|by rw[ah];lia,?_⟩;have aa:D≠l:=Kh J c (λz=>by cases z);refine⟨f,js,_,U,λB o e=>by rw[An (Ak e b)];exact si B o e,by rw[An aa];exact J,O,λt=>?_,by lia,λy' g=>?_⟩
   .rw[M,e2];constructor
    .rintro⟨h,r,e⟩;exact⟨h,cm _ r,e⟩
    .rintro⟨h,r,e⟩;rcases aE.mp r with r | r
     .exact⟨h,r,e⟩
     .rw[al.mp r] at e;exact (M t).mp<|e ▸ ab
   .obtain⟨Y,NX,a',B,c',d',_⟩:=C y' g;by_cases X:Y=l
    .subst X;exact⟨Y,A++[x.1],a',B,by rw[Ai,å];rfl,by rw[ς];show _+1<=_;lia⟩
    .exact⟨Y,NX,a',B,by rw[An X];exact c',by lia⟩
  .have SR:D≠n:=Kh J a5 (λz=>by cases z);have a6:upd I D (HO.dK<|f++[(_R<|pt k x,V.ref n)]) n=_a (.lst []):=by rw[An (_T SR)];exact a5
   have d6:upd I D (HO.dK<|f++[(_R<|pt k x,V.ref n)]) D=_a (.dK<|f++[(_R<|pt k x,V.ref n)]):=Ai;have W:upd I D (HO.dK<|f++[(_R<|pt k x,V.ref n)]) T0=_a (.tup<|K3 x):=by rw[An (Kh F J (λz=>by cases z))];exact F
   have T:Al H<|upd I D<|HO.dK<|f++[(_R<|pt k x,V.ref n)]:=λB o e=>by rw[An (Ak e hD)];exact si B o e
   have Z:∀u∈f,∃l A,u.2=V.ref l/\H l=_n/\upd I D (HO.dK<|f++[(_R<|pt k x,V.ref n)]) l=_a (.lst<|Η V.int A)/\A.length<=i/\l≠n:=λu m=>by
    obtain⟨l,A,a,b,c,d,e⟩:=C u m;exact⟨l,A,a,b,by rw[An (Kh c J (λz=>by cases z))];exact c,d,e⟩
   generalize upd I D (HO.dK (f++[(_R (pt k x),V.ref n)]))=H6 at a6 d6 W T Z |-;refine⟨.inl ⟨U,_,oz a6⟩,_,_,oz W,Aj (j:=0) U,_,a6,by show 0<sizeLine;decide,?_⟩;refine⟨_,js++[pt k x],_,U,λB o e=>by rw[An (Ak e G)];exact T B o e,by rw[An SR];exact d6,by rw[å,å,O];rfl,λt=>?_,by rw[ς];show _+1<=_;lia,λy' g=>?_⟩
   .rw[aE,M,e2];constructor
    .rintro (⟨h,r,e⟩ | e)
     .exact⟨h,cm _ r,e⟩
     .exact⟨x,db _<|al.mpr U,(al.mp e).symm⟩
    .rintro⟨h,r,e⟩;rcases aE.mp r with r | r
     .exact .inl ⟨h,r,e⟩
     .rw[al.mp r] at e;exact .inr<|al.mpr e.symm
   .rcases aE.mp g with g | g
    .obtain⟨Y,NX,a',B,c',d',e'⟩:=Z y' g;exact⟨Y,NX,a',B,by rw[An e'];exact c',by lia⟩
    .rw[al.mp g];exact⟨n,[x.1],U,G,Ai,by show 1<=i+1;lia⟩
 .rintro σ L ⟨f,js,v3,rfl,R,d4,O,M,nj,lk⟩;rw[dt (by lia)] at M;exact q D f js L R hD d4 O M (by lia) λu m=>by
   obtain⟨l,A,a,_,b,_⟩:=lk u m;exact⟨l,A,a,b⟩
inductive Yl(vs:_b V)(H:Hp)(Q:VK)(f6:XK):Prop
|mk(r:_g)(len:_i)(hs:_b T3)(_:vs=[.ref r])(_:GD H r len hs)(_:hs.length<200)(_:∀(F:_g)(ys:_b V)(ms:_b _i)(H':Hp),Al H H'->H' F=_a (.lst ys)->Paired (Xg H') ms ys->(∀t,t∈ms ↔ Tk hs t)->ms.length<400->ms.Pairwise (· < ·)->Q (.ref F) H')
inductive ZM(vs:_b V)(H:Hp)(Q:VK)(f6:XK):Prop
|mk(r:_g)(len:_i)(hs:_b T3)(_:vs=[.ref r])(_:GD H r len hs)(_:hs.length<200)(_:∀(F:_g)(ms:_b _i)(H':Hp),Al H H'->H' F=_a (.lst (ms.map V.int))->(∀t,t∈ms ↔ Tk hs t)->ms.length<400->ms.Pairwise (· < ·)->Q (.ref F) H')
theorem i_:Aq ["roll","opened","closed","ticks"] qy (Ae sCh):=Bh
include N T in
theorem yE:BX P w K mg base BW 2 aD.Ch qy Yl:=by
 refine N.FCh.1.Dl i_ λH vs Q E A h=>?_;obtain⟨r,len,a,rfl,⟨p,zs,e1,v⟩,hn,q⟩:=h;have hu:=bg (gi (by decide:1<=64) _) A.units;refine⟨_,(@Af _ _ _ _ _ (@CT _ _ _ _ _ _ 1 i_.nd U (Or.inr U) (BL N.FTk (xN N T) A<|@BJ _ _ _ _ _ U (@Av _ _ _ _ _ _ _ (Am (K:=K) U) (pv 0) Ac<|λ_ _=>rfl)<|@BJ _ _ _ _ _ U Ac Ab) (by kernel_rfl)<|.inl U)
  (@Af _ _ _ _ _ (@CT _ _ _ _ _ _ 2 i_.nd U (Or.inr U) (BL N.FTk (xN N T) A<|@BJ _ _ _ _ _ U (@Av _ _ _ _ _ _ _ (Am (K:=K) U) (pv 0) Ac<|λ_ _=>rfl)<|@BJ _ _ _ _ _ U Ac Ab) (by kernel_rfl)<|.inl U)
  (@Af _ _ _ _ _ (@CT _ _ _ _ _ _ 3 i_.nd U (Or.inl U) (A_ (Q5 U) U T.sorted fb<|@BJ _ _ _ _ _ U (Dw (Zi U) U T.set _aI<|@BJ _ _ _ _ _ U (Ar PJ (Dw (Fv U) U T.list eD<|@BJ _ _ _ _ _ U (pv 1) Ab)<|Dw (Fv U) U T.list eD<|@BJ _ _ _ _ _ U (pv 2) Ab) Ab) Ab) (by kernel_rfl)<|.inl U)
  (@Ag _ _ _<|@Ax _ _ _ _<|Bm U (BR (osc:=Ae sCh) (N:=["roll","opened","closed","ticks"]) U U<|by decide) (BZ<|pv 3) (λ_ _ _ _=>CJ)<|λ_ _ _ _=>(@Bx _ _ _ _ _<|@BJ _ _ _ _ _ U (pv 0)<|@BJ _ _ _ _ _ U (A_ (JZ (K:=K) U) U T.sorted fb<|@BJ _ _ _ _ _ U (R5 hu (pv 2) (pv 0) (@CV _ _ _ _ Ab) ⟨U,U,U,U⟩) Ab)<|@BJ _ _ _ _ _ U (A_ (JZ (K:=K) U) U T.sorted fb<|@BJ _ _ _ _ _ U (R5 hu (pv 3) (pv 0) (@CV _ _ _ _ Ab) ⟨U,U,U,U⟩) Ab) Ab))))),?_⟩
 have lz:=v.len;have qr:Fd K H r [V.int len,V.ref p]:=.inl<|.inl e1
 refine⟨_,_,qr,Aj (j:=1) U,p,a,zs,1,U,v,by lia,.inl U,λD1 X c H1 G n1 d1 y XV an O=>?_⟩;have F:Fd K H1 r [V.int len,V.ref p]:=.inl<|.inl<|G _ _ e1
 refine⟨_,_,F,Aj (j:=1) U,p,a,zs,2,U,v.mono G,by lia,.inr U,λD2 D b H2 Y n2 d2 Zp XB ap z=>?_⟩;have n:=Y _ _ d1;refine⟨D1,X,c,U,n,y,λl3 rj=>?_⟩;obtain⟨H3,s,s3,a3⟩:=Jp (o:=HO.lst<|c.map V.int) rj;rw[s];refine⟨D2,D,b,U,s3 _ _ d2,Zp,λl4 uu=>?_⟩;obtain⟨H4,s,s4,a4⟩:=Jp (o:=HO.lst<|b.map V.int) uu;rw[s];refine⟨l3,l4,_,_,U,U,s4 _ _ a3,a4,DW<|by rw[ah,ah];lia,λu AJ=>?_⟩;have s5:=Ay (o:=HO.lst<|c.map V.int++b.map V.int) AJ;have a5:upd H4 u (HO.lst<|c.map V.int++b.map V.int) u=_a (.lst<|(c++b).map V.int):=by rw[Ai,ee]
 generalize upd H4 u (HO.lst (c.map V.int++b.map V.int))=Z at s5 a5 |-;refine⟨u,c++b,U,oz a5,by rw[av];lia,λp6 t9=>⟨p6,_,U,Ai,?_,λp7 m FE pm po=>?_⟩⟩
 .have:=Wd.I_ (c++b) [];simp only[OF,z6,ς] at this;exact DW<|by lia
 obtain⟨m1,m2⟩:=Vs pm po;have I:m.length<400:=by
  have:=Wd.I_ (c++b) [];simp only[OF,z6,ς] at this;have e:=pm.length_eq;lia
 generalize J:upd (upd Z p6 _) p7 (HO.lst (m.map V.int))=H7;have s7:Al Z H7:=by rw[<-J];exact (Ay t9).trans<|Ay FE
 have a7:H7 p7=_a (.lst<|m.map V.int):=by rw[<-J];exact Ai
 clear J;have i:=s3.trans<|s4.trans<|s5.trans s7
 have HZ:=G.trans<|Y.trans i
 have n:=i _ _ n;have VC:=i _ _ d2;refine⟨⟨_,oz a7⟩,NK (K:=K) (xs:=m.map V.int) nD Zv iM (oz a7) (Aw<|by rw[ah];lia) (λx hx g a R L=>L g<|Al.refl g) (λx hx g a R L=>?_)<|λD8 H8 ys ab s8 a8 pr=>?_⟩
 .obtain⟨t,ht,rfl⟩:=ay.mp hx;have lA:=Mt O<|Y.trans<|i.trans a
  have lB:=Mt z<|i.trans a
  refine⟨D1,U,.inl ⟨X,.inl<|a _ _ n⟩,cK _,λW sB=>?_⟩;have d:=Ay (o:=HO.lst []) sB;have aa:upd g W (HO.lst []) W=_a (.lst []):=Ai;generalize upd g W (HO.lst [])=Ha at d aa |-;obtain⟨l9,B,e9,f9⟩:=Py (k:=_R t) (Mt lA d) aa;refine⟨Cv X<|_R t,Gf.k (k:=_R t)<|d _ _<|a _ _ n,?_⟩;rw[e9];refine⟨l9,B,U,oz f9,λpb mb M _ _=>?_⟩;have l:=Ay (o:=HO.lst<|mb.map V.int) M;generalize upd Ha pb (HO.lst (mb.map V.int))=Hb at l |-;refine⟨D2,U,.inl ⟨D,.inl<|l _ _<|d _ _<|a _ _ VC⟩,cK _,λlm FV=>?_⟩;obtain⟨Hc,s,S,ac⟩:=Jp (o:=HO.lst []) FV;rw[s];obtain⟨l8,C,e8,f8⟩:=Py (k:=_R t) (Mt lB<|d.trans<|l.trans S) ac;refine⟨Cv D<|_R t,Gf.k (k:=_R t)<|S _ _<|l _ _<|d _ _<|a _ _ VC,?_⟩;rw[e8];refine⟨l8,C,U,oz f8,λpd md Y1 _ _=>?_⟩;have sd:=Ay (o:=HO.lst<|md.map V.int) Y1;generalize upd Hc pd (HO.lst (md.map V.int))=Hd at sd |-;exact⟨by show 3<=sizeLine;decide,λT hT=>L _ _ (d.trans<|l.trans<|S.trans<|sd.trans<|Ay hT) ⟨t,T,pb,pd,U,U,Ai⟩⟩
 .exact q D8 ys m H8 (HZ.trans s8) a8 (Yu pr) (λt=>by
   rw[m2,aE,XV,XB];unfold Tk pt;simp only[ÿ,show ¬ ((2:_i)=1) by decide,Ñ];constructor
   .rintro (⟨h,f,e⟩ | ⟨h,f,e⟩)
    .exact⟨h,f,.inl e⟩
    .exact⟨h,f,.inr e⟩
   .rintro⟨h,f,e | e⟩
    .exact .inl ⟨h,f,e⟩
    .exact .inr ⟨h,f,e⟩) I m1
theorem scCt:Aq qy qy<|Ae zZ:=Bh
include N T in
theorem xK:BX P w K mg base BW 3 aD.Ct qy ZM:=by
 refine N.FCt.1.Dl scCt λH vs Q E hr h=>?_;obtain⟨r,len,o,rfl,R,O,q⟩:=h;refine⟨_,@Ag _ _ _<|@Ax _ _ _ _<|Bm U (BR (osc:=Ae zZ) (N:=qy) U U<|by decide) (BZ<|BL N.FCh (yE N T) hr<|@BJ _ _ _ _ _ U (pv 0) Ab) (λ_ _ _ _=>CJ)<|λ_ _ _ _=>(@Av _ _ _ _ _ _ _ (Am (K:=K) U) (pv 0) Ac<|λ_ _=>rfl),?_⟩;refine⟨r,len,o,U,R,O,λF l f A L s u X Y pw=>?_⟩;have ll:=u.length;refine⟨⟨_,oz s⟩,NK (K:=K) (xs:=l) (λ_ y z=>∃m,z=V.int m/\Xg A m y) (λ_ _ _ _ _ p=>p) (λ_ _ _ _ _ _ _ p=>p) (oz s) (Aw<|by lia) (λx G k o R t=>t k<|Al.refl k) (λx G k o R t=>?_)<|λD Z g hD s2 M n=>?_⟩
 .obtain⟨i,hi⟩:=ge G;obtain⟨m,hm,T,a,b,rfl,B⟩:=Do u hi;exact⟨_,_,oz<|o _ _ B,Aj (j:=0) U,t _ k (Al.refl k) ⟨m,U,T,a,b,U,B⟩⟩
 have e:g=f.map V.int:=by
  have v:∀{f:_b _i}{l g:_b V},Paired (Xg A) f l->Paired (λy z=>∃m,z=V.int m/\Xg A m y) l g->g=f.map V.int:=λ{f l g} S n=>by
   induction S generalizing g with
   |nil=>cases n;rfl
   |cons a b ih =>
    cases n with
    |cons c d =>
     obtain⟨m',rfl,T',a',b',I,C⟩:=c;obtain⟨T,s,b1,W,J⟩:=a;rw[W] at I
     cases I;rw[J] at C
     cases C;rw[ih d];rfl
  exact v u n
 subst e;exact q D f Z (L.trans s2) M X Y pw
noncomputable def okN(f c:_d)(x:_i):Bool:=decide (0<=x - (f:_i)) && decide (x - (f:_i)<(c:_i))
def Yc(ms:_b _i)(f c:_d):_b Nat:=(ms.filter<|okN f c).map λx:_i=>(x - (f:_i)).toNat
theorem Qm{f c:_d}{x:_i}:okN f c x=_h ↔ (f:_i)<=x/\x<f+c:=by
 unfold okN;rw[eI,_N,_N];lia
theorem Js{ms:_b _i}{f c:_d}:n∈Yc ms f c ↔ n<c/\((f+n:_d):_i)∈ms:=by
 unfold Yc;rw[ay];constructor
 .rintro⟨x,d,rfl⟩;obtain⟨b,a⟩:=cy.mp d;have a:=Qm.mp a;exact⟨by lia,by rw[show ((f+(x - (f:_i)).toNat:_d):_i)=x by lia];exact b⟩
 .rintro⟨b,a⟩;exact⟨_,cy.mpr ⟨a,Qm.mpr<|by lia⟩,by lia⟩
theorem mX{ms:_b _i}{f c:_d}:(Yc ms f c).length<=ms.length:=by
 unfold Yc;rw[ah];exact dE ..
def xx(f c:_d):V->_V
 |.int x=>okN f c x
 |_=>_r
noncomputable def subV(f:_d):V->V
 |.int x=>.int<|x - (f:_i)
 |_=>.non
theorem yx(ms:_b _i)(f c:_d):((ms.map V.int).filter<|xx f c).map (subV f)=nV (Yc ms f c):=by
 unfold Yc
 induction ms with
 |nil=>rfl
 |cons x ms a =>
  rw[df,eJ,eJ];show (if okN f c x=_h then _ else _:_b V).map _=nV ((if okN f c x=_h then _ else _:_b _i).map _);by_cases h:okN f c x=_h
  .rw[_o h,_o h,df,df,a];have b:=Qm.mp h;show V.int (x - (f:_i))::_=V.int (((x - (f:_i)).toNat:_d):_i)::_;rw[eK (by lia)]
  .rw[_l h,_l h,a]
theorem sub_len:∀{l L:_b _i},l.Nodup->(∀x∈l,x∈L)->l.length<=L.length
 |[],_,_,_=>cK _
 |a::l,L,c,h=>by
  have b:=h a<|.head _
  have:=sub_len (l:=l) (L:=L.erase a) (fR.mp c).2 (λx d=>(AI λ(e:x=a)=>(fR.mp c).1 (e ▸ d)).mpr<|h x<|.tail _ d);rw[ve b] at this;have:=kF b;rw[zdl];lia
theorem eF{a:_b T3}{ms:_b _i}{d:_i}(b:ms.Pairwise (· < ·))(h:∀x,x∈ms ↔ DN a x d):ms.length<=a.length:=by
 have:=sub_len (L:=a.map (·.1)) (b.imp λh=>_aq h) λx e=>by
  obtain⟨t,c,rfl,_⟩:=(h x).mp e;exact cS c
 rwa [ah] at this
inductive nq(K:_s)(vs:_b V)(H:Hp)(Q:VK)(f6:XK):Prop
|mk(l:_g)(ms:_b _i)(f c:_d)(_:vs=[.ref l,.int (f:_d),.int (c:_d)])(_:Cp K H l (ms.map V.int))(_:ms.length<=400)(_:c<=1200)(_:∀H',Al H H'->Q (.int (Wd.mk (Yc ms f c):_d)) H')
theorem zH:Aq ie ie<|Ae sNf:=Bh
include N T in
theorem uT:BX P w K mg base BW 4 aD.Nf ie<|nq K:=by
 refine N.FNf.1.Dl zH λH B Q E o h=>?_;obtain⟨l,s,f,c,rfl,i,z,y,q⟩:=h;refine⟨_,Ag<|Ax<|BL N.FSt (Ym N T) o<|Aa (Bm U (BR (osc:=Ae sNf) (N:=ie) U U<|by decide) (BZ<|pv 0) (λ_ _ _ _=>(HF<|Ij Er G_ Ac (Ar El (pv 0)<|pv 2)<|pv 3))<|λ_ _ _ _=>(Ar El (pv 0)<|pv 2)) Ab,?_⟩;refine⟨⟨_,i⟩,DG (K:=K) (xs:=s.map V.int) (xx f c) (subV f) i (Aw<|by rw[ah];lia) (λv g a t R k=>?_) (λv g _ a t R k=>?_)<|λD u A p b=>?_⟩
 .obtain⟨x,_,rfl⟩:=ay.mp g;have d:R (decide (0<=x - (f:_i)) && decide (x - (f:_i)<(c:_i))) a:=k a<|Al.refl a
  refine Ed (λe=>?_)<|λe=>?_
  .rw[show decide (0<=x - (f:_i))=_h from e,vk] at d;exact d
  .rw[show decide (0<=x - (f:_i))=_r from (KG _).mp e,Pd] at d;exact d
 .obtain⟨x,_,rfl⟩:=ay.mp g;exact k a<|Al.refl a
 rw[yx] at b;exact⟨D,_,U,b,bo mX<|by lia,(λn j=>by have:=(Js.mp j).1;lia),λm r=>q m<|p.trans r⟩
inductive Ex(c:_d->_A)(sz:_b _d)(rk:_b<|_A×_d×_i)(d3:_b Kb)(ls:_b<|_b Ln)(hs:_b T3)(i9:_i)(p:_d):Prop
|mk(ms:_b _i)(cl:_b _d)(m:_d)(_:∀x,x∈ms ↔ DN hs x i9)(_:∀k,k∈cl ↔ ∃z,d3[k]? = _a z/\z.w = "stop" /\ k∈Yc ms sz.sum d3.length)(_:∀j,m.testBit j=_h ↔ VJ c sz d3 (Wd.mk (Yc ms sz.sum d3.length)) (Wd.mk (Yc ms 0 sz.sum)) j)(_:p=ni sz rk d3 ls cl m)
inductive XS(C:_g)(vs:_b V)(H:Hp)(Q:VK)(f6:XK):Prop
|mk(x r:_g)(c:_d->_A)(sz:_b _d)(rk:_b (_A×_d×_i))(d3:_b Kb)(ls:_b (_b Ln:_))(len i9:_i)(hs:_b T3)(_:vs=[.ref x,.ref r,.int i9])(_:Ds C H x (Bj c sz) rk (Cy c d3) ls)(_:Vo sz.length d3)(_:jx rk ls)(_:GD H r len hs)(_:Canon hs)(_:hs.length<400)(_:∀(p:_d) H',Al H H'->Ex c sz rk d3 ls hs i9 p->Q (.int (p:_d)) H')
theorem qM:Aq ["organ","roll","tick","tracks","keys"] o3 (Ae sSa):=Bh
include N T in
theorem lJ:BX P w K mg base BW 8 aD.Sa o3<|XS C:=by
 refine N.FSa.1.Dl qM λH vs Q E a h=>?_;obtain⟨x,r,c,sz,rk,o,ls,len,i9,hs,rfl,O,z,Gc,R0,c0,X,q⟩:=h;have hu:=Fi a;refine⟨_,(Af (BP (i:=3) qM.nd U (Or.inl U)<|BL N.FOa (wR N T) a<|Aa (pv 1)<|Aa (pv 2) Ab)
  (Af (BP (i:=4) qM.nd U (Or.inl U)<|J5 (pv 0) T.cl N.FOc (Ze N T) a)
  (Ag<|Ax<|BL N.FSo (tu N T) a<|Aa (pv 0)<|Aa (BL N.FNf (uT N T) a<|Aa (pv 3)<|Aa (pv 4)<|Aa (A_ BV U T.len dv<|Aa (J5 (pv 0) T.cl N.FOz (lZ N T) a) Ab) Ab)<|Aa (BL N.FNf (uT N T) a<|Aa (pv 3)<|Aa Ac<|Aa (pv 4) Ab) Ab))),?_⟩
 refine⟨r,len,i9,hs,U,R0,c0,X,?_⟩;intro l f H1 G l1 po v;have ab:=eF po v;have b:=O.mono G;obtain⟨⟨B,fs,bl,bn,kp,kr,oQ,qv,rL,aa,F,k1,k2,k3,k4,A,_⟩,_⟩:=id b.o;refine⟨B,fs,F,A _<|by decide,x,_,_,U,b.o,?_⟩;rw[GK,D_];refine⟨B,fs,F,A _<|by decide,x,_,_,U,b.o,λD ys S hD s Z R=>?_⟩;have ly:ys.length=o.length:=by rw[<-R.length];unfold Cy;rw[Ι,ŗ]
 refine⟨D,_,U,oz<|.inl Z,?_⟩;rw[ly];have d:Cp K S l<|f.map V.int:=.inl<|.inl<|s _ _ l1
 have W:=GF b.o;rw[D_] at W;refine⟨l,f,sz.sum,o.length,U,d,by lia,(by have:=z.len;lia),λH3 t=>?_⟩;refine⟨l,f,0,sz.sum,U,t.seq d,by lia,by lia,λH4 y=>?_⟩;refine⟨x,c,sz,rk,o,ls,_,_,U,b.mono<|s.trans<|t.trans y,z,Gc,Wd.uP (λn L=>by have:=(Js.mp L).1;lia),(λi I=>by rw[Wd.Ft] at I;exact (Js.mp<|_G I).1),λM m J Y g MO=>q _ J (G.trans<|s.trans<|t.trans<|y.trans Y) ⟨f,M,m,v,λk=>?_,MO,U⟩⟩;rw[g];constructor
 .rintro⟨p,u,j,e⟩;rw[Wd.Ft] at e;exact⟨p,u,j,_G e⟩
 .rintro⟨p,u,j,e⟩;exact⟨p,u,j,by rw[Wd.Ft];exact _v e⟩
def Gi(a b:_d):Nat:=a - (a &&& b)
theorem WN(a b:_d):Ą ((a:_d):_i) (À ((b:_d):_i))=((Gi a b:_d):_i):=by
 unfold Ą À Gi;have d:decide (0<=((a:_d):_i))=true:=_v<|by lia
 have e:decide (0 <= -((b:_d):_i) - 1)=false:=_L<|by lia
 rw[d,e];show ((a:_d):_i) - (((((a:_d):_i).toNat &&& (-(-((b:_d):_i) - 1) - 1).toNat:_d)):_i)=_;have c:(-(-((b:_d):_i) - 1) - 1).toNat=b:=by lia
 rw[c,aI];have:=@Nat.and_le_left a b;lia
theorem ZW(a b:_d):Gi a b<=a:=Nat.sub_le _ _
theorem Gz(h:H p=_n)(xs:_b V):∃H',upd H p (HO.lst xs)=H'/\Al H H'/\H' p=_a (.lst xs):=⟨_,U,Ay h,Ai⟩
theorem S6(h:H p=_n)(xs:_b V):∃H',upd H p (HO.tup xs)=H'/\Al H H'/\H' p=_a (.tup xs):=⟨_,U,Ay h,Ai⟩
theorem c7(a b:_d):Wd.mem (Gi a b)=(Wd.mem a).filter λk=>!b.testBit k:=by
 have c:((Wd.mem a).filter λk=>!b.testBit k).Pairwise (· < ·):=ć _<|Wd.Fy a
 rw[<-Wd.Zr c];refine congrArg Wd.mem<|fE λi=>?_
 show (a - (a &&& b)).testBit i=_;rw[Gn.W3,Wd.Ft,dA,_N,cy,Wd.mem_iff,eI]
theorem Ec(a b k:_d):(Gi a b).testBit k=(a.testBit k && !b.testBit k):=Gn.W3 a b k
theorem Qu(a b:_d):(Wd.mem<|Gi a b).length<=(Wd.mem a).length:=by
 rw[c7];exact dE ..
inductive RC(rs:_b<|_i×_d)(i:_d)(x:_d)(t:_i):Prop
|mk(k:_d)(a b:_i×_d)(_:k+1<i)(_:rs[k]? = _a a)(_:rs[k+1]? = _a b)(_:a.1<=t)(_:t<b.1)(_:a.2.testBit x=_h)
def yN(rs:_b<|_i×_d):Prop:=∀(i:_d)(a b:_i × _d),rs[i]? = _a a->rs[i+1]? = _a b->a.1<=b.1/\(a.2≠0->a.1<b.1)
structure Rn(rs:_b<|_i×_d)(i:_d)(ts:_b T3)(sn:_d->_i)(hd:_d)(la:_i):Prop where
 p:(i=0/\hd=0) \/ ∃j,i=j+1/\rs[j]? = _a (la,hd)
 b:∀x,hd.testBit x=_h->sn x<=la
 c:∀(x:_d) t,(DN ts x t \/ (hd.testBit x=_h/\sn x<=t/\t<la)) ↔ RC rs i x t
 d:∀t∈ts,0<=t.1/\t.2.1<t.2.2
noncomputable abbrev cls(ts:_b T3)(sn:_d->_i)(hd m:_d)(tau:_i):_b T3:=ts++(Wd.mem<|Gi hd m).map λx:_d=>(((x:_d):_i),sn x,tau)
theorem fX{a b:_b T3}{x:_i}:DN (a++b) x t ↔ DN a x t \/ DN b x t:=by
 unfold DN;constructor
 .rintro⟨h,c,e⟩;rcases aE.mp c with g | g
  .exact .inl ⟨h,g,e⟩
  .exact .inr ⟨h,g,e⟩
 .rintro (⟨h,c,e⟩ | ⟨h,c,e⟩)
  .exact⟨h,cm _ c,e⟩
  .exact⟨h,db _ c,e⟩
theorem eG{sn:_d->_i}{tau:_i}{x:_d}:DN ((Wd.mem<|Gi hd m).map λx:_d=>(((x:_d):_i),sn x,tau)) x t ↔ hd.testBit x=_h/\m.testBit x=_r/\sn x<=t/\t<tau:=by
 unfold DN;constructor
 .rintro⟨h,f,e,i,j⟩;obtain⟨y,g,rfl⟩:=ay.mp f;have e:y=x:=by have:((y:_d):_i)=x:=e;lia
  subst e;have:=Wd.mem_iff.mp g;rw[Ec,eI,fz] at this;exact⟨this.1,this.2,i,j⟩
 .rintro⟨a,b,c,d⟩;exact⟨_,ay.mpr ⟨x,Wd.mem_iff.mpr<|by rw[Ec,a,b];rfl,U⟩,U,c,d⟩
theorem Rn.zero(d:_b<|_i×_d):Rn d 0 [] (λ_=>0) 0 0:=by
 refine⟨.inl ⟨U,U⟩,λx h=>?_,λx t=>⟨λg=>?_,λg=>?_⟩,λ_ h=>nomatch h⟩
 .rw[gL] at h;cases h
 .rcases g with⟨h,c,_⟩ | ⟨h,_⟩
  .cases c
  .rw[gL] at h;cases h
 .obtain⟨k,a,b,h,_⟩:=g;lia
theorem Rn.step{n:_b (_i×_d)}{ts:_b T3}{sn:_d->_i}{l tau:_i}(h:Rn n i ts sn hd l)(ok:yN n)(hi:n[i]? = _a (tau,m)):Rn n (i+1) (cls ts sn hd m tau) (λx=>if (Gi m hd).testBit x=_h then tau else sn x) m tau:=by
 have o:∀x,hd.testBit x=_h->sn x<=l/\l<tau/\∃j,i=j+1/\n[j]? = _a (l,hd):=λx f=>by
  rcases h.p with⟨_,e⟩ | ⟨j,rfl,e⟩
  .rw[e,gL] at f;cases f
  .have:=ok j _ _ e hi;exact⟨h.b x f,this.2 (λz=>by rw[show hd=0 from z,ø] at f;cases f),j,rfl,e⟩
 refine⟨.inr ⟨i,U,hi⟩,λx f=>?_,λx t=>?_,λt E=>?_⟩
 .by_cases g:(Gi m hd).testBit x=_h
  .rw[_o g];exact nc _
  .rw[_l g];rw[Ec,f,fw,fz,hZ] at g;have:=o x g;lia
 .have st:RC n (i+1) x t ↔ RC n i x t \/ (hd.testBit x=_h/\l<=t/\t<tau):=by
   constructor
   .rintro⟨k,a,b,A,v,u,q,s,r⟩;by_cases w:k+1<i
    .exact .inl ⟨k,a,b,w,v,u,q,s,r⟩
    .have B:i=k+1:=by lia
     subst B;rw[hi] at u;obtain rfl:=_m u;rcases h.p with⟨e,_⟩ | ⟨j,I,e⟩
     .lia
     .obtain rfl:j=k:=by lia
      rw[e] at v;obtain rfl:=_m v;exact .inr ⟨r,q,s⟩
   .rintro (⟨k,a,b,A,H,D,G,F,C⟩ | ⟨q,s,r⟩)
    .exact⟨k,a,b,by lia,H,D,G,F,C⟩
    .obtain⟨_,_,j,rfl,e⟩:=o x q;exact⟨j,_,_,by lia,e,hi,s,r,q⟩
  rw[st,<-h.c,fX,eG];constructor
  .rintro ((a | ⟨a,b,c,d⟩) | ⟨a,b,c⟩)
   .exact .inl<|.inl a
   .by_cases g:t<l
    .exact .inl<|.inr ⟨a,c,g⟩
    .exact .inr ⟨a,by lia,d⟩
   .by_cases g:(Gi m hd).testBit x=_h
    .rw[_o g] at b;lia
    .rw[_l g] at b;rw[Ec,a,fw,fz,hZ] at g;by_cases y:t<l
     .exact .inl<|.inr ⟨g,b,y⟩
     .exact .inr ⟨g,by lia,c⟩
  .have p:hd.testBit x=_h->sn x<=t->t<tau->(DN ts x t \/ (hd.testBit x=_h/\m.testBit x=_r/\sn x<=t/\t<tau)) \/ (m.testBit x=_h/\(if (Gi m hd).testBit x=_h then tau else sn x)<=t/\t<tau):=λa b c=>by
    cases g:m.testBit x with
    |false=>exact .inl<|.inr ⟨a,U,b,c⟩
    |true =>
     refine .inr ⟨U,?_,c⟩;rw[_l (by rw[Ec,a,g];decide)];exact b
   rintro ((a | ⟨a,b,c⟩) | ⟨a,b,c⟩)
   .exact .inl<|.inl a
   .exact p a b (by have:=o x a;lia)
   .exact p a (by have:=o x a;lia) c
 .rcases aE.mp E with g | g
  .exact h.d t g
  .obtain⟨x,f,rfl⟩:=ay.mp g;have:=Wd.mem_iff.mp f;rw[Ec,eI] at this;have:=o x this.1;exact⟨by show (0:_i)<=(x:_d);lia,by show sn x<tau;lia⟩
theorem Rn.fin{b:_b (_i×_d)}{ts:_b T3}{sn:_d->_i}{d:_i}(h:Rn b n ts sn 0 d)(x t:_i):DN ts x t ↔ 0<=x/\RC b n x.toNat t:=by
 constructor
 .intro c;obtain⟨z,f,e,i⟩:=id c;have a:=(h.d z f).1;rw[e] at a;refine⟨a,(h.c x.toNat t).mp<|.inl ?_⟩;rw[eK a];exact c
 .rintro⟨a,r⟩;rcases (h.c x.toNat t).mpr r with g | ⟨g,_⟩
  .rw[eK a] at g;exact g
  .rw[gL] at g;cases g
inductive ao(c0:_g)(B:M7)(vs:_b V)(H:Hp)(Q:VK)(E:XK):Prop
|mk(a:_g)(ts:_b T3)(ys:_b V)(_:vs=[.ref a])(_:Cz H a ts ys)(_:ys.length<30000)(_:∀t∈ts,t.2.1<t.2.2)(_:Tb B H)(_:∀(p:_g)(hs:_b T3)(zs:_b V)(H':Hp),H p=_n->Kp B H H'->Tb B H'->Cz H' p hs zs->Canon hs->(∀tr t,DN hs tr t ↔ DN ts tr t)->hs.length<=400->Q (.ref p) H')(_:∀(hs:_b T3)(H':Hp),Kp B H H'->Tb B H'->Canon hs->(∀tr t,DN hs tr t ↔ DN ts tr t)->400<hs.length->E (.ref c0) _n H')
theorem pX(N:Vb K mg C c1 aD)(T:Txt K w.params mg C cR aN aK aB aP aM)(m:Hl mg base c1 P1):BX P w K mg base (Rb P w) 2 aD.Fh kw<|ao cR<|tb P1:=by
 have d:BX P w K mg base BW 1 aD.Ho kw<|Rg<|tb P1:=bM N T m
 refine N.FFh.1.oY fU λH F Q E r h=>?_;obtain⟨a,l,s,rfl,n,x,b,t,q,u⟩:=h;obtain⟨z,A⟩:=T.cMOST_HOLES;refine⟨_,(@Af _ _ _ _ _ (@CT _ _ _ _ _ _ 1 fU.nd U (Or.inl U) (Kz d (ae r) U N.mHo N.FHo.kp N.bHo .nil Ni<|@BJ _ _ _ _ _ U (pv 0) Ab) (by kernel_rfl)<|.inl U)
  (@Af _ _ _ _ _ (@Cg _ _ _ _ _ _ _ _ (Bb QG (A_ BV U T.len dv<|@BJ _ _ _ _ _ U (pv 1) Ab) (CW (v:=.int 400) U A ⟨z,U⟩)<|Bc _) (@Ag _ _ _<|Ye T.exR U T.mR U iI<|@BJ _ _ _ _ _ U CQ Ab) Be)
  (@Ag _ _ _<|@Ax _ _ _ _<|pv 1))),?_⟩
 refine⟨a,l,s,U,n,x,b,t,λp e y j k f i c c1 g D=>?_⟩;have B:=c.len;refine⟨p,_,U,oz<|.inl c.l,?_⟩;by_cases o:400<e.length
 .exact Xy (by lia) ⟨by decide,u e j f i c1 g o⟩
 .exact UJ (by lia)<|q p e y j k f i c c1 g<|by lia
theorem Hs{α:Type}{F:α->V->Prop}:∀{l:_b α}{vs:_b V}{i:_d}{v:V},Paired F l vs->vs[i]? = _a v->∃x,l[i]? = _a x/\F x v
 |[],_,i,_,.nil,e=>by cases i <;> cases e
 |_,_,0,_,.cons h _,e=>by cases e;exact⟨_,U,h⟩
 |_::_,_::vs,i+1,_,.cons _ p,e=>by
  obtain⟨x,a,b⟩:=Hs p (show vs[i]? = _ from e);exact⟨x,a,b⟩
theorem ZJ{k:Key}{v:V}:(putK kvs k v).length<=kvs.length+1:=by
 unfold putK;split
 .rw[ah];lia
 .rw[av];exact ai _
def Kq(H H':Hp)(p d:_g):Prop:=∀b o,b≠p->b≠d->H b=_a o->H' b=_a o
theorem Kq.same(k:Kq H H1 p d)(s:Al H1 H2):Kq H H2 p d:=λb o a c e=>s _ _<|k b o a c e
theorem Kq.vC{v:HO}(k:Kq H H1 p d):Kq H (upd H1 p v) p d:=λb o a c e=>by rw[An a];exact k b o a c e
theorem Kq.rO{v:HO}(k:Kq H H1 p d):Kq H (upd H1 d v) p d:=λb o c a e=>by rw[An a];exact k b o c a e
theorem Kq.keep{h:_b V}{k0:_b (Key×V)}(k:Kq H H1 p d)(g:H p=_a (.lst h))(c:H d=_a (.dK k0))(e:H b=_a o)(a:∀l,o≠.lst l)(f:∀l,o≠.dK l):H1 b=_a o :=
 k b o (λz=>by rw[z,g] at e;exact a _ (_m e).symm) (λz=>by rw[z,c] at e;exact f _ (_m e).symm) e
theorem tU{B:M7}{g:_b V}{k0:_b (Key×V)}(k:Kq H H1 p d)(b:H p=_a (.lst g))(a:H d=_a (.dK k0))(t:Tb B H):Tb B H1:=by
 rcases t with t | ⟨c,f,e⟩
 .exact .inl<|k.keep b a t (λ_ z=>by cases z) (λ_ z=>by cases z)
 .exact .inr ⟨c,k.keep b a f (λ_ z=>by cases z) (λ_ z=>by cases z),k.keep b a e (by unfold QB;simp)<|by unfold QB;simp⟩
inductive aO(c0:_g)(B:M7)(vs:_b V)(H:Hp)(Q:VK)(E:XK):Prop
|mk(a:_g)(rs:_b (_i×_d))(us:_b V)(len:_i)(b:_d)(_:vs=[.int len,.ref a])(_:H a=_a (.lst us))(_:Paired (λ(r:_i×_d) v=>TupAt H [.int r.1,.int (r.2:_d)] v) rs us)(_:yN (rs++[(len,0)]))(_:∀r∈rs,r.2<2 ^ 1200/\(Wd.mem r.2).length<=b)(_:b * (rs.length+1)<30000)(_:rs.length<=900)(_:Tb B H)(_:∀(r:_g)(hs:_b T3)(H':Hp),Kp B H H'->Tb B H'->dU H H' r len hs->Canon hs->(∀x t,DN hs x t ↔ 0<=x/\RC (rs++[(len,0)]) (rs.length+1) x.toNat t)->hs.length<=400->Q (.ref r) H')(_:∀(hs:_b T3)(H':Hp),Kp B H H'->Tb B H'->Canon hs->(∀x t,DN hs x t ↔ 0<=x/\RC (rs++[(len,0)]) (rs.length+1) x.toNat t)->400<hs.length->E (.ref c0) _n H')
theorem Tu:Aq ["length","runs","spans","since","ahead","run","track"] pV (Ae sRr):=Bh
inductive fM(H5:Hp)(pS:_g)(dS:_g)(rr:_b<|_i×_d)(b:_d)(len:_i)(a:_g)(i:_d)(σ:St)(Hx:Hp):Prop
|mk(_:Kq H5 Hx pS dS)(ts:_b T3)(ys:_b V)(kvs:_b (Key × V))(sn:_d->_i)(hd:_d)(lt:_i)(v5 v6:_t V)(_:Cz Hx pS ts ys)(_:Hx dS=_a (.dK kvs))(_:(∀x:_d,hd.testBit x=_h->Cv kvs (_R ((x:_d):_i))=_a (.int (sn x))))(_:Rn rr i ts sn hd lt)(_:ts.length<=b * i)(_:kvs.length<=b * i)(_:σ=[_a (.int len),_a (.ref a),_a (.ref pS),_a (.ref dS),_a (.int (hd:_d)),v5,v6])
theorem fM.fst{f:Hp}{c:_g}{d:_g}{g:_b (_i×_d)}{b:_d}{len:_i}{e:Hp}(h:fM f c d g b len a i σ e):Kq f e c d:=by
 cases h;assumption
inductive iz(H5:Hp)(pS:_g)(dS:_g)(lM:_g)(hd:_d)(m:_d)(kvs:_b<|Key×V)(ts:_b T3)(sn:_d->_i)(tau:_i)(len:_i)(a:_g)(T0:_g)(j:_d)(σ:St)(Hy:Hp):Prop
|mk(_:Kq H5 Hy pS dS)(_:Hy lM=_a (.lst (nV (Wd.mem (Gi hd m)))))(_:Hy dS=_a (.dK kvs))(ys:_b V)(v6:_t V)(_:Cz Hy pS (ts++((Wd.mem (Gi hd m)).take j).map λx:_d=>(((x:_d):_i),sn x,tau)) ys)(_:σ=[_a (.int len),_a<|.ref a,_a<|.ref pS,_a<|.ref dS,_a<|.int (hd:_d),_a<|.ref T0,v6])
theorem iz.snd{e:Hp}{g:_g}{d:_g}{c:_g}{ts:_b T3}{sn:_d->_i}{tau:_i}{len:_i}{f:_g}{b:Hp}(h:iz e g d c hd m kvs ts sn tau len a f j σ b):b c=_a (.lst<|nV<|Wd.mem<|Gi hd m):=by
 cases h;assumption
inductive iG(H5:Hp)(pS:_g)(dS:_g)(lN:_g)(m:_d)(hd:_d)(ts:_b T3)(sn:_d->_i)(tau:_i)(ys:_b V)(kvs:_b<|Key×V)(len:_i)(a:_g)(T0:_g)(j:_d)(σ:St)(Hz:Hp):Prop
|mk(_:Kq H5 Hz pS dS)(_:Hz lN=_a (.lst (nV (Wd.mem (Gi m hd)))))(_:Cz Hz pS (cls ts sn hd m tau) ys)(y':_b (Key × V))(v6:_t V)(_:Hz dS=_a (.dK y'))(_:(∀x:_d,Cv y' (_R ((x:_d):_i))=if x∈(Wd.mem (Gi m hd)).take j then _a (.int tau) else Cv kvs (_R ((x:_d):_i))))(_:y'.length<=kvs.length+j)(_:σ=[_a (.int len),_a (.ref a),_a (.ref pS),_a (.ref dS),_a (.int (hd:_d)),_a (.ref T0),v6])
theorem iG.snd{e:Hp}{g:_g}{d:_g}{c:_g}{ts:_b T3}{sn:_d->_i}{tau:_i}{len:_i}{f:_g}{b:Hp}(h:iG e g d c m hd ts sn tau ys kvs len a f j σ b):b c=_a (.lst<|nV<|Wd.mem<|Gi m hd):=by
 cases h;assumption
theorem pP(N:Vb K mg C c1 aD)(T:Txt K w.params mg C cR aN aK aB aP aM)(K1:Hl mg base c1 P1):BX P w K mg base (Rb P w) 4 aD.Rr pV<|aO cR<|tb P1:=by
 have ac:BX P w K mg base (Rb P w) 2 aD.Fh kw<|ao cR<|tb P1:=pX N T K1
 refine N.FRr.1.oY Tu λH vs Q E hr h=>?_;obtain⟨a,D,us,len,b,rfl,hA,P0,KP,hm,hb,hl,sm,q,qE⟩:=h;have hu:=Fi hr;refine⟨_,(@Af _ _ _ _ _ (@CT _ _ _ _ _ _ 2 Tu.nd U (Or.inl U) (@CV _ _ _ _ Ab) (by kernel_rfl)<|.inl U)
  (@Af _ _ _ _ _ (@CT _ _ _ _ _ _ 3 Tu.nd U (Or.inl U) Iu (by kernel_rfl)<|.inl U)
  (@Af _ _ _ _ _ (@CT _ _ _ _ _ _ 4 Tu.nd U (Or.inl U) Ac (by kernel_rfl)<|.inl U)
  (@Af _ _ _ _ _ (DQ Ŋ U (BZ<|Ar PJ (pv 1)<|@CV _ _ _ _<|@BJ _ _ _ _ _ U (@Bx _ _ _ _ _<|@BJ _ _ _ _ _ U (pv 0)<|@BJ _ _ _ _ _ U Ac Ab) Ab) (Bg (i:=5) Tu.nd U<|Or.inl U) (@Af _ _ _ _ _ (DQ Ŋ U (BZ<|BL N.FMe (Z1 N T) hr<|@BJ _ _ _ _ _ U (Ar Np (pv 4)<|K8 aG<|@Av _ _ _ _ _ _ _ (Am (K:=K) U) (pv 5) Ac<|λ_ _=>rfl) Ab) (Bg (i:=6) Tu.nd U<|Or.inl U)<|@Ag _ _ _<|C_<|E_ bE cr cw CZ (pv 2)<|@BJ _ _ _ _ _ U (@Bx _ _ _ _ _<|@BJ _ _ _ _ _ U (pv 6)<|@BJ _ _ _ _ _ U (Hf hu (pv 3) (pv 6)<|λ_ _=>rfl)<|@BJ _ _ _ _ _ U (@Av _ _ _ _ _ _ _ (Am (K:=K) U) (pv 5) Ac<|λ_ _=>rfl) Ab) Ab)
  (@Af _ _ _ _ _ (DQ Ŋ U (BZ<|BL N.FMe (Z1 N T) hr<|@BJ _ _ _ _ _ U (Ar Np (@Av _ _ _ _ _ _ _ (Am (K:=K) U) (pv 5) Ac<|λ_ _=>rfl)<|K8 aG<|pv 4) Ab) (Bg (i:=6) Tu.nd U<|Or.inl U)<|@Ag _ _ _<|Q_ hu (pv 3) (pv 6) (@Av _ _ _ _ _ _ _ (Am (K:=K) U) (pv 5) Ac<|λ_ _=>rfl) U)
  (@Ag _ _ _<|@CT _ _ _ _ _ _ 4 Tu.nd U (Or.inl U) (@Av _ _ _ _ _ _ _ (Am (K:=K) U) (pv 5) Ac<|λ_ _=>rfl) (by kernel_rfl)<|.inl U))))
  (@Ag _ _ _<|@Ax _ _ _ _<|@Bx _ _ _ _ _<|@BJ _ _ _ _ _ U (pv 0)<|@BJ _ _ _ _ _ U (BL N.FFh ac hr<|@BJ _ _ _ _ _ U (pv 2) Ab) Ab))))),?_⟩
 refine⟨cK _,λI BI=>?_⟩;obtain⟨H1,B,s1,u1⟩:=Gz BI [];rw[B];clear B;refine λG BU=>?_;obtain⟨H2,B,s2,u2⟩:=Jp (o:=HO.dK []) BU;rw[B];have ab:I≠G:=Ak u1 BU;have fd:H G=none:=s1.free BU;refine⟨by show 2<=sizeLine;decide,λT9 LF=>?_⟩;obtain⟨H3,B,s3,u3⟩:=S6 LF [V.int len,V.int 0];rw[B];clear B;refine⟨by show 1<=sizeLine;decide,λl4 uu=>?_⟩;obtain⟨H4,B,Y,u4⟩:=Gz uu [V.ref T9];rw[B];clear B;have aa:Al H H4:=s1.trans<|s2.trans<|s3.trans Y
 have lu:us.length=D.length:=P0.length.symm;refine⟨a,l4,_,_,U,U,aa _ _ hA,u4,DW (by rw[lu];show _+1<=_;lia),λlR AF=>?_⟩;obtain⟨H5,B,s5,u5⟩:=Gz AF<|us++[V.ref T9];rw[B];clear B;have si:=aa.trans s5;have P5:Paired (λ(r:_i×_d) v=>TupAt H5 [.int r.1,.int (r.2:_d)] v) (D++[(len,0)])<|us++[V.ref T9]:=FN (FT P0 λ_ _ _ g=>g.mono si)<|.cons ⟨T9,U,(Y.trans s5) _ _ u3⟩ .nil
 have uS:=(s2.trans<|s3.trans<|Y.trans s5) _ _ u1;have Fm:=(s3.trans<|Y.trans s5) _ _ u2;have as:lR≠I:=_T<|Ak ((s2.trans<|s3.trans Y) _ _ u1) AF
 have a0:lR≠G:=_T<|Ak ((s3.trans Y) _ _ u2) AF
 have Z:∀r∈D++[(len,0)],r.2<2 ^ 1200/\(Wd.mem r.2).length<=b:=λr hr=>by
  rcases aE.mp hr with g | g
  .exact hm r g
  .rw[al.mp g];exact⟨C'<|by decide,cK _⟩
 have lr:(us++[V.ref T9]).length=D.length+1:=by rw[av,lu];rfl
 have aw:(D++[(len,0)]).length=D.length+1:=by rw[av];rfl
 have la:(D++[(len,0)])[D.length]? = _a (len,0):=by rw[ci (ai _),iN];rfl
 clear s1 s2 s3 Y s5 u1 u2 u3 u4 LF uu AF aa P0 hm;generalize us++[V.ref T9]=ws at u5 P5 lr;generalize a3:D++[(len,0)]=rr at P5 KP Z aw la q qE;refine⟨⟨_,oz u5⟩,Dk (K:=K) (a:=lR) (xs:=ws) (fM H5 I G rr b len a) ⟨λ_ _ _ _ e=>e,[],[],[],λ_=>0,0,0,_,_,⟨uS,.nil⟩,Fm,(λx O=>by rw[gL] at O;cases O),Rn.zero _,cK _,cK _,rfl⟩ (λi σ Hx _ h=>oz (h.fst _ _ as a0 u5)) ?_ ?_⟩
 case refine_2 =>
  rintro σ Hx ⟨l,ts,S,L,X,d,lt,v5,v6,A,s,hv,R,l1,l2,rfl⟩;rw[lr] at R l1;obtain⟨rfl,rfl⟩:d=0/\lt=len:=by
   rcases R.p with⟨z,_⟩ | ⟨j,ej,e⟩
   .lia
   .obtain rfl:j=D.length:=by lia
    rw[la] at e
    cases e;exact⟨U,U⟩
  have kp:Kp (tb P1) H Hx:=λb o _ e=>l b o (Ak e BI) (Ak e fd)<|si _ _ e
  have ly:=A.len;have Tx:=tU l uS Fm<|sm.same si
  refine⟨I,ts,S,U,A,by lia,λt ht=>(R.d t ht).2,Tx,λp hs zs H' f k t A' c v n=>⟨by show 2<=sizeLine;decide,λr M=>?_⟩,λhs H' k t c v n=>qE hs H' (kp.trans k) t c (λx t=>by rw[v];exact R.fin x t) n⟩;have s9:=Ay (o:=HO.tup [V.int lt,V.ref p]) M;refine q r hs _ (kp.trans<|k.trans<|Kp.of s9) (t.same s9) ⟨p,zs,?_,Ai,A'.mono s9⟩ c (λx t=>by rw[v];exact R.fin x t) n
  cases e:H p with
  |none=>rfl
  |some o =>
   have:=l p o (Ak e BI) (Ak e fd)<|si _ _ e
   rw[f] at this
   cases this
 rintro i v σ Hx FH ⟨l,ts,S,L,X,d,lt,v5,v6,A,s,hv,R,l1,l2,rfl⟩;have hi:i<D.length+1:=by have:=(ag.mp FH).1;lia
 obtain⟨⟨u,m⟩,M,T0,rfl,hT⟩:=Hs P5 FH;have hT:H5 T0=_a (.tup [V.int u,V.int (m:_d)]):=hT;have kT:∀{Hy:Hp},Kq H5 Hy I G->Fd K Hy T0 [V.int u,V.int (m:_d)]:=λk=>.inl<|.inl<|k.keep uS Fm hT (λ_ z=>by cases z) (λ_ z=>by cases z)
 obtain⟨GT,Nw⟩:=Z _<|am M;have an:d<2 ^ 1200/\(Wd.mem d).length<=b:=by
  rcases R.p with⟨_,rfl⟩ | ⟨j,_,e⟩
  .exact⟨C'<|by decide,cK _⟩
  .exact Z _<|am e
 have a2:b * i+b<30000:=by
  have:=DL b (show i+1<=D.length+1 by lia);rw[nX] at this;lia
 refine⟨_,_,kT l,Aj (j:=1) U,Gi d m,congrArg (λv:_i=>[V.int v])<|WN d m,bg (ZW _ _) an.1,λlM H6 S2 s6 l6=>?_⟩;have m1:(Wd.mem<|Gi d m).length<=b:=bo (Qu _ _) an.2;have m2:(Wd.mem<|Gi m d).length<=b:=bo (Qu _ _) Nw;have ap:lM≠I:=_T<|Ak A.l S2
 have a4:lM≠G:=_T<|Ak s S2
 have UD:=A.len;refine⟨⟨_,oz l6⟩,Dk (K:=K) (a:=lM) (xs:=nV<|Wd.mem<|Gi d m) (iz H5 I G lM d m L ts X u len a T0) ⟨l.same s6,l6,s6 _ _ s,S,_,by rw[kM,nB,fN];exact A.mono s6,U⟩ (λj σ Hy _ h=>oz h.snd) ?_ ?_⟩
 .rintro j v σ Hy J ⟨l,VY,s,S,v6,A,rfl⟩;have hj:j<(Wd.mem<|Gi d m).length:=by have:=(ag.mp J).1;rwa [ah] at this
  unfold nV at J;rw[ar,af hj] at J;obtain rfl:=_m J;have O:=Wd.mem_iff.mp<|de hj
  generalize W:(Wd.mem (Gi d m))[j]=x at O;rw[Ec,eI] at O;have dg:Gf Hy G (.int ((x:_d):_i))<|some<|.int<|X x:=by
   have:=Gf.k (k:=_R ((x:_d):_i)) s;rw[hv x O.1] at this;exact this
  have ly:=A.len;rw[av,ah,cE] at ly;refine⟨.inl ⟨U,_,oz A.l⟩,_,dg,_,_,kT l,Aj (j:=0) U,by show 3<=sizeLine;decide,λT hT=>?_⟩;obtain⟨H7,B,s7,u7⟩:=S6 hT [V.int ((x:_d):_i),V.int<|X x,V.int u];rw[B];clear B;have A7:=A.mono s7;refine⟨_,A7.l,Aw<|by lia,?_⟩;have A8:=A7.snoc (x:=(((x:_d):_i),X x,u)) u7;refine⟨(l.same s7).vC,by rw[An ap];exact s7 _ _ VY,by rw[An (_T ab)];exact s7 _ _ s,S++[V.ref T],_,?_,U⟩;rw[ck,af hj,W,AM,ee,<-ed];exact A8
 clear A s l UD;rintro σ Hy ⟨l,VY,s,S,v6,A,rfl⟩;rw[show ((nV<|Wd.mem<|Gi d m).length)=(Wd.mem<|Gi d m).length from Ι ..,Ů] at A;refine⟨_,_,kT l,Aj (j:=1) U,Gi m d,congrArg (λv:_i=>[V.int v])<|WN m d,bg (ZW _ _) GT,λlN H8 SE s8 l8=>?_⟩;have a1:lN≠I:=_T<|Ak A.l SE
 have aZ:lN≠G:=_T<|Ak s SE
 refine⟨⟨_,oz l8⟩,Dk (K:=K) (a:=lN) (xs:=nV<|Wd.mem<|Gi m d) (iG H5 I G lN m d ts X u S L len a T0) ⟨l.same s8,l8,A.mono s8,L,_,s8 _ _ s,(λx=>by rw[kM,_l gI]),ai _,U⟩ (λj σ Hz _ h=>oz h.snd) ?_ ?_⟩
 .clear l s;rintro j v σ Hz J ⟨l,VW,A,y',v6,s,F,lk,rfl⟩;have hj:j<(Wd.mem<|Gi m d).length:=by have:=(ag.mp J).1;rwa [ah] at this
  unfold nV at J;rw[ar,af hj] at J;obtain rfl:=_m J;generalize W:(Wd.mem (Gi m d))[j]=x;refine⟨_,_,kT l,Aj (j:=0) U,_,Ux.k (k:=_R ((x:_d):_i)) s<|Aw<|by lia,?_⟩;refine⟨l.rO,by rw[An aZ];exact VW,?_,_,_,Ai,λy=>?_,bo ZJ<|by lia,U⟩
  .exact⟨by rw[An ab];exact A.l,FT A.p λ_ _ _ ⟨T,e,g⟩=>⟨T,e,by rw[An (λz=>by rw[z,s] at g;cases g)];exact g⟩⟩
  .rw[SJ,ck,af hj,W,AM,F y];by_cases e:y=x
   .subst e;rw[_o U,_o<|db _<|al.mpr U]
   .rw[_l (λz=>e (by have:=Š z;lia))];by_cases g:y∈(Wd.mem<|Gi m d).take j
    .rw[_o g,_o<|cm _ g]
    .rw[_l g,_l (λz=>by
      rcases aE.mp z with z | z
      .exact g z
      .exact e<|al.mp z)]
 clear l s A;rintro σ Hz ⟨l,VW,A,y',v6,s,F,lk,rfl⟩;rw[show ((nV<|Wd.mem<|Gi m d).length)=(Wd.mem<|Gi m d).length from Ι ..] at F lk;rw[eW] at F;refine⟨_,_,kT l,Aj (j:=1) U,?_⟩;refine⟨l,cls ts X d m u,S,y',_,m,u,_,_,A,s,λx O=>?_,R.step KP M,?_,?_,U⟩
 .rw[F x];by_cases g:(Gi m d).testBit x=_h
  .rw[_o (Wd.mem_iff.mpr g),_o g]
  .rw[_l (λz=>g<|Wd.mem_iff.mp z),_l g];rw[Ec,O,fw,fz,hZ] at g;exact hv x g
 .rw[av,ah,nX];lia
 .rw[nX];lia
theorem lg{ms a:_b _i}(h:∀x,x∈ms ↔ x∈a)(f c:_d):Wd.mk (Yc ms f c)=Wd.mk (Yc a f c):=fE λk=>by
 rw[Wd.Ft,Wd.Ft];exact _ar.mpr<|by rw[Js,Js,h]
theorem QC{sz:_b _d}{rk:_b (_A×_d×_i)}{l ts:_b T3}{a:_i}{p o:_d}(e:∀x,DN l x a ↔ DN ts x a)(h:Ex c sz rk d3 ls l a p)(g:Ex c sz rk d3 ls ts a o):p=o:=by
 obtain⟨w,E,m,v,s,t,rfl⟩:=h;obtain⟨C,f,B,u,r,y,rfl⟩:=g;have b:∀x,x∈w ↔ x∈C:=λx=>by rw[v,u,e]
 have A:=lg b sz.sum d3.length;have z:=lg b 0 sz.sum;have D:m=B:=fE λj=>by
  rw[dA,t,y,A,z]
 subst D;have q:∀k,k∈E ↔ k∈f:=λk=>by
  rw[s,r];simp only[Js,b]
 refine fE λj=>?_;rw[dA];unfold ni;rw[M9,M9];simp only[xj];constructor
 .rintro⟨n,⟨k,i,e⟩,d⟩;exact⟨n,⟨k,(q k).mp i,e⟩,d⟩
 .rintro⟨n,⟨k,i,e⟩,d⟩;exact⟨n,⟨k,(q k).mpr i,e⟩,d⟩
theorem Ex.move{sz:_b _d}{rk:_b (_A×_d×_i)}{a:_b T3}{t':_i}{p:_d}(h:Ex c sz rk d3 ls a t p)(e:∀x,DN a x t' ↔ DN a x t):Ex c sz rk d3 ls a t' p:=by
 obtain⟨d,j,m,b,f,g,i⟩:=h;exact⟨d,j,m,λx=>(b x).trans (e x).symm,f,g,i⟩
theorem Ex.none{sz:_b _d}{rk:_b (_A×_d×_i)}{a:_b T3}{p:_d}(h:Ex c sz rk d3 ls a t p)(e:∀x,¬ DN a x t):p=0:=by
 obtain⟨l,i,m,f,d,j,rfl⟩:=h;have:i=[]:=List.eq_nil_iff_forall_not_mem.mpr λk g=>by
  obtain⟨z,_,_,b⟩:=(d k).mp g;exact e _<|(f _).mp (Js.mp b).2
 rw[this];rfl
structure Br(c:_d->_A)(sz:_b _d)(rk:_b<|_A×_d×_i)(d3:_b Kb)(ls:_b<|_b Ln)(hs:_b T3)(len:_i)(rs:_b<|_i×_d):Prop where
 m:∀t,t∈rs.map (·.1) ↔ Tk hs t
 p:(rs.map (·.1)).Pairwise (· < ·)
 s:∀r∈rs,Ex c sz rk d3 ls hs r.1 r.2
 w:∀h∈hs,h.2.1<h.2.2/\h.2.2<=len
section
variable{sz:_b _d}{rk:_b (_A×_d×_i)}{hs:_b T3}{len:_i}{rs:_b (_i×_d)}
theorem Br.lt(h:Br c sz rk d3 ls hs len rs){a b:_i×_d}(f:rs[i]? = _a a)(e:rs[j]? = _a b)(d:i<j):a.1<b.1:=by
 have:=eS.mp h.p i j (by rw[ah];exact (ag.mp f).1) (by rw[ah];exact (ag.mp e).1) d;rw[jS,jS] at this;obtain⟨_,k⟩:=ag.mp f;obtain⟨_,g⟩:=ag.mp e;rw[k,g] at this;exact this
theorem Br.ok(h:Br c sz rk d3 ls hs len rs):yN<|rs++[(len,0)]:=λi a b f d=>by
 by_cases r:i+1<rs.length
 .rw[ce (by lia)] at f d;have:=h.lt f d<|by lia
  exact⟨by lia,λ_=>this⟩
 .have o:=(ag.mp d).1;rw[av,bt] at o;have j:i+1=rs.length:=by lia
  rw[ce (by lia)] at f;rw[j,ci<|ai _,iN] at d;obtain rfl:=_m d;have k:=am f;obtain⟨z,n,e⟩:=(h.m a.1).mp<|cS k;obtain⟨s,q⟩:=h.w z n;refine⟨by show a.1<=len;lia,λm=>?_⟩;show a.1<len;rcases _as a.1 len with g | g
  .exact g
  .exact _D ((h.s a k).none λx ⟨y,l,_,t,p⟩=>by have:=(h.w y l).2;lia) m
theorem Br.rc(h:Br c sz rk d3 ls hs len rs)(x:_d)(t:_i):RC (rs++[(len,0)]) (rs.length+1) x t ↔ ∃p,Ex c sz rk d3 ls hs t p/\p.testBit x=true:=by
 have stay:∀{k:_d}{a b:_i × _d},rs[k]? = _a a->(rs++[(len,0)])[k+1]? = _a b->a.1<=t->t<b.1->∀y,DN hs y t ↔ DN hs y a.1:=λ{k a b} f d m i y=>by
  refine dN m (λz u O=>?_) y;obtain⟨r,A,rfl⟩:=ay.mp<|(h.m z).mpr u;obtain⟨j,l⟩:=ge A;by_cases q:j<=k
  .by_cases o:j=k
   .subst o;rw[f] at l;rw[_m l];exact nc _
   .have:=h.lt l f<|by lia
    lia
  .exfalso;have H:=(ag.mp l).1;rw[ce (by lia)] at d;by_cases o:j=k+1
   .subst o;rw[d] at l;rw[_m l] at i;lia
   .have:=h.lt d l<|by lia
    lia
 constructor
 .rintro⟨k,a,b,v,f,d,m,i,I⟩;rw[ce (by lia)] at f;exact⟨a.2,(h.s a<|am f).move<|stay f d m i,I⟩
 .rintro⟨p,E,w⟩;have G:∃y,DN hs y t:=Í λN=>by
   rw[E.none λy L=>N ⟨y,L⟩,gL] at w
   cases w
  obtain⟨y,z,u,_,P,R⟩:=G;have B:∀n,n<=rs.length->(∃k a,k<n/\rs[k]? = _a a/\a.1<=t/\∀j b,k<j->j<n->rs[j]? = _a b->t<b.1) \/ ∀j b,j<n->rs[j]? = _a b->t<b.1:=λn=>by
   induction n with
   |zero=>exact λ_=>.inr λj b q=>_D q<|iF _
   |succ n J =>
    intro Q;have C:=Ã (show n<rs.length by lia);rcases _as t rs[n].1 with g | g
    .rcases J (by lia) with⟨k,a,v,f,m,i⟩ | i
     .refine .inl ⟨k,a,by lia,f,m,λj b q F d=>?_⟩;by_cases e:j=n
      .subst e;rw[C] at d;rw[<-_m d];exact g
      .exact i j b q (by lia) d
     .refine .inr λj b F d=>?_;by_cases e:j=n
      .subst e;rw[C] at d;rw[<-_m d];exact g
      .exact i j b (by lia) d
    .exact .inl ⟨n,_,by lia,C,g,λj b q F=>by lia⟩
  rcases B rs.length (ai _) with⟨k,a,v,f,m,i⟩ | i
  .have K:∃b,(rs++[(len,0)])[k+1]? = _a b/\t<b.1:=by
    by_cases s:k+1<rs.length
    .exact⟨_,by rw[ce s];exact af s,i (k+1) _ (by lia) s<|af s⟩
    .refine⟨(len,0),?_,by have:=(h.w z u).2;show t<len;lia⟩;rw[show k+1=rs.length by lia,Ĩ<|Τ _,_al];rfl
   obtain⟨b,d,D⟩:=K;have M:=(h.s a<|am f).move<|stay f d m D
   have:p=a.2:=QC (λ_=>Iff.rfl) E M;exact⟨k,a,b,by lia,by rw[ce v];exact f,d,m,D,this ▸ w⟩
  .exfalso;obtain⟨r,A,e⟩:=ay.mp<|(h.m z.2.1).mpr ⟨z,u,.inl U⟩;obtain⟨j,l⟩:=ge A;have:=i j r (ag.mp l).1 l;lia
end
theorem oV{ms:_b _i}{a:_b T3}(p:ms.Pairwise (· < ·))(h:∀t,t∈ms ↔ Tk a t):ms.length<=2 * a.length:=by
 have:=sub_len (L:=a.map (·.2.1)++a.map (·.2.2)) (p.imp λh=>_aq h) λt c=>by
  obtain⟨z,b,e | e⟩:=(h t).mp c
  .exact cm _<|ay.mpr ⟨z,b,e⟩
  .exact db _<|ay.mpr ⟨z,b,e⟩
 rw[av,ah,ah] at this;lia
inductive cI(c:_d->_A)(sz:_b _d)(rk:_b<|_A×_d×_i)(d3:_b Kb)(ls:_b<|_b Ln)(hs:_b T3)(H:Hp)(x y:V):Prop
|mk(T:_g)(t:_i)(p:_d)(_:x=.int t)(_:y=.ref T)(_:H T=_a (.tup [.int t,.int (p:_d)]))(_:Ex c sz rk d3 ls hs t p)
theorem UT{sz:_b _d}{rk:_b (_A×_d×_i)}{a:_b T3}:∀{ms:_b _i}{zs:_b V},Paired (cI c sz rk d3 ls a H) (ms.map V.int) zs->∃rs:_b<|_i×_d,rs.map (·.1)=ms/\Paired (λ(r:_i×_d) v=>TupAt H [.int r.1,.int (r.2:_d)] v) rs zs/\∀r∈rs,Ex c sz rk d3 ls a r.1 r.2
 |[],_,.nil=>⟨[],U,.nil,λ_ z=>nomatch z⟩
 |m::ms,_::zs,.cons k f=>by
  obtain⟨T,t,p,e,rfl,l,i⟩:=k
  cases e;obtain⟨rs,j,h,d⟩:=UT (ms:=ms) f;refine⟨(m,p)::rs,by rw[df,j],.cons ⟨T,U,l⟩ h,λr b=>?_⟩;rcases bq.mp b with rfl | g
  .exact i
  .exact d r g
inductive Wf(C c0:_g)(B:M7)(vs:_b V)(H:Hp)(Q:VK)(E:XK):Prop
|mk(x r:_g)(c:_d->_A)(sz:_b _d)(rk:_b (_A×_d×_i))(d3:_b Kb)(ls:_b (_b Ln:_))(len:_i)(hs:_b T3)(b:_d)(_:vs=[.ref x,.ref r])(_:Ds C H x (Bj c sz) rk (Cy c d3) ls)(_:Vo sz.length d3)(_:jx rk ls)(_:GD H r len hs)(_:Canon hs)(_:hs.length<200)(_:∀h∈hs,h.2.1<h.2.2/\h.2.2<=len)(_:∀t p,Ex c sz rk d3 ls hs t p->p<2 ^ 1200/\(Wd.mem p).length<=b)(_:b * (2 * hs.length+1)<30000)(_:Tb B H)(_:∀(r':_g)(gs:_b T3)(H':Hp),Kp B H H'->Tb B H'->dU H H' r' len gs->Canon gs->(∀x t,DN gs x t ↔ 0<=x/\∃p,Ex c sz rk d3 ls hs t p/\p.testBit x.toNat=_h)->gs.length<=400->Q (.ref r') H')(_:∀(gs:_b T3)(H':Hp),Kp B H H'->Tb B H'->Canon gs->(∀x t,DN gs x t ↔ 0<=x/\∃p,Ex c sz rk d3 ls hs t p/\p.testBit x.toNat=_h)->400<gs.length->E (.ref c0) _n H')
theorem scBf:Aq kq kq<|Ae sBf:=Bh
theorem bZ(N:Vb K mg C c1 aD)(T:Txt K w.params mg C cR aN aK aB aP aM)(K1:Hl mg base c1 P1):BX P w K mg base (Rb P w) 9 aD.Bf kq<|Wf C cR<|tb P1:=by
 have G:BX P w K mg base (Rb P w) 4 aD.Rr pV<|aO cR<|tb P1:=pP N T K1
 refine N.FBf.1.oY scBf λH vs Q E l h=>?_;obtain⟨x,r,c,sz,rk,L,W,len,i,b,rfl,O,qk,Gc,R0,cn,h2,hw,GN,hb,sm,q,qE⟩:=h;have hu:=Fi l;refine⟨_,@Ag _ _ _<|@Ax _ _ _ _<|BL N.FRr G l<|@BJ _ _ _ _ _ U (@Av _ _ _ _ _ _ _ (Am (K:=K) U) (pv 1) Ac<|λ_ _=>rfl)<|@BJ _ _ _ _ _ U (Bm U (BR (osc:=Ae sBf) (N:=kq) U U<|by decide) (BZ<|BL N.FCt (xK N T) l<|@BJ _ _ _ _ _ U (pv 1) Ab) (λ_ _ _ _=>CJ)<|λ_ _ _ _=>(@Bx _ _ _ _ _<|@BJ _ _ _ _ _ U (pv 0)<|@BJ _ _ _ _ _ U (BL N.FSa (lJ N T) l<|@BJ _ _ _ _ _ U (pv 1)<|@BJ _ _ _ _ _ U (pv 2)<|@BJ _ _ _ _ _ U (pv 0) Ab) Ab)) Ab,?_⟩;obtain⟨p0,Ix,S,A0⟩:=id R0;refine⟨_,_,oz S,Aj (j:=0) U,?_⟩;refine⟨r,len,i,U,R0,h2,λF ms H1 a l1 mm ml mp=>?_⟩;have R1:GD H1 r len i:=⟨p0,Ix,a _ _ S,A0.mono a⟩;have O1:=O.mono a;have o:Cp K H1 F<|ms.map V.int:=.inl<|.inl l1
 refine⟨⟨_,o⟩,NK (K:=K) (xs:=ms.map V.int) (cI c sz rk L W i) (λHa Hb x y s ⟨T,t,p,g,M,u,e4⟩=>⟨T,t,p,g,M,s _ _ u,e4⟩) (λHa x y D us ws hD ⟨T,t,p,g,M,u,e4⟩=>⟨T,t,p,g,M,by rw[An (λz=>by rw[z,hD] at u;cases u)];exact u,e4⟩) o (Aw<|by rw[ah];lia) (λv hv d i R k=>k d<|Al.refl d) (λv hv d J R k=>?_)<|λD H2 zs hD s2 l2 P2=>?_⟩
 .obtain⟨i9,_,rfl⟩:=ay.mp hv;refine⟨x,r,c,sz,rk,L,W,len,i9,i,U,O1.mono J,qk,Gc,⟨p0,Ix,J _ _<|a _ _ S,(A0.mono a).mono J⟩,cn,by lia,λp H3 s3 S3=>⟨by show 2<=sizeLine;decide,λT hT=>?_⟩⟩;exact k _ _ (s3.trans<|Ay hT) ⟨T,i9,p,U,U,Ai,S3⟩
 obtain⟨I,g,P3,B⟩:=UT P2;have X:Br c sz rk L W i len I:=⟨λt=>by rw[g];exact mm t,by rw[g];exact mp,B,hw⟩;have lr:I.length<=2 * i.length:=by
  have:=oV mp mm;rw[<-g,ah] at this;exact this
 have Z:b * (I.length+1)<30000:=bg (DL b<|by lia) hb;have m:Kp (tb P1) H H2:=Kp.of<|a.trans s2
 refine⟨D,I,zs,len,b,U,l2,P3,X.ok,λr l=>GN _ _<|B r l,Z,by lia,sm.same<|a.trans s2,λr' gs d k t RF cg Y n=>?_,λgs d k t cg Y n=>qE gs d (m.trans k) t cg (λx t=>by rw[Y,X.rc]) n⟩;obtain⟨p,ws,f,e,A⟩:=RF;exact q r' gs d (m.trans k) t ⟨p,ws,(a.trans s2).free f,e,A⟩ cg (λx t=>by rw[Y,X.rc]) n
inductive cZ(K:_s)(vs:_b V)(H:Hp)(Q:VK)(f6:XK):Prop
|mk(a:_g)(k:_d)(ns:_b _i)(_:vs=[.ref a,.int (k:_d)])(_:Cp K H a (ns.map V.int))(_:∀i:_i,i=ns.getD k 0->Q (.int i) H)
theorem scCe:Aq lD lD<|Ae sCe:=Bh
include N T in
theorem ZD:BX P w K mg base BW 1 aD.Ce lD<|cZ K:=by
 refine N.FCe.1.Dl scCe λH g Q E i h=>?_;obtain⟨a,k,d,rfl,e,q⟩:=h;refine⟨_,(Af (Cg (Bb G_ (pv 1) (A_ BV U T.len dv<|Aa (pv 0) Ab)<|Bc _) (Ag<|Ax<|Av Et (pv 0) (pv 1)<|λ_ _=>rfl) Be)
  (Ag<|Ax Ac)),?_⟩
 refine⟨a,_,U,.inl e,?_⟩;refine Ed (λb=>?_) (λb=>q 0 (by
  have f:d.length<=k:=by
   have b:=Ô ((fq _).mp b);rw[ah] at b;lia
  rw[ax,fe f];rfl))
 have c:k<d.length:=by have:=_G b;rw[ah] at this;lia
 exact⟨_,.int d[k],e,Aj<|by rw[ar,af c];rfl,q _<|by rw[ax,af c];rfl⟩
inductive LQ(vs:_b V)(H:Hp)(Q:VK)(f6:XK):Prop
|mk(c k:_i)(_:vs=[.int c,.int k])(_:0<=k)(_:k<=1000)(_:Q (.int (Bl c k)) H)
theorem vA:Aq ["_law_cell","_law_k","_law_number"] hH (Ae sMx):=Bh
include N T in
theorem KN:BX P w K mg base BW 1 aD.Mx hH LQ:=by
 refine N.FMx.1.Dl vA λH f Q E g h=>?_;obtain⟨c,k,rfl,b,d,q⟩:=h;refine⟨_,(Af (BP (i:=2) vA.nd U (Or.inl U)<|Ar Bp (Ar Ff (Ar Bt (Ar Bt (Ar Bt (Ar Bp (pv 0) Ac)<|Ar Ff (Ar Ff Ac<|pv 1)<|pv 1)<|pv 1) Ac) Ac) Ac)
  (Ag<|Ax<|Ar Bp (Ar Ff (pv 2)<|pv 2) Ac)),?_⟩
 refine⟨(by show (0:_i)<1000003;decide),.inl ⟨by decide,by decide⟩,.inl ⟨by lia,by lia⟩,.inr ⟨by decide,by decide⟩,(by show (0:_i)<2147483629;decide),?_⟩;have e:0<=(c % 1000003+7919 * k * k+k+1) * 48271 % 2147483629:=dc _<|by decide
 have a:(c % 1000003+7919 * k * k+k+1) * 48271 % 2147483629<2147483629:=cq _<|by decide
 exact⟨.inl ⟨by lia,by lia⟩,(by show (0:_i)<2147483587;decide),q⟩
inductive oG(vs:_b V)(H:Hp)(Q:VK)(f6:XK):Prop
|mk(c:_i)(k:_d)(_:vs=[.int c,.int (k:_d)])(_:k<676)(_:∀H',Al H H'->Q (.str (Dm c k)) H')
theorem W_:Aq gb hH<|Ae sNa:=Bh
include N T in
theorem wI:BX P w K mg base BW 2 aD.Na hH oG:=by
 refine N.FNa.1.Dl W_ λH Y Q E A h=>?_;obtain⟨c,k,rfl,Z,q⟩:=h;refine⟨_,(Af (BP (i:=2) W_.nd U (Or.inr U) CQ)
  (Af (BP (i:=3) W_.nd U (Or.inl U)<|Ar Bt Ac<|Ar Bp (pv 0) Ac)
  (Af (BP (i:=4) W_.nd U (Or.inl U)<|E_ PySem.F.plainAttrs_str PySem.F.slot_str_join PySem.F.type_str_join fc CQ<|Aa (Bm U (BR (osc:=Ae sNa) (N:=gb) U U<|by decide) (Dj U T.range<|Aa (pv 3) Ab) (λ_ _ _ _=>CJ)<|λ_ _ _ _=>(Av VF (pv 3) (Ar Bp (BL N.FMx (KN N T) A<|Aa (Ar Cu (pv 1) Ac)<|Aa (pv 0) Ab) Ac)<|λ_ _=>rfl)) Ab)
  (Af (BP (i:=5) W_.nd U (Or.inl U)<|Ar Bp (Ar Cu (pv 0) Ac)<|Ar El (pv 3) Ac)
  (Af (BP (i:=6) W_.nd U (Or.inl U)<|Ar Jh (Av VF (pv 2) (Ar Cu (pv 1) Ac)<|λ_ _=>rfl)<|Av VF (pv 2) (Ar Bp (pv 1) Ac)<|λ_ _=>rfl)
  (Ag<|Ax<|Ar Jh (Ar Jh (G7 cD (pv 4) JQ<|Ej<|pv 5)<|pv 6)<|G7 cD (pv 4) (Ej<|Ar Bt (pv 5) Ac) JQ)))))),?_⟩
 have B:=Zj c;have W:2+c % 7=((Vl c:_d):_i):=by unfold Vl;lia
 refine⟨(by show (0:_i)<7;decide),U,?_⟩;refine⟨2+c % 7,U,by lia,by lia,?_⟩;refine Fz (lo:=0) (n:=Vl c) (λ_=>_h) (λi=>.str ⟨#[97+(Bl (c / 7) i % 26).toNat]⟩) (bg B.2<|by decide) (λi M e L R k=>k e<|Al.refl e) (λi M _ e L R k=>?_)<|λD S X J j=>?_
 .have y:0<=Bl (c / 7) (0+(i:_d)) % 26:=dc _<|by decide
  have t:Bl (c / 7) (0+(i:_d)) % 26<26:=cq _<|by decide
  exact⟨⟨by decide,by decide⟩,_,_,U,by lia,by lia,(by show (0:_i)<26;decide),letters,_,_,U,U,DW<|by decide,Uo y t,k e<|Al.refl e⟩
 have v:((((_B<|Vl c).map λ(i:_d)=>(0:_i)+(i:_i)).filter λ_=>_h).map λi=>V.str ⟨#[97+(Bl (c / 7) i % 26).toNat]⟩)=((G8 c).map λx=>(⟨#[x]⟩:_A)).map V.str:=by
  rw[bX.mpr (λ_ _=>rfl)];unfold G8;rw[bi,bi,bi];refine iq λi _=>?_;show V.str ⟨#[97+(Bl (c / 7) (0+(i:_d)) % 26).toNat]⟩=V.str ⟨#[97+(Bl (c / 7) (i:_d) % 26).toNat]⟩;rw[kg]
 rw[v] at j;have u:JoinOk ("" : _A) ((G8 c).map λx=>(⟨#[x]⟩:_A))=true:=by
  refine _aJ ?_<|by decide
  rw[bi,ah,G6];have G:((G8 c).map<|(λx:_A=>x.length) ∘ λx=>(⟨#[x]⟩:_A)).sum=(G8 c).length:=by
   generalize G8 c=l
   induction l with
   |nil=>rfl
   |cons a l F =>
    rw[df,ii,F,zdl];show 1+l.length=l.length+1;lia
  rw[G,G6];lia
 refine⟨("" : _A),D,_,U,U,oz j,u,?_⟩;have p:=VL<|G8 c
 generalize Txt.join ("" : _A) ((G8 c).map λx=>(⟨#[x]⟩:_A))=z at p |-;have lz:z.length=Vl c:=by
  have:z.length=z.cps.toList.length:=by simp[ě]
  rw[this,p,G6]
 have la:=a_ c;have m:c / 49 % (2+c % 7 - 1)=((UV c:_d):_i):=by
  have h1:0<=c / 49 % (2+c % 7 - 1):=dc _<|by lia
  unfold UV;lia
 refine⟨⟨by decide,by decide⟩,(by show (0:_i)<2+c % 7 - 1;lia),?_⟩;refine⟨⟨by decide,by decide⟩,letters,_,_,U,U,DW<|by decide,Uo (by lia)<|by lia,(by show (0:_i)<26;decide),letters,_,_,U,U,DW<|by decide,Uo (by lia)<|by lia,_,_,U,U,DW (by show 1+1<=40000;decide),?_⟩;have o:=Vh (z:=z) (n:=UV c)<|by lia
 have r:=Vj (z:=z) (n:=UV c+2)<|by lia
 rw[p] at o r;have s:(Txt.slice z _n<|some ((UV c:_d):_i)).length=UV c:=by
  have:(Txt.slice z _n<|some ((UV c:_d):_i)).length=(Txt.slice z _n<|some ((UV c:_d):_i)).cps.toList.length:=by simp[ě]
  rw[this,o,cE,G6];lia
 have l2:(Txt.slice z (_a ((UV c+2:_d):_i)) _n).length<=Vl c:=by
  have:(Txt.slice z (_a ((UV c+2:_d):_i)) _n).length=(Txt.slice z (_a ((UV c+2:_d):_i)) _n).cps.toList.length:=by simp[ě]
  rw[this,r,gz,G6];lia
 have f:c / 49 % (2+c % 7 - 1)+2=((UV c+2:_d):_i):=by rw[m];rfl
 have g:∀a b:_A,(a++b).length=a.length+b.length:=λa b=>by
  show (a.cps++b.cps).size=a.cps.size+b.cps.size;simp
 have lt:((⟨#[97+((k:_i) / 26).toNat]⟩:_A)++(⟨#[97+((k:_i) % 26).toNat]⟩:_A)).length=2:=by rw[g];rfl
 refine⟨z,U,DW<|by lia,_,_,U,U,DW (by show (Txt.slice z _n<|some<|c / 49 % (2+c % 7 - 1)).length+((⟨#[97+((k:_i) / 26).toNat]⟩:_A)++(⟨#[97+((k:_i) % 26).toNat]⟩:_A)).length<=40000;rw[m,s,lt];lia),z,U,DW<|by lia,_,_,U,U,DW (by
  show (Txt.slice z _n (_a<|c / 49 % (2+c % 7 - 1))++((⟨#[97+((k:_i) / 26).toNat]⟩:_A)++(⟨#[97+((k:_i) % 26).toNat]⟩:_A))).length+(Txt.slice z (_a<|c / 49 % (2+c % 7 - 1)+2) _n).length<=40000;rw[g,lt,f,m,s];lia),?_⟩
 have fin:=q S J;have C:(Txt.slice z _n (_a<|c / 49 % (2+c % 7 - 1))++((⟨#[97+((k:_i) / 26).toNat]⟩:_A)++(⟨#[97+((k:_i) % 26).toNat]⟩:_A)))++Txt.slice z (_a<|c / 49 % (2+c % 7 - 1)+2) _n=Dm c k:=by
  rw[f,m];refine eX ?_;have d:∀a b:_A,(a++b).cps.toList=a.cps.toList++b.cps.toList:=λa b=>by
   show (a.cps++b.cps).toList=_;simp
  rw[d,d,d,o,r];have O:((k:_i) / 26).toNat=k / 26:=by lia
  have I:((k:_i) % 26).toNat=k % 26:=by lia
  rw[O,I];simp[Dm,Ka]
 rw[<-C] at fin;exact fin
inductive rm(vs:_b V)(H:Hp)(Q:VK)(f6:XK):Prop
|mk(c:_i)(m mx:_d)(_:vs=[.int c,.int (m:_d),.int (mx:_d)])(_:1<=m)(_:m<=5)(_:1<=mx)(_:mx<=61)(_:∀D (sz:_b _d) H',H D=_n->Al H H'->H' D=_a (.lst (sz.map λn:_d=>V.int (n:_d)))->sz.length=m->(∀s∈sz,1<=s/\s<=mx)->Q (.ref D) H')
theorem scSz:Aq fZ fZ<|Ae zJ:=Bh
include N T in
theorem tM:BX P w K mg base BW 2 aD.Sz fZ rm:=by
 refine N.FSz.1.Dl scSz λH z Q E j h=>?_;obtain⟨c,m,a,rfl,y,f,p,v,q⟩:=h;refine⟨_,Ag<|Ax<|Bm U (BR (osc:=Ae zJ) (N:=fZ) U U<|by decide) (Dj U T.range<|Aa (pv 1) Ab) (λ_ _ _ _=>CJ)<|λ_ _ _ _=>(Ar Bt Ac<|Ar Bp (BL N.FMx (KN N T) j<|Aa (pv 1)<|Aa (Ar Bt Ac<|pv 0) Ab)<|pv 3),?_⟩;refine⟨_,U,by lia,by lia,?_⟩;rw[aI];refine Fz (lo:=0) (n:=m) (λ_=>_h) (λi=>.int<|1+Bl c (50+i) % (a:_d)) (bg f<|by decide) (λi o b e R k=>k b<|Al.refl b) (λi o _ b e R k=>?_)<|λD u r g d=>?_
 .exact⟨_,_,U,by lia,by lia,(by show (0:_i)<(a:_d);lia),k b<|Al.refl b⟩
 .refine q D ((_B m).map λ(i:_d)=>(1+Bl c (50+(0+(i:_d))) % (a:_d)).toNat) u r g ?_ (by simp)<|λs e=>?_
  .rw[d,bX.mpr<|λ_ _=>rfl,bi,bi];refine congrArg (λl=>_a<|HO.lst l)<|iq λi _=>?_
   have t:0<=Bl c (50+(0+(i:_i))) % (a:_d):=dc _<|by lia
   show V.int (1+Bl c (50+(0+(i:_i))) % (a:_d))=V.int (((1+Bl c (50+(0+(i:_i))) % (a:_d)).toNat:_d):_i);rw[eK (by lia)]
  .obtain⟨i,_,rfl⟩:=ay.mp e;have t:0<=Bl c (50+(0+(i:_i))) % (a:_d):=dc _<|by lia
   have x:Bl c (50+(0+(i:_i))) % (a:_d)<(a:_d):=cq _<|by lia
   lia
inductive pQ(vs:_b V)(H:Hp)(Q:VK)(f6:XK):Prop
|mk(c:_i)(s:_d)(p:_g)(pz:_b _d)(_:vs=[.int c,.int (s:_d),.ref p])(_:H p=_a (.lst (pz.map λn:_d=>V.int (n:_d))))(_:1<=pz.length)(_:pz.length<=4)(_:∀z∈pz,1<=z/\z<=97)(_:1<=s)(_:s<=61)(_:∀A (l:_b Ln) ts H',H A=_n->Al H H'->H' A=_a (.lst ts)->Paired (λx y=>TupAt H' (gF x) y) l ts->l.length<=4->(∀x∈l,sS s pz x)->Q (.ref A) H')
theorem Ss:Aq ["_law_cell","_law_size","_law_pipes","_law_lines_here","_law_k","_law_rank","_law_low","_law_high","_law_number","_law_shift"] km (Ae sLn):=Bh
inductive vG(H:Hp)(D:_g)(s0:_d)(pz:_b _d)(c:_i)(p:_g)(i:_d)(σ:St)(H4:Hp):Prop
|mk(_:Al H H4)(l:_b Ln)(ts:_b V)(_:H4 D=_a (.lst ts))(_:Paired (λx y=>TupAt H4 (gF x) y) l ts)(_:l.length=i)(_:(∀x∈l,sS s0 pz x))(v4 v5 v6 v7 v8 v9:_)(_:σ=[_a (.int c),_a<|.int (s0:_d),_a<|.ref p,_a<|.ref D,v4,v5,v6,v7,v8,v9])
include N T in
theorem vf:BX P w K mg base BW 2 aD.Ln km pQ:=by
 refine N.FLn.1.Dl Ss λH vs Q E k h=>?_;obtain⟨c,d,p,a,rfl,hp,h0,h4,hz,Lo,Fa,q⟩:=h;refine⟨_,(Af (BP (i:=3) Ss.nd U (Or.inl U)<|CV Ab)
  (Af (DQ _U U (Dj U T.range<|Aa (Ar Bt (Ar Bp (BL N.FMx (KN N T) k<|Aa (pv 0)<|Aa Ac Ab) Ac)<|Dw YC U T.int ų<|Aa (Eb Ez (Ar Bp (BL N.FMx (KN N T) k<|Aa (pv 0)<|Aa Ac Ab) Ac) Ac<|Bc _) Ab) Ab) (Bg (i:=4) Ss.nd U<|Or.inl U) (Af (BP (i:=5) Ss.nd U (Or.inl U)<|Ar Bp (BL N.FMx (KN N T) k<|Aa (pv 0)<|Aa (Ar Bt Ac<|pv 4) Ab)<|A_ BV U T.len dv<|Aa (pv 2) Ab)
  (Af (BP (i:=6) Ss.nd U (Or.inl U)<|Ar Bp (BL N.FMx (KN N T) k<|Aa (pv 0)<|Aa (Ar Bt Ac<|pv 4) Ab)<|pv 1)
  (Af (BP (i:=7) Ss.nd U (Or.inl U)<|Ar Bt (pv 6)<|Ar Bp (BL N.FMx (KN N T) k<|Aa (pv 0)<|Aa (Ar Bt Ac<|pv 4) Ab)<|Ar El (pv 1)<|pv 6)
  (Af (BP (i:=8) Ss.nd U (Or.inl U)<|BL N.FMx (KN N T) k<|Aa (pv 0)<|Aa (Ar Bt Ac<|pv 4) Ab)
  (Af (BP (i:=9) Ss.nd U (Or.inl U)<|Av Et (CV<|Aa Ac<|Aa (Ar El (Ar Bp (Ar Cu (pv 8) Ac) Ac) Ac)<|Aa (Ar El (Ar El (Av (Bu (K:=K) U) (pv 2) (pv 5)<|λ_ _=>rfl) Ac)<|pv 7)<|Aa (Ar El (Ar Bp (Ar Cu (pv 8) Ac) Ac) Ac) Ab) (Ar Bp (pv 8) Ac)<|λ_ _=>rfl)
  (Ag<|C_<|E_ bE cr cw CZ (pv 3)<|Aa (Bx<|Aa (pv 5)<|Aa (pv 9)<|Aa (pv 6)<|Aa (pv 7) Ab) Ab)))))))
  (Ag<|Ax<|pv 3))),?_⟩
 have s:(((a.map λn:_d=>V.int (n:_d)).length:_d):_i)=((a.length:_d):_i):=by rw[ah]
 refine⟨DW (by simp),λD L=>?_⟩;obtain⟨H0,R,t0,u0⟩:=Jp (o:=HO.lst []) L;rw[R];have m4:0<=Bl c 21 % 4/\Bl c 21 % 4<4:=⟨dc _<|by decide,cq _<|by decide⟩;have bl:∀b:_V,0<=(if b=_h then (1:_i) else 0)/\(if b=_h then (1:_i) else 0)<=1:=λb=>by cases b <;> decide
 refine⟨_,_,U,by decide,by decide,(by show (0:_i)<4;decide),_,_,U,by decide,by decide,(by show (0:_i)<8;decide),U,.inr ⟨_,U,?_⟩⟩;have bb:=bl (decide (V.int (Bl c 22 % 8)=V.int 0));generalize (if decide (V.int (Bl c 22 % 8)=V.int 0)=_h then (1:_i) else 0)=b0 at bb |-;obtain⟨n,en,hn⟩:∃n:_d,Bl c 21 % 4+b0=(n:_i)/\n<=4:=⟨(Bl c 21 % 4+b0).toNat,by lia,by lia⟩;refine⟨_,U,by rw[en];lia,by rw[en];lia,?_⟩;rw[en,aI];refine JG (lo:=0) (n:=n) (vG H D d a c p)
  ⟨t0,[],[],u0,.nil,U,(λx f=>nomatch f),_,_,_,_,_,_,U⟩ ?_ ?_
 .rintro i σ H4 hi ⟨B,l,G,W,C,u,S,v4,v5,v6,v7,v8,v9,rfl⟩;have WV:=B _ _ hp;refine⟨_,_,U,by lia,by lia,p,_,U,oz<|.inl WV,(by show (0:_i)<(((a.map λn:_d=>V.int (n:_d)).length:_d):_i);rw[s];lia),?_⟩;rw[s];show Ci 5 (V.int<|Bl c (23+(0+(i:_i))) % ((a.length:_d):_i)) _ _ _;obtain⟨r,er,k⟩:∃r:_d,Bl c (23+(0+(i:_i))) % ((a.length:_d):_i)=(r:_i)/\r<a.length:=by
   have g1:0<=Bl c (23+(0+(i:_i))) % ((a.length:_d):_i):=dc _<|by lia
   have g2:Bl c (23+(0+(i:_i))) % ((a.length:_d):_i)<((a.length:_d):_i):=cq _<|by lia
   exact⟨(Bl c (23+(0+(i:_i))) % ((a.length:_d):_i)).toNat,by lia,by lia⟩
  rw[er];refine⟨_,_,U,by lia,by lia,(by show (0:_i)<((d:_d):_i);lia),?_⟩;show Ci 6 (V.int<|Bl c (28+(0+(i:_i))) % ((d:_d):_i)) _ _ _;have y:0<=Bl c (28+(0+(i:_i))) % ((d:_d):_i):=dc _<|by lia
  have lo1:Bl c (28+(0+(i:_i))) % ((d:_d):_i)<((d:_d):_i):=cq _<|by lia
  generalize Bl c (28+(0+(i:_i))) % ((d:_d):_i)=lo at y lo1 |-;refine⟨_,_,U,by lia,by lia,(by show (0:_i)<((d:_d):_i) - lo;lia),?_⟩;dsimp only[Ua,rI,MK];have Y:0<=Bl c (33+(0+(i:_i))) % (((d:_d):_i) - lo):=dc _<|by lia
  have M:Bl c (33+(0+(i:_i))) % (((d:_d):_i) - lo)<((d:_d):_i) - lo:=cq _<|by lia
  generalize Bl c (33+(0+(i:_i))) % (((d:_d):_i) - lo)=f at Y M |-;refine⟨_,_,U,by lia,by lia,?_⟩;show Ci 8 (V.int<|Bl c<|38+(0+(i:_i))) _ _ _;generalize Bl c (38+(0+(i:_i)))=j;have z:TQ (a.map λn:_d=>V.int (n:_d)) (r:_i)=_a (.int (a[r]:_d)):=Aj<|by rw[ar,af k];rfl
  have ab:=hz a[r] (de k);have m5:0<=j / 8 % 5/\j / 8 % 5<5:=⟨dc _<|by decide,cq _<|by decide⟩;have aa:0<=j / 8 % 401/\j / 8 % 401<401:=⟨dc _<|by decide,cq _<|by decide⟩;have t:0<=j % 4/\j % 4<4:=⟨dc _<|by decide,cq _<|by decide⟩;obtain⟨v,hv,hm⟩:=RG (xs:=[V.int 0,V.int<|j / 8 % 5 - 2,V.int<|((a[r]:_d):_i) - 1 - (lo+f),V.int<|j / 8 % 401 - 200]) (i:=j % 4) t.1 t.2;obtain⟨m,rfl,MZ,PM⟩:∃m:_i,v=.int m /\ -200<=m/\m<=200:=by
   simp only[Ê,Ï,Μ,ş] at hm;rcases hm with rfl | rfl | rfl | rfl
   .exact⟨_,U,by decide,by decide⟩
   .exact⟨_,U,by lia,by lia⟩
   .exact⟨_,U,by lia,by lia⟩
   .exact⟨_,U,by lia,by lia⟩
  refine⟨⟨by decide,by decide⟩,(by show (0:_i)<5;decide),_,_,oz WV,z,⟨by decide,by decide⟩,(by show (0:_i)<401;decide),by show 4<=sizeLine;decide,λL5 X=>?_⟩;obtain⟨H5,R,I,u5⟩:=Jp (o:=HO.lst [V.int 0,V.int<|j / 8 % 5 - 2,V.int<|((a[r]:_d):_i) - 1 - (lo+f),V.int<|j / 8 % 401 - 200]) X;rw[R];refine⟨(by show (0:_i)<4;decide),_,_,oz u5,hv,?_⟩;have Fu:=I _ _ W;refine⟨.inl ⟨U,_,oz Fu⟩,by show 4<=sizeLine;decide,λA O=>?_⟩;have F:=Ay (o:=HO.tup [V.int (r:_d),V.int m,V.int lo,V.int<|lo+f]) O;have u6:upd H5 A (HO.tup [V.int (r:_d),V.int m,V.int lo,V.int<|lo+f]) A=_a (.tup<|gF ⟨r,m,lo,lo+f⟩):=Ai;generalize upd H5 A (HO.tup [V.int (r:_d),V.int m,V.int lo,V.int (lo+f)])=H6 at F u6 |-;have J:=F _ _ Fu;have ac:=C.length;refine⟨G,J,Aw<|by lia,?_⟩;refine⟨λb o e=>?_,l++[⟨r,m,lo,lo+f⟩],G++[V.ref A],Ai,(Bv (Ao (I.trans F) C) J).snoc<|TupAt.upd ⟨A,U,u6⟩ J,by rw[av,bt,u],λx Z=>?_,_,_,_,_,_,_,U⟩
  .rw[An (Ak e L)];exact F _ _<|I _ _<|B _ _ e
  .rcases aE.mp Z with g | g
   .exact S x g
   .rw[al.mp g];exact⟨k,y,by show lo<=lo+f;lia,by show lo+f<((d:_d):_i);lia,MZ,PM⟩
 .rintro σ H4 ⟨B,l,G,W,C,u,S,v4,v5,v6,v7,v8,v9,rfl⟩;exact q D l G H4 L B W C (by lia) S
abbrev LnsW(sz pz:_b _d)(z:Kl):Prop:=z.2.length<=4/\(∀x∈z.2,sS (sz.getD z.1.bd 0) pz x)/\(¬ z.1.w = "stop"->z.2=[])
inductive qt(vs:_b V)(H:Hp)(Q:VK)(f6:XK):Prop
 |mk(c:_i)(p pp:_g)(sz pz:_b _d):vs=[.int c,.ref p,.ref pp]->H p=_a (.lst (sz.map λn:_d=>V.int (n:_d)))->H pp=_a (.lst (pz.map λn:_d=>V.int (n:_d)))->1<=sz.length->sz.length<=5->(∀s∈sz,1<=s/\s<=61)->1<=pz.length->pz.length<=4->(∀z∈pz,1<=z/\z<=97)->(∀(z:Kl) y H',Al H H'->z.1.ok sz.length->LnsW sz pz z->(c % 8=4->z.1.w = "stop")->(∀Dx o,H Dx=_a o->IV Dx H' z y)->Q y H')->qt vs H Q f6
theorem aR:Aq ["_law_cell","_law_sizes_here","_law_pipes","_law_many","_law_one","_law_other","_law_shift"] hJ (Ae sKn):=Bh
include N T in
theorem vY:BX P w K mg base BW 3 aD.Kn hJ qt:=by
 refine N.FKn.1.Dl aR λH vs Q E j h=>?_;obtain⟨c,p,pp,sz,J,rfl,M,A,h0,h5,B,g0,g4,DJ,q⟩:=h;refine⟨_,(Af (BP (i:=3) aR.nd U (Or.inl U)<|A_ BV U T.len dv<|Aa (pv 1) Ab)
  (Af (BP (i:=4) aR.nd U (Or.inl U)<|Ar Bp (BL N.FMx (KN N T) j<|Aa (Ar Cu (pv 0) Ac)<|Aa Ac Ab)<|pv 3)
  (Af (BP (i:=5) aR.nd U (Or.inl U)<|Ar Bp (BL N.FMx (KN N T) j<|Aa (Ar Cu (pv 0) Ac)<|Aa Ac Ab)<|pv 3)
  (Af (Cg (Bb G_ (Ar Bp (pv 0) Ac) Ac<|Bc _) (Af (BP (i:=6) aR.nd U (Or.inl U)<|CV<|Aa Ac<|Aa Ac<|Aa (K8 Jo Ac)<|Aa Ac<|Aa (Ar El (Ar Bp (BL N.FMx (KN N T) j<|Aa (Ar Cu (pv 0) Ac)<|Aa Ac Ab) Ac) Ac)<|Aa (Ar El (Ar Bp (BL N.FMx (KN N T) j<|Aa (Ar Cu (pv 0) Ac)<|Aa Ac Ab) Ac) Ac) Ab)
  (Ag<|Ax<|Bx<|Aa CQ<|Aa (pv 4)<|Aa (pv 5)<|Aa (Av Et (pv 6) (Ar Bp (BL N.FMx (KN N T) j<|Aa (Ar Cu (pv 0) Ac)<|Aa Ac Ab) Ac)<|λ_ _=>rfl) Ab)) Be)
  (Af (Cg (Bb Ez (Ar Bp (pv 0) Ac) Ac<|Bc _) (Ag<|Ax<|Bx<|Aa CQ<|Aa (pv 4) Ab) Be)
  (Ag<|Ax<|Bx<|Aa CQ<|Aa (pv 4)<|Aa (BL N.FLn (vf N T) j<|Aa (Ar Cu (pv 0) Ac)<|Aa (Av (Bu (K:=K) U) (pv 1) (pv 4)<|λ_ _=>rfl)<|Aa (pv 2) Ab) Ab)))))),?_⟩
 have s:(((sz.map λn:_d=>V.int (n:_d)).length:_d):_i)=((sz.length:_d):_i):=by rw[ah]
 have d:(0:_i)<((sz.length:_d):_i):=by lia
 refine⟨p,_,U,oz<|.inl M,?_⟩;rw[s];obtain⟨a,ea,f⟩:∃a:_d,Bl (c / 8) 11 % ((sz.length:_d):_i)=(a:_i)/\a<sz.length:=by
  have X:0<=Bl (c / 8) 11 % ((sz.length:_d):_i):=dc _<|by lia
  have u:Bl (c / 8) 11 % ((sz.length:_d):_i)<((sz.length:_d):_i):=cq _ d;exact⟨(Bl (c / 8) 11 % ((sz.length:_d):_i)).toNat,by lia,by lia⟩
 obtain⟨b,eb,W⟩:∃b:_d,Bl (c / 8) 12 % ((sz.length:_d):_i)=(b:_i)/\b<sz.length:=by
  have X:0<=Bl (c / 8) 12 % ((sz.length:_d):_i):=dc _<|by lia
  have u:Bl (c / 8) 12 % ((sz.length:_d):_i)<((sz.length:_d):_i):=cq _ d;exact⟨(Bl (c / 8) 12 % ((sz.length:_d):_i)).toNat,by lia,by lia⟩
 refine⟨⟨by decide,by decide⟩,_,_,U,by decide,by decide,d,?_⟩;show Ci 4 (V.int<|Bl (c / 8) 11 % ((sz.length:_d):_i)) _ _ _;rw[ea];refine⟨⟨by decide,by decide⟩,_,_,U,by decide,by decide,d,?_⟩;show Ci 5 (V.int<|Bl (c / 8) 12 % ((sz.length:_d):_i)) _ _ _;rw[eb];refine⟨(by show (0:_i)<8;decide),?_⟩;refine Ed (λg=>?_)<|λg=>?_
 .refine⟨⟨by decide,by decide⟩,_,_,U,by decide,by decide,(by show (0:_i)<17;decide),⟨by decide,by decide⟩,_,_,U,by decide,by decide,(by show (0:_i)<121;decide),by show 6<=sizeLine;decide,λl hl=>?_⟩;have m1:0<=Bl (c / 8) 13 % 17/\Bl (c / 8) 13 % 17<17:=⟨dc _<|by decide,cq _<|by decide⟩;have m2:0<=Bl (c / 8) 13 % 121/\Bl (c / 8) 13 % 121<121:=⟨dc _<|by decide,cq _<|by decide⟩;have L:0<=Bl (c / 8) 14 % 6/\Bl (c / 8) 14 % 6<6:=⟨dc _<|by decide,cq _<|by decide⟩;obtain⟨v,hv,G⟩:=RG (xs:=[V.int 0,V.int 1,V.int<|-1,V.int 2,V.int<|Bl (c / 8) 13 % 17 - 8,V.int<|Bl (c / 8) 13 % 121 - 60]) (i:=Bl (c / 8) 14 % 6) L.1 L.2;obtain⟨m,rfl,Z,Fa⟩:∃m:_i,v=.int m /\ -60<=m/\m<=60:=by
   simp only[Ê,Ï,Μ,ş] at G;rcases G with rfl | rfl | rfl | rfl | rfl | rfl
   .exact⟨_,U,by decide,by decide⟩
   .exact⟨_,U,by decide,by decide⟩
   .exact⟨_,U,by decide,by decide⟩
   .exact⟨_,U,by decide,by decide⟩
   .exact⟨_,U,by lia,by lia⟩
   .exact⟨_,U,by lia,by lia⟩
  refine⟨⟨by decide,by decide⟩,_,_,U,by decide,by decide,(by show (0:_i)<6;decide),_,_,oz Ai,hv,by show 4<=sizeLine;decide,λt e=>?_⟩;exact q (.cp a b m,[]) _ _ ((Ay hl).trans<|Ay e) ⟨f,W,Z,Fa⟩ ⟨by show 0<=4;decide,(λx r=>nomatch r),λ_=>rfl⟩ (λz=>_D (_G g)<|by lia) λO o F=>⟨[],⟨t,U,Ai⟩,.inl ⟨U,U,by show ¬ ("coupler" : _A) = "stop";decide⟩⟩
 .refine⟨(by show (0:_i)<8;decide),U,?_⟩;refine Ed (λu=>?_)<|λu=>?_
  .refine⟨by show 2<=sizeLine;decide,λt e=>?_⟩;exact q (.pl "mute" a,[]) _ _ (Ay e) ⟨f,.inl U⟩ ⟨by show 0<=4;decide,(λx r=>nomatch r),λ_=>rfl⟩ (λz=>_D (V.int.inj<|_G u)<|by lia) λO o F=>⟨[],⟨t,U,Ai⟩,.inl ⟨U,U,by show ¬ ("mute" : _A) = "stop";decide⟩⟩
  .have y:TQ (sz.map λn:_d=>V.int (n:_d)) (a:_i)=_a (.int (sz[a]:_d)):=Aj<|by rw[ar,af f];rfl
   have k:=B sz[a] (de f);refine⟨⟨by decide,by decide⟩,_,_,oz M,y,c / 8,sz[a],pp,J,U,A,g0,g4,DJ,k.1,k.2,λD l S H5 I s5 JY R uu Y=>?_⟩;refine⟨by show 3<=sizeLine;decide,λt e=>?_⟩;have C:=Ay (o:=HO.tup [V.str "stop",V.int (a:_d),V.ref D]) e;refine q (.pl "stop" a,l) _ _ (s5.trans C) ⟨f,.inr U⟩ ⟨uu,λx r=>?_,λz=>_D U z⟩ (λ_=>rfl) λO o F=>⟨[.ref D],⟨t,U,Ai⟩,.inr ⟨U,D,S,U,(λz=>by rw[z,F] at I;cases I),C _ _ JY,Ao C R⟩⟩;have:sz.getD a 0=sz[a]:=by rw[ax,af f];rfl
   show sS (sz.getD a 0) J x;rw[this];exact Y x r
inductive rN(vs:_b V)(H:Hp)(Q:VK)(f6:XK):Prop
 |mk(q0 p pp:_g)(cs:_b _i)(sz pz:_b _d):vs=[.ref q0,.ref p,.ref pp]->H q0=_a (.lst (cs.map V.int))->cs.length<=21->H p=_a (.lst (sz.map λn:_d=>V.int (n:_d)))->H pp=_a (.lst (pz.map λn:_d=>V.int (n:_d)))->1<=sz.length->sz.length<=5->(∀s∈sz,1<=s/\s<=61)->1<=pz.length->pz.length<=4->(∀z∈pz,1<=z/\z<=97)->(∀D (i8:_b Kl) us H',H D=_n->Al H H'->H' D=_a (.lst us)->Paired (λz y=>IV D H' z y) i8 us->Yd sz pz i8->i8.length<=21->((∃c∈cs,c % 8=4)->∃z∈i8,z.1.w = "stop")->Q (.ref D) H')->rN vs H Q f6
theorem Z4:Aq eP hE<|Ae zj:=Bh
inductive dh(H:Hp)(D:_g)(sz:_b _d)(pz:_b _d)(cs:_b _i)(w:_O)(q0:_g)(p:_g)(pp:_g)(i:_d)(σ:St)(H4:Hp):Prop
|mk(_:Al H H4)(i8:_b Kl)(us:_b V)(_:H4 D=_a (.lst us))(_:Paired (λz y=>IV D H4 z y) i8 us)(_:Yd sz pz i8)(_:i8.length<=i)(_:(∀(j:_d) c,j<i->cs[j]? = _a c->c % 8=4->∃z∈i8,z.1.w = "stop"))(v3 v4 v5:_)(_:σ=[_a (.ref q0),_a<|.ref p,_a<|.ref pp,_a<|.ref D,v3,v4,v5])
theorem dh.fst{sz:_b _d}{d:_b _i}{w:_O}{c:_g}{b:_g}{a:Hp}(h:dh H D sz pz d w c p b i σ a):Al H a:=by
 cases h;assumption
include N T in
theorem xn:BX P w K mg base BW 4 aD.Ks hE rN:=by
 refine N.FKs.1.Dl Z4 λH vs Q E hr h=>?_;obtain⟨q0,p,pp,cs,sz,pz,rfl,hq,hc,hp,ab,h0,h5,ac,g0,g4,DJ,q⟩:=h;have hu:=Fi hr;refine⟨_,(Af (BP (i:=3) Z4.nd U (Or.inl U)<|CV Ab)
  (Af (DQ _U U (BZ<|pv 0) (Bg (i:=4) Z4.nd U<|Or.inl U) (Af (BP (i:=5) Z4.nd U (Or.inr U)<|BL N.FKn (vY N T) hr<|Aa (pv 4)<|Aa (pv 1)<|Aa (pv 2) Ab)
  (Af (BP (i:=6) Z4.nd U (Or.inl U)<|Hf hu (eV (N5 CQ Ac<|N5 CQ Ac<|N5 CQ Ac eE) U U (by intro h;cases h) (by decide)) (Av (Am (K:=K) rfl) (pv 5) Ac (λ_ _=>rfl)) (λ_ _=>rfl))
  (Ag<|Cg (Bb G_ (A_ BV U T.len dv<|Aa (Bm U (BR (osc:=Ae zj) (N:=eP) U U<|by decide) (BZ<|pv 3) (λ_ _ _ _=>(HF<|Bb Ez (Av (Am (K:=K) U) (pv 0) Ac<|λ_ _=>rfl) (Av (Am (K:=K) U) (pv 6) Ac<|λ_ _=>rfl)<|Bc _))<|λ_ _ _ _=>(pv 0)) Ab) (pv 6)<|Bc _) (Ag<|C_<|E_ bE cr cw CZ (pv 3)<|Aa (pv 5) Ab) Be))))
  (Ag<|Ax<|pv 3))),?_⟩
 refine⟨DW (by simp),λD hD=>?_⟩;have s0:=Ay (o:=HO.lst []) hD;have hS:Cp K H q0<|cs.map V.int:=.inl<|.inl hq
 refine⟨⟨_,s0.seq hS⟩,Dk (K:=K) (a:=q0) (xs:=cs.map V.int) (dh H D sz pz cs w q0 p pp)
  ⟨s0,[],[],Ai,.nil,Yd.nil,ai _,λj c r=>_D r<|iF _,_,_,_,U⟩ (λi σ H4 _ h=>h.fst.seq hS) ?_ ?_⟩
 .rintro i x σ H4 I ⟨C,t,f,X,qf,m,s,n,v3,v4,v5,rfl⟩;rw[ar] at I;obtain⟨c,PV,rfl⟩:=aS.mp I;have hi:i<cs.length:=(ag.mp PV).1;refine⟨c,p,pp,sz,pz,U,C _ _ hp,C _ _ ab,h0,h5,ac,g0,g4,DJ,λO y W s5 ho BA SL Z=>?_⟩;have Z:=Z D _ X;obtain⟨T5,r5,rfl,JI⟩:=Z.w0;refine λB t9=>⟨Ai,[(δ "coupler",.int 12),(δ "mute",.int 5),(δ "stop",.int 24)],U,by decide,?_⟩;have G:Al W<|upd (upd W B<|.dK []) B<|.dK<|Gk [] [(δ "coupler",.int 12),(δ "mute",.int 5),(δ "stop",.int 24)]:=λb u e=>by rw[An (Ak e t9),An<|Ak e t9];exact e
  have a6:upd (upd W B<|.dK []) B (.dK<|Gk [] [(δ "coupler",.int 12),(δ "mute",.int 5),(δ "stop",.int 24)]) B=_a (.dK<|Gk [] [(δ "coupler",.int 12),(δ "mute",.int 5),(δ "stop",.int 24)]):=Ai;generalize upd (upd W B (.dK [])) B (.dK (Gk [] [(δ "coupler",.int 12),(δ "mute",.int 5),(δ "stop",.int 24)]))=H6 at G a6 |-;have g:=Gf.k (k:=δ O.1.w) a6;rw[Y5 (Kb.wo ho)] at g;refine⟨_,_,oz<|G _ _ JI,Aj (j:=0) U,_,g,?_⟩;have Y:=s5.trans G;have d6:=Y _ _ X;have l:Paired (λz y=>IV D H6 z y) t f:=Paired.Em qf λ_ _ q=>q.mono Y;have L:Cp K H6 D f:=.inl<|.inl d6
  have ap:=l.length;refine⟨⟨_,L⟩,DG (K:=K) (xs:=f) (λv=>decide (PN H6 0 v=V.str O.1.w)) id L (Aw<|by lia) (λx I F hs R k=>?_) (λx I _ F hs R k=>k F<|Al.refl F)<|λD7 H7 as J F6=>?_⟩
  .obtain⟨k1,_,aa⟩:=Dq l I;obtain⟨T1,r1,rfl,vr⟩:=aa.w0;have e1:PN H6 0 (.ref T1)=V.str k1.1.w:=by rw[Hg ⟨T1,U,vr⟩ 0];rfl
   have vr:=hs _ _ vr;have kk:=k F<|Al.refl F
   rw[e1] at kk;exact⟨_,_,oz vr,Aj (j:=0) U,_,_,oz<|hs _ _<|G _ _ JI,Aj (j:=0) U,U,kk⟩
  rw[on] at F6;have cnt:=ZL O.1.w l;refine⟨D7,_,U,oz<|.inl F6,?_⟩;have S:=J _ _ d6;have M:Paired (λz y=>IV D H7 z y) t f:=Paired.Em l λ_ _ q=>q.mono J;refine Ed (λg1=>?_)<|λg1=>?_
  .have g2:=_G g1;rw[cnt] at g2;have n1:=Yd.snoc m ho (by lia) BA;refine⟨.inl ⟨U,_,oz S⟩,f,S,Aw<|by lia,?_⟩;refine⟨λb u e=>?_,t++[O],f++[.ref T5],Ai,(Paired.Em M λ_ _ q=>q.upd S).snoc<|((Z.mono G).mono J).upd S,n1,by rw[av,bt];lia,λj c' r d A=>?_,_,_,_,U⟩;rotate_left
   .rcases ki.mp r with h | rfl
    .obtain⟨z,hz,hw⟩:=n j c' h d A;exact⟨z,cm _ hz,hw⟩
    .rw[PV] at d
     cases d;exact⟨O,by simp,SL A⟩
   rw[An (Ak e hD)];exact J _ _<|Y _ _<|C _ _ e
  .exact⟨(C.trans Y).trans J,t,f,S,M,m,by lia,(λj c' r d A=>by
    rcases ki.mp r with h | rfl
    .exact n j c' h d A
    .rw[PV] at d
     cases d;exfalso;refine g1 (_v ?_);rw[cnt,SL A];have hm:GR "stop" = 24:=by decide
     have an:=dE (Ie "stop") (t.map (·.1));rw[ah] at an;rw[hm];lia),_,_,_,U⟩
 .rintro σ H4 ⟨C,t,f,X,qf,m,s,n,v3,v4,v5,rfl⟩;rw[ah] at s;exact q D t f H4 hD C X qf m (by lia) λ⟨c,d,A⟩=>by
   obtain⟨j,r,e⟩:=io d;exact n j c (by rw[ah];exact r) (by rw[<-e];exact af r) A
abbrev Jx(c:_d->_A)(pz:_b _d)(wi:_d->_i):_b<|_A×_d×Int:=pz.zipIdx.map λp=>(c<|10+p.2,p.1,wi p.2)
theorem Kf(c:_d->_A)(a:_b _d)(b:_d->_i):(Jx c a b).length=a.length:=by simp[Jx]
theorem RD{a:_d->_i}{z:_d}(h:pz[i]? = _a z):(Jx c pz a)[i]? = _a (c<|10+i,z,a i):=by
 rw[ar,fT,h];simp
theorem G9{b:_d->_i}{r:_A×_d×_i}(h:(Jx c pz b)[i]? = _a r):∃z,pz[i]? = _a z/\r=(c<|10+i,z,b i):=by
 have a:i<pz.length:=by
  have:=(ag.mp h).1;rw[Kf] at this;exact this
 rw[RD (af a)] at h;exact⟨_,af a,(_m h).symm⟩
theorem Yg{a:_d->_i}{z:_d}(h:pz[i]? = _a z):(Jx c pz a).take (i+1)=(Jx c pz a).take i++[(c<|10+i,z,a i)]:=by
 rw[ck,RD h];rfl
theorem YB{sz:_b _d}{z:_d}(h:sz[i]? = _a z):(Bj c sz).take (i+1)=(Bj c sz).take i++[(c i,z)]:=by
 rw[ck,Eg h];rfl
theorem YH{z:Kb}(h:d3[i]? = _a z):(Cy c d3).take (i+1)=(Cy c d3).take i++[Ml c i z]:=by
 rw[ck,Fb h];rfl
theorem Ge{sz:_b _d}{b:_A×_d}(h:b∈(Bj c sz).take i):∃j,j<i/\j<sz.length/\b.1=c j:=by
 obtain⟨j,f,e⟩:=jv.mp h;have a:(Bj c sz)[j]? = _a b:=by rw[<-e];exact af _
 obtain⟨z,d,rfl⟩:=HB a;exact⟨j,by lia,(ag.mp d).1,U⟩
theorem J6{b:_d->_i}{r:_A×_d×_i}(h:r∈(Jx c pz b).take i):∃j,j<i/\j<pz.length/\r.1=c (10+j):=by
 obtain⟨j,f,e⟩:=jv.mp h;have a:(Jx c pz b)[j]? = _a r:=by rw[<-e];exact af _
 obtain⟨z,d,rfl⟩:=G9 a;exact⟨j,by lia,(ag.mp d).1,U⟩
theorem Pn(h:r∈(Cy c d3).take i):∃j,j<i/\j<d3.length/\r.nm=c (30+j):=by
 obtain⟨j,d,e⟩:=jv.mp h;have a:(Cy c d3)[j]? = _a r:=by rw[<-e];exact af _
 obtain⟨z,b,rfl⟩:=En a;exact⟨j,by lia,(ag.mp b).1,W4 _ _ _⟩
theorem Ht{α:Type}{l:_b α}{x:α}(h:x∈l):x∈l.take l.length:=by rw[eW];exact h
section
variable{sz:_b _d}{wi:_d->_i}
theorem Vn(F:U_ K aB aP aM)(d:∀k,k<100->isNm (c k))(hi:∀k l,c k=c l->k=l)(q:sz.length<=5)(h:∀s∈sz,1<=s/\s<=61):∀i,i<=sz.length->JS K aB aP aM (((Bj c sz).take i).map Gm) ((Bj c sz).take i) [] [] []:=by
 intro i
 induction i with
 |zero=>exact λ_=>JS.nil
 |succ i m =>
  intro r;have f:=af (l:=sz) (i:=i)<|by lia
  have g:=h _<|de (l:=sz) (n:=i)<|by lia
  rw[YB f,ee];refine (m<|by lia).vI F (d _<|by lia) (λb a e=>?_) (by rw[cE,Gy];lia) g.1 g.2;obtain⟨j,p,_,o⟩:=Ge a;have:=hi _ _<|o.symm.trans e
  lia
theorem bI(F:U_ K aB aP aM)(m:∀k,k<100->isNm (c k))(hi:∀k l,c k=c l->k=l)(q:sz.length<=5)(t:pz.length<=4)(p:∀z∈pz,1<=z/\z<=97)(f:∀i,0<=wi i/\wi i<=1000000000){a:_b R}{z:_d}(hz:pz[i]? = _a z)(B:JS K aB aP aM a (Bj c sz) ((Jx c pz wi).take i) [] []):JS K aB aP aM (a++[J_ (c<|10+i,z,wi i)]) (Bj c sz) ((Jx c pz wi).take<|i+1) [] []:=by
 have s:=(ag.mp hz).1;have g:=p z<|am hz
 rw[Yg hz];refine B.rank F (m _<|by lia) (λb h e=>?_) (λr n e=>?_) (by rw[cE,Kf];lia) g.1 g.2 (f i).1 (f i).2
 .obtain⟨j,_,o,d⟩:=Ge<|Ht h;have:=hi _ _<|d.symm.trans e
  lia
 .obtain⟨j,o,_,d⟩:=J6 n;have:=hi _ _<|d.symm.trans e
  lia
theorem rE{a:_b Kl}(w:_A)(i:_d):(((Cy c (a.map (·.1))).take i).filter λr=>decide (V.str r.w=V.str w)).length=(((a.map (·.1)).take i).filter<|Ie w).length:=by
 have e:(Cy c (a.map (·.1))).map (·.w)=(a.map (·.1)).map (·.w):=by
  refine gp λj=>?_;rw[ar,ar]
  cases h:(a.map (·.1))[j]? with
  |none=>rw[fe (by rw[K7];exact List.getElem?_eq_none_iff.mp h)];rfl
  |some z=>rw[Fb h];exact congrArg _a<|Jt _ _ _
 have f:∀{α:Type}(g:α->_A)(l:_b α),(l.filter λr=>decide (V.str (g r)=V.str w)).length=((l.map g).filter λs=>decide (V.str s=V.str w)).length:=λg l=>by
  rw[fm,ah];rfl
 rw[f (λr:R=>r.w),f (λz:Kb=>z.w),ku,ku,e]
theorem bJ(F:U_ K aB aP aM)(m:∀k,k<100->isNm (c k))(hi:∀k l,c k=c l->k=l)(J:sz.length<=5)(I:pz.length<=4){g:_b Kl}(w:Yd sz pz g)(G:g.length<=21){f:_b R}{z:Kb}(hz:(g.map (·.1))[i]? = _a z)(B:JS K aB aP aM f (Bj c sz) (Jx c pz wi) ((Cy c (g.map (·.1))).take i) ls):JS K aB aP aM (f++[Ml c i z]) (Bj c sz) (Jx c pz wi) ((Cy c (g.map (·.1))).take<|i+1)<|ls++[[]]:=by
 have E:=(ag.mp hz).1;rw[ah] at E;have x:=w.ok z<|am hz
 have d:=w.room i z hz;rw[<-rE (c:=c)] at d;rw[YH hz];have u:∀b∈Bj c sz,b.1≠c (30+i):=λb p e=>by
  obtain⟨j,_,v,n⟩:=Ge<|Ht p;have:=hi _ _<|n.symm.trans e
  lia
 have t:∀r∈Jx c pz wi,r.1≠c (30+i):=λr q e=>by
  obtain⟨j,_,v,n⟩:=J6<|Ht q;have:=hi _ _<|n.symm.trans e
  lia
 have y:∀k∈(Cy c (g.map (·.1))).take i,k.nm≠c (30+i):=λr q e=>by
  obtain⟨j,v,_,n⟩:=Pn q;have:=hi _ _<|n.symm.trans e
  lia
 have s:∀{a:_d}(h:a<sz.length),(c a,sz[a])∈Bj c sz:=λh=>am<|Eg<|af h
 cases z with
 |cp a b L =>
  obtain⟨h,p,A,C⟩:=x;have H:GR "coupler" = 12:=by decide
  have o:(((Cy c (g.map (·.1))).take i).filter λr=>decide (V.str r.w=V.str "coupler")).length<GR "coupler":=d;exact B.jG F (m _<|by lia) u t y (by lia) (m _<|by lia) (s h) (m _<|by lia) (s p) A C
 |pl w0 a =>
  obtain⟨h,D⟩:=x;exact B.plain F (by rcases D with e | e;exact .inr e;exact .inl e) (m _<|by lia) u t y d (m _<|by lia)<|s h
end
theorem VN(c:_d->_A)(sz:_b _d):(Bj c sz).map Gm=(_B sz.length).map λi=>Gm (c i,sz.getD i 0):=by
 refine gp λi=>?_;rw[ar,ar];by_cases a:i<sz.length
 .rw[Eg (af a),Cb a];show _a (Gm (c i,sz[i]))=_a (Gm (c i,sz.getD i 0));rw[ax,af a];rfl
 .rw[fe (by rw[Gy];lia),fe (l:=_B _)<|by rw[dQ];lia];rfl
abbrev Qh(c:_i)(i:_d):Int:=Bl c (i:_i) % 10 ^ (9:_i).toNat
theorem yG(c:_i)(i:_d):0<=Qh c i/\Qh c i<=1000000000:=by
 have b:0<=Qh c i:=dc _<|by decide
 have a:Qh c i<10 ^ (9:_i).toNat:=cq _<|by decide
 have e:(10:_i) ^ (9:_i).toNat=1000000000:=by decide
 rw[e] at a;lia
inductive qU(K:_s)(aB aP aM:_g)(vs:_b V)(H:Hp)(Q:VK)(f6:XK):Prop
|mk(c:_i)(p pp q0 Dx:_g)(sz pz:_b _d)(i8:_b Kl)(us:_b V)(_:vs=[.int c,.ref p,.ref pp,.ref q0])(_:H p=_a (.lst (sz.map λn:_d=>V.int (n:_d))))(_:H pp=_a (.lst (pz.map λn:_d=>V.int (n:_d))))(_:1<=sz.length)(_:sz.length<=5)(_:∀s∈sz,1<=s/\s<=61)(_:1<=pz.length)(_:pz.length<=4)(_:∀z∈pz,1<=z/\z<=97)(_:H q0=_a (.lst us))(_:Paired (λz y=>IV Dx H z y) i8 us)(_:Yd sz pz i8)(_:i8.length<=21)(_:U_ K aB aP aM)(_:∀D rows AV H',H D=_n->Al H H'->H' D=_a (.lst AV)->Paired (λ(r:R) v=>TupAt H' r.v v) rows AV->JS K aB aP aM rows (Bj (Dm c) sz) (Jx (Dm c) pz<|Qh c) (Cy (Dm c) (i8.map (·.1))) (i8.map (·.2))->rows.length<=150->Q (.ref D) H')
theorem Pj:Aq eu fy<|Ae sRw:=Bh
inductive xG(H:Hp)(D:_g)(K:_s)(aB:_g)(aP:_g)(aM:_g)(c:_i)(sz:_b _d)(pz:_b _d)(p:_g)(pp:_g)(q0:_g)(i:_d)(σ:St)(H4:Hp):Prop
|mk(_:Al H H4)(rows:_b R)(sk:_b V)(_:H4 D=_a (.lst sk))(_:Paired (λ(r:R) v=>TupAt H4 r.v v) rows sk)(_:JS K aB aP aM rows (Bj (Dm c) sz) ((Jx (Dm c) pz<|Qh c).take i) [] [])(_:rows.length=sz.length+i)(v5 v6 v7 v8 v9 wS AC:_)(_:σ=[_a (.int c),_a<|.ref p,_a<|.ref pp,_a<|.ref q0,_a<|.ref D,v5,v6,v7,v8,v9,wS,AC])
inductive vM(H:Hp)(D:_g)(K:_s)(aB:_g)(aP:_g)(aM:_g)(c:_i)(sz:_b _d)(pz:_b _d)(i8:_b Kl)(p:_g)(pp:_g)(q0:_g)(i:_d)(σ:St)(H4:Hp):Prop
|mk(_:Al H H4)(rows:_b R)(sk:_b V)(_:H4 D=_a (.lst sk))(_:Paired (λ(r:R) v=>TupAt H4 r.v v) rows sk)(_:JS K aB aP aM rows (Bj (Dm c) sz) (Jx (Dm c) pz<|Qh c) ((Cy (Dm c) (i8.map (·.1))).take i) ((i8.map (·.2)).take i))(_:rows.length<=9+5 * i)(v5 v6 v7 v8 v9 wS AC:_)(_:σ=[_a (.int c),_a<|.ref p,_a<|.ref pp,_a<|.ref q0,_a<|.ref D,v5,v6,v7,v8,v9,wS,AC])
inductive gD(H:Hp)(D:_g)(K:_s)(aB:_g)(aP:_g)(aM:_g)(c:_i)(sz:_b _d)(pz:_b _d)(i8:_b Kl)(i:_d)(ll:_b Ln)(a:_d)(p:_g)(pp:_g)(q0:_g)(j:_d)(σ:St)(H4:Hp):Prop
|mk(_:Al H H4)(rows:_b R)(sk:_b V)(_:H4 D=_a (.lst sk))(_:Paired (λ(r:R) v=>TupAt H4 r.v v) rows sk)(_:JS K aB aP aM rows (Bj (Dm c) sz) (Jx (Dm c) pz<|Qh c) ((Cy (Dm c) (i8.map (·.1))).take<|i+1) ((i8.map (·.2)).take i++[ll.take j]))(_:Tl rows (Dm c a) j)(_:rows.length<=9+5 * i+1+j)(v8 v9 wS AC:_)(_:σ=[_a (.int c),_a<|.ref p,_a<|.ref pp,_a<|.ref q0,_a<|.ref D,_a<|.int<|0+(i:_i),_a<|.str<|Dm c<|30+i,_a<|.str<|Dm c a,v8,v9,wS,AC])
theorem gD.fst{K:_s}{c:_i}{sz:_b _d}{d:_b Kl}{g:_b Ln}{a:_d}{f:_g}{e:_g}{b:Hp}(h:gD H D K aB aP aM c sz pz d i g a p f e j σ b):Al H b:=by
 cases h;assumption
include N T in
theorem wD:BX P w K mg base BW 3 aD.Rw fy<|qU K aB aP aM:=by
 refine N.FRw.1.Dl Pj λH vs Q E hr h=>?_;obtain⟨c,p,pp,q0,Dx,sz,L,S,I,rfl,hp,a0,h0,h5,a1,g0,g4,DJ,hq,qf,hk,a4,F0,q⟩:=h;refine⟨_,(Af (Q3 (i:=4) Pj.nd U U U (BR (osc:=Ae sRw) (N:=eu) U U<|by decide) (Dj U T.range<|Aa (A_ BV U T.len dv<|Aa (pv 1) Ab) Ab) (λ_ _ _ _=>CJ)<|λ_ _ _ _=>(Bx<|Aa CQ<|Aa (BL N.FNa (wI N T) hr<|Aa (pv 1)<|Aa (pv 0) Ab)<|Aa (Av (Bu (K:=K) U) (pv 2) (pv 0)<|λ_ _=>rfl) Ab))
  (Af (DQ _U U (Dj U T.range<|Aa (A_ BV U T.len dv<|Aa (pv 2) Ab) Ab) (Bg (i:=5) Pj.nd U<|Or.inl U)<|Ag<|C_<|E_ bE cr cw CZ (pv 4)<|Aa (Bx<|Aa CQ<|Aa (BL N.FNa (wI N T) hr<|Aa (pv 0)<|Aa (Ar Bt Ac<|pv 5) Ab)<|Aa (Av (Bu (K:=K) U) (pv 2) (pv 5)<|λ_ _=>rfl)<|Aa (Ar Bp (BL N.FMx (KN N T) hr<|Aa (pv 0)<|Aa (pv 5) Ab)<|Ar Yy Ac Ac) Ab) Ab)
  (Af (DQ _U U (Dj U T.range<|Aa (A_ BV U T.len dv<|Aa (pv 3) Ab) Ab) (Bg (i:=5) Pj.nd U<|Or.inl U) (Af (BP (i:=6) Pj.nd U (Or.inl U)<|BL N.FNa (wI N T) hr<|Aa (pv 0)<|Aa (Ar Bt Ac<|pv 5) Ab)
  (Af (BP (i:=7) Pj.nd U (Or.inl U)<|BL N.FNa (wI N T) hr<|Aa (pv 0)<|Aa (Av (Am (K:=K) U) (Av (Bu (K:=K) U) (pv 3) (pv 5)<|λ_ _=>rfl) Ac<|λ_ _=>rfl) Ab)
  (Af (Cg (Bb Ez (Av (Am (K:=K) U) (Av (Bu (K:=K) U) (pv 3) (pv 5)<|λ_ _=>rfl) Ac<|λ_ _=>rfl) CQ<|Bc _) (Ag<|C_<|E_ bE cr cw CZ (pv 4)<|Aa (Bx<|Aa CQ<|Aa (pv 6)<|Aa (pv 7)<|Aa (BL N.FNa (wI N T) hr<|Aa (pv 0)<|Aa (Av (Am (K:=K) U) (Av (Bu (K:=K) U) (pv 3) (pv 5)<|λ_ _=>rfl) Ac<|λ_ _=>rfl) Ab)<|Aa (Av (Am (K:=K) U) (Av (Bu (K:=K) U) (pv 3) (pv 5)<|λ_ _=>rfl) Ac<|λ_ _=>rfl) Ab) Ab)<|Ag<|C_<|E_ bE cr cw CZ (pv 4)<|Aa (Bx<|Aa (Av (Am (K:=K) U) (Av (Bu (K:=K) U) (pv 3) (pv 5)<|λ_ _=>rfl) Ac<|λ_ _=>rfl)<|Aa (pv 6)<|Aa (pv 7) Ab) Ab)
  (Ag<|Cg (Bb Ez (Av (Am (K:=K) U) (Av (Bu (K:=K) U) (pv 3) (pv 5)<|λ_ _=>rfl) Ac<|λ_ _=>rfl) CQ<|Bc _) (Ag<|DQ _U U (BZ<|Av (Am (K:=K) U) (Av (Bu (K:=K) U) (pv 3) (pv 5)<|λ_ _=>rfl) Ac<|λ_ _=>rfl) (HS U<|Bq (Bg (i:=8) Pj.nd U<|Or.inl U)<|Bq (Bg (i:=9) Pj.nd U<|Or.inl U)<|Bq (Bg (i:=10) Pj.nd U<|Or.inl U)<|Bq (Bg (i:=11) Pj.nd U<|Or.inl U) FP)<|Ag<|C_<|E_ bE cr cw CZ (pv 4)<|Aa (Bx<|Aa CQ<|Aa (BL N.FNa (wI N T) hr<|Aa (pv 0)<|Aa (Ar Bt Ac<|pv 8) Ab)<|Aa (pv 9)<|Aa (pv 10)<|Aa (pv 11) Ab) Ab) Be)))))
  (Ag<|Ax<|pv 4)))),?_⟩
 have aa:((sz.map λn:_d=>V.int (n:_d)).length:_d)=sz.length:=by rw[ah]
 have u:((L.map λn:_d=>V.int (n:_d)).length:_d)=L.length:=by rw[ah]
 have X:∀k,k<100->isNm (Dm c k):=λk h=>tD c<|by lia
 have ap:∀k l,Dm c k=Dm c l->k=l:=λk l h=>N7 h;refine⟨p,_,U,oz<|.inl hp,_,U,by lia,by lia,?_⟩;rw[aI];refine Pz (n:=(sz.map λn:_d=>V.int (n:_d)).length) (λi=>(Gm (Dm c i,sz.getD i 0)).v) (Aw<|by lia) (λi W H1 s1 R k=>?_)<|λD H1 Sj hD s1 bK rS=>?_
 .rw[aa] at W;refine⟨c,i,U,by lia,λH2 s2=>?_⟩;refine⟨_,.int (sz.getD i 0:_d),oz<|s2 _ _<|s1 _ _ hp,Aj<|by rw[ċ,Ã W,_K,Ã W];rfl,by show 3<=sizeLine;decide,λT6 as=>?_⟩;exact k _ _ (s2.trans<|Ay as) ⟨T6,U,Ai⟩
 rw[aa] at rS;have a2:Paired (λ(r:R) v=>TupAt H1 r.v v) ((Bj (Dm c) sz).map Gm) Sj:=by
  rw[VN];exact CG (F:=λ(r:R) v=>TupAt H1 r.v v) (λi=>Gm (Dm c i,sz.getD i 0)) rS
 clear rS;have B0:=Vn (K:=K) (aB:=aB) (aP:=aP) (aM:=aM) F0 X ap h5 a1 sz.length<|ai _
 rw[dt (by rw[Gy];exact ai _)] at B0;refine⟨pp,_,U,oz<|.inl<|s1 _ _ a0,_,U,by lia,by lia,?_⟩;rw[aI];refine JG (lo:=0) (n:=(L.map λn:_d=>V.int (n:_d)).length) (xG H D K aB aP aM c sz L p pp q0)
  ⟨s1,_,Sj,bK,a2,B0,by rw[ah,Gy,zp],_,_,_,_,_,_,_,U⟩ ?_ ?_
 .rintro i σ H4 W ⟨s4,C,G,Z,zd,B,Bi,v5,v6,v7,v8,v9,wS,AC,rfl⟩;rw[u] at W;have ei:((0:_i)+(i:_i))=(i:_i):=kg _;have hz:=af W;refine⟨.inl ⟨U,_,oz Z⟩,c,10+i,?_,by lia,λH5 J=>?_⟩
  .rw[ei];rfl
  refine⟨_,.int (L[i]:_d),oz<|J _ _<|s4 _ _ a0,by rw[ei];exact Aj<|by rw[ċ,hz];rfl,_,_,U,by lia,by lia,⟨by decide,by decide,by decide⟩,(by show (0:_i)<10 ^ (9:_i).toNat;decide),by show 4<=sizeLine;decide,λT6 as=>?_⟩;have t6:=Ay (o:=HO.tup [V.str "rank",V.str<|Dm c<|10+i,V.int (L[i]:_d),V.int<|Bl c (0+(i:_i)) % 10 ^ (9:_i).toNat]) as;have u6:upd H5 T6 (HO.tup [V.str "rank",V.str<|Dm c<|10+i,V.int (L[i]:_d),V.int<|Bl c (0+(i:_i)) % 10 ^ (9:_i).toNat]) T6=_a (.tup (J_ (Dm c<|10+i,L[i],Qh c i)).v):=by rw[Ai,ei]
  generalize upd H5 T6 (HO.tup [V.str "rank",V.str (Dm c (10+i)),V.int (L[i]:_d),V.int (Bl c (0+(i:_i)) % 10 ^ (9:_i).toNat)])=H6 at t6 u6 |-;have O:=t6 _ _<|J _ _ Z
  have bB:=zd.length;refine⟨G,O,Aw<|by lia,?_⟩;refine⟨λb o e=>?_,_,G++[V.ref T6],Ai,(Bv (Ao (J.trans t6) zd) O).snoc<|TupAt.upd ⟨T6,U,u6⟩ O,bI F0 X ap h5 g4 DJ (yG c) hz B,by rw[av,bt];lia,_,_,_,_,_,_,_,U⟩;rw[An (Ak e hD)];exact t6 _ _<|J _ _<|s4 _ _ e
 rintro σ H3 ⟨s3,F2,XI,Yf,EU,B3,NF,v5,v6,v7,v8,v9,wS,AC,rfl⟩;rw[u,dt<|by rw[Kf];exact ai _] at B3;rw[u] at NF;have bN:=qf.length;refine⟨q0,_,U,oz<|.inl<|s3 _ _ hq,_,U,by lia,by lia,?_⟩;rw[aI];have a3:((Jx (Dm c) L<|Qh c).map (·.1)).Nodup:=by
  refine JD λi j x W hj=>?_;rw[ar] at W hj;obtain⟨a,ha,e1⟩:=aS.mp W;obtain⟨b,hb,e2⟩:=aS.mp hj;obtain⟨_,_,rfl⟩:=G9 ha;obtain⟨_,_,rfl⟩:=G9 hb;have:=N7<|e1.trans e2.symm
  lia
 refine JG (lo:=0) (n:=I.length) (vM H D K aB aP aM c sz L S p pp q0)
  ⟨s3,F2,XI,Yf,EU,B3,by lia,_,_,_,_,_,_,_,U⟩ ?_ ?_
 .rintro i σ H4 W ⟨s4,C,G,Z,zd,B,Bi,w5,w6,w7,w8,w9,bl,Zl,rfl⟩;have br:i<S.length:=by lia
  have qk:=af br;obtain⟨y,hy,vn⟩:=Cj qf qk;have aw:(S.map (·.1))[i]? = _a (S[i]).1:=by rw[ar,qk];rfl
  have aK:(S.map (·.2))[i]? = _a (S[i]).2:=by rw[ar,qk];rfl
  have ab:=hk.ok _<|am aw
  have BA:=hk.ln _<|am qk
  have BK:=bJ F0 X ap h5 g4 hk a4 aw B;generalize S[i]=kb at qk vn ab aw aK BA BK;have an:∀{l:_b Ln},l=kb.2->(S.map (·.2)).take i++[l]=(S.map (·.2)).take (i+1):=λe=>by rw[ck,aK,e];rfl
  have ei:((0:_i)+(i:_i))=(i:_i):=kg _;have d:∀{H5:Hp},Al H H5->Cp K H5 q0 I/\TQ I (0+(i:_i))=_a y:=λJ=>⟨.inl<|.inl<|J _ _ hq,by rw[ei];exact Aj hy⟩;obtain⟨ex,⟨T1,rfl,vr⟩,hex⟩:=vn;have bB:=zd.length;refine⟨c,30+i,?_,by lia,λH5 J=>?_⟩
  .rw[ei];rfl
  have si:=s4.trans J;obtain⟨kb,ll⟩:=kb
  cases kb with
  |cp a b s0 =>
   obtain⟨ha,hb,_,_⟩:=ab;obtain⟨rfl,AU⟩:ex=[]/\ll=[]:=by
    rcases hex with⟨e1,e2,_⟩ | ⟨e,_⟩
    .exact⟨e1,e2⟩
    .exact _D (show ("coupler" : _A) = "stop" from e)<|by decide
   refine⟨I,_,(d si).1,(d si).2,_,_,oz<|si _ _ vr,Aj (j:=1) U,c,a,U,by lia,λH6 s6=>?_⟩;have g:=si.trans s6;refine⟨I,_,(d g).1,(d g).2,_,_,oz<|g _ _ vr,Aj (j:=0) U,U,Mq ?_⟩;have O:=s6 _ _<|J _ _ Z
   refine⟨.inl ⟨U,_,oz O⟩,I,_,(d g).1,(d g).2,_,_,oz<|g _ _ vr,Aj (j:=2) U,c,b,U,by lia,λH7 s7=>?_⟩;have HZ:=g.trans s7;refine⟨I,_,(d HZ).1,(d HZ).2,_,_,oz<|HZ _ _ vr,Aj (j:=3) U,by show 5<=sizeLine;decide,λt KL=>?_⟩;have t8:=Ay (o:=HO.tup (Ml (Dm c) i<|Kb.cp a b s0).v) KL;have u8:upd H7 t (HO.tup (Ml (Dm c) i<|Kb.cp a b s0).v) t=_a (.tup (Ml (Dm c) i<|Kb.cp a b s0).v):=Ai;refine⟨G,t8 _ _<|s7 _ _ O,Aw<|by lia,?_⟩;have BE:=J.trans<|s6.trans<|s7.trans t8
   have E6:=BE _ _ Z;have f:Al H<|upd (upd H7 t<|HO.tup (Ml (Dm c) i<|Kb.cp a b s0).v) D<|.lst<|G++[V.ref t]:=λb o e=>by
    rw[An (Ak e hD)];exact BE _ _<|s4 _ _ e
   refine⟨I,_,(d f).1,(d f).2,_,_,oz<|f _ _ vr,Aj (j:=0) U,U,?_⟩;exact⟨f,_,_,Ai,(Bv (Ao BE zd) E6).snoc<|TupAt.upd ⟨t,U,u8⟩ E6,by rw[<-an AU.symm];exact BK,by rw[av,bt];lia,_,_,_,_,_,_,_,U⟩
  |pl w0 a =>
   obtain⟨ha,hw⟩:=ab;have nw:¬ V.str w0=V.str "coupler":=by rcases hw with rfl | rfl <;> decide
   have M:∀{H':Hp},Al H H'->H' T1=_a (.tup<|V.str w0::V.int (a:_d)::ex):=λs=>s _ _ vr;refine⟨I,_,(d si).1,(d si).2,_,_,oz<|M si,Aj (j:=1) U,c,a,U,by lia,λH6 s6=>?_⟩;have g:=si.trans s6;refine⟨I,_,(d g).1,(d g).2,_,_,oz<|M g,Aj (j:=0) U,U,?_⟩;rw[_L nw];refine PQ ?_;have O:=s6 _ _<|J _ _ Z
   refine⟨.inl ⟨U,_,oz O⟩,I,_,(d g).1,(d g).2,_,_,oz<|M g,Aj (j:=0) U,by show 3<=sizeLine;decide,λt KL=>?_⟩;have t8:=Ay (o:=HO.tup [V.str w0,V.str<|Dm c<|30+i,V.str<|Dm c a]) KL;have u8:upd H6 t (HO.tup [V.str w0,V.str<|Dm c<|30+i,V.str<|Dm c a]) t=_a (.tup (Ml (Dm c) i<|Kb.pl w0 a).v):=Ai;refine⟨G,t8 _ _ O,Aw<|by lia,?_⟩;have BE:=J.trans<|s6.trans t8
   have E6:=BE _ _ Z;have f:Al H<|upd (upd H6 t<|HO.tup [V.str w0,V.str<|Dm c<|30+i,V.str<|Dm c a]) D<|.lst<|G++[V.ref t]:=λb o e=>by
    rw[An (Ak e hD)];exact BE _ _<|s4 _ _ e
   have zn:=(Bv (ws:=G++[V.ref t]) (Ao BE zd) E6).snoc<|TupAt.upd (ws:=G++[V.ref t]) (D:=D) ⟨t,U,u8⟩ E6
   have ac:upd (upd H6 t<|HO.tup [V.str w0,V.str<|Dm c<|30+i,V.str<|Dm c a]) D (.lst<|G++[V.ref t]) D=_a (.lst<|G++[V.ref t]):=Ai;clear u8 t8 BE E6 O;generalize upd (upd H6 t (HO.tup [V.str w0,V.str (Dm c (30+i)),V.str (Dm c a)])) D (.lst (G++[V.ref t]))=H9 at f zn ac |-;refine⟨I,_,(d f).1,(d f).2,_,_,oz<|M f,Aj (j:=0) U,U,?_⟩;rcases hex with⟨rfl,AU,a8⟩ | ⟨bn,A,ts,rfl,_,hA,LJ⟩
   .have RI:¬ V.str w0=V.str "stop":=λe=>a8<|V.str.inj e
    rw[_L RI];exact⟨f,_,_,ac,zn,by rw[<-an (show ([]:_b Ln)=ll from AU.symm)];exact BK,by rw[ς,đ];lia,_,_,_,_,_,_,_,U⟩
   .have NO:w0 = "stop":=bn;subst NO;rw[_v U];refine Mq ?_;have bc:=f _ _ hA;have bb:Cp K H9 A ts:=.inl<|.inl bc
    have bR:¬ A=D:=λz=>by rw[z,hD] at hA;cases hA
    have uu:=BA.1;have PU:=BA.2.1;have bP:=LJ.length;have a9:sz.getD a 0=sz[a]:=by rw[ax,af ha];rfl
    have ZI:=a1 sz[a] (de ha);have mb:(Dm c a,sz[a])∈Bj (Dm c) sz:=am<|Eg<|af ha
    refine⟨I,_,(d f).1,(d f).2,_,_,oz<|M f,Aj (j:=2) U,⟨_,bb⟩,Dk (K:=K) (a:=A) (xs:=ts) (gD H D K aB aP aM c sz L S i ll a p pp q0)
     ⟨f,_,_,ac,zn,BK,Tl.stop C _ _,by rw[av,bt];lia,_,_,_,_,U⟩ (λj σ H4 _ h=>.inl<|.inl<|h.fst _ _ hA) ?_ ?_⟩
    .rintro j x σ zS hj ⟨Y,FS,EW,AR,AW,LA,QE,QI,v8,v9,wS,AC,rfl⟩;obtain⟨m,sB,T2,rfl,LV⟩:=Do LJ hj;have hg:=PU m<|am sB
     have a5:=hg.r;have bm:=hg.lo;have a7:=hg.le;have WS:=hg.hi;have bL:=(ag.mp sB).1;have aZ:j<4:=by lia
     rw[show sz.getD (Kb.pl "stop" a).bd 0=sz[a] from a9] at WS;refine⟨_,oz<|Y _ _ LV,U,U,?_⟩;refine⟨.inl ⟨U,_,oz AR⟩,c,10+m.r,U,by lia,λB7 AX=>?_⟩;refine⟨by show 5<=sizeLine;decide,λG1 PH=>?_⟩;have LM:=Ay (o:=HO.tup [V.str "line",V.str<|Dm c<|10+m.r,V.int m.sh,V.int m.lo,V.int m.hi]) PH;have aN:upd B7 G1 (HO.tup [V.str "line",V.str<|Dm c<|10+m.r,V.int m.sh,V.int m.lo,V.int m.hi]) G1=_a (.tup<|R.v ⟨"line",Dm c<|10+m.r,[.int m.sh,.int m.lo,.int m.hi]⟩):=Ai;generalize upd B7 G1 (HO.tup [V.str "line",V.str (Dm c (10+m.r)),V.int m.sh,V.int m.lo,V.int m.hi])=Xt at LM aN |-;have EV:=LM _ _<|AX _ _ AR
     have SS:=AW.length;refine⟨EW,EV,Aw<|by lia,?_⟩;refine⟨λb o e=>?_,_,EW++[V.ref G1],Ai,(Bv (Ao (AX.trans LM) AW) EV).snoc<|TupAt.upd ⟨G1,U,aN⟩ EV,?_,QE.line U,by rw[av,bt];lia,_,_,_,_,U⟩
     .rw[An (Ak e hD)];exact LM _ _<|AX _ _<|Y _ _ e
     .have a6:ll.take (j+1)=ll.take j++[m]:=by
       rw[List.take_add_one,show ll[j]? = _a m from sB];rfl
      rw[a6];exact LA.line F0 QE aZ (RD<|af a5) a3 (X _<|by lia) mb a7 WS hg.s1 hg.s2 bm<|by lia
    .rintro σ zS ⟨Y,FS,EW,AR,AW,LA,QE,QI,v8,v9,wS,AC,rfl⟩;rw[an (dt<|by lia)] at LA;exact⟨Y,_,_,AR,AW,LA,by lia,_,_,_,_,_,_,_,U⟩
 .rintro σ H4 ⟨s4,C,G,Z,zd,B,Bi,w5,w6,w7,w8,w9,bl,Zl,rfl⟩;rw[dt (by rw[K7,ah];lia),dt<|by rw[ah];lia] at B;exact q D C G H4 hD s4 Z zd B<|by lia
def qF(K:_s)(aB aP aM:_g)(H:Hp)(DS DP DK DR:_g)(c:_i)(sz pz:_b _d)(i8:_b Kl)(us:_b V)(rows:_b R)(vs:_b V):Prop:=H DS=_a (.lst (sz.map λn:_d=>V.int (n:_d)))/\H DP=_a (.lst (pz.map λn:_d=>V.int (n:_d)))/\(1<=sz.length/\sz.length<=5/\(∀s∈sz,1<=s/\s<=61)/\1<=pz.length/\pz.length<=4/\(∀z∈pz,1<=z/\z<=97))/\H DK=_a (.lst us)/\Paired (λz y=>IV DK H z y) i8 us/\Yd sz pz i8/\i8.length<=21/\(∃z∈i8,z.1.w = "stop")/\H DR=_a (.lst vs)/\Paired (λ(r:R) v=>TupAt H r.v v) rows vs/\JS K aB aP aM rows (Bj (Dm c) sz) (Jx (Dm c) pz<|Qh c) (Cy (Dm c) (i8.map (·.1))) (i8.map (·.2))/\rows.length<=150
inductive oX(K:_s)(aB aP aM:_g)(vs:_b V)(H:Hp)(Q:VK)(f6:XK):Prop
|mk(a:_g)(ns:_b _i)(_:vs=[.ref a])(_:Cp K H a (ns.map V.int))(_:ns.length<=63)(_:U_ K aB aP aM)(_:∀(W DS DP DK DR:_g) (c:_i) (sz pz:_b _d) (i8:_b Kl) (us:_b V) (rows:_b R) (AV:_b V) H',c=ns.getD 2 0->Al H H'->H' W=_a (.lst [.ref DS,.ref DP,.ref DK,.ref DR])->qF K aB aP aM H' DS DP DK DR c sz pz i8 us rows AV->Q (.ref W) H')
theorem ints_of:∀{xs:_b V},(∀y∈xs,∃c:_i,y=.int c)->∃cs:_b _i,xs=cs.map V.int
 |[],_=>⟨[],U⟩
 |y::xs,h=>by
  obtain⟨c,rfl⟩:=h y<|be ..;obtain⟨cs,rfl⟩:=ints_of λz a=>h z<|aT _ a;exact⟨c::cs,U⟩
theorem LK{lo hi:_t _i}{k:_i}:∀y∈stepV (ns.map V.int) lo hi k,∃c:_i,y=.int c:=λy a=>by
 obtain⟨c,_,e⟩:=ay.mp<|YL a;exact⟨c,e.symm⟩
theorem Ys(h:ns.length<=63):(stepV (ns.map V.int) (_a 3) (_a 63) 3).length<=20:=by
 unfold stepV;refine bo (kn _ _) ?_;have e:sliceBounds (_a 3) (_a 63) (_a 3) (ns.map V.int).length=(max 0<|min 3 ((ns.length:_d):_i),max 0<|min 63 ((ns.length:_d):_i),3):=by rw[ah];rfl
 rw[e];show (sliceRange (max 0<|min 3 ((ns.length:_d):_i)) (max 0<|min 63 ((ns.length:_d):_i)) 3).length<=20;unfold sliceRange;rw[ah,dQ];show (if (3:_i) > 0 then (if max 0 (min 3 ((ns.length:_d):_i))<max 0 (min 63 ((ns.length:_d):_i)) then (max 0 (min 63 ((ns.length:_d):_i)) - max 0 (min 3 ((ns.length:_d):_i))+3 - 1) / 3 else 0) else _).toNat<=20;rw[_o (by decide)];split <;> lia
theorem Xo:Aq f5 gK<|Ae sWd:=Bh
include N T in
theorem vO:BX P w K mg base BW 6 aD.Wd gK<|oX K aB aP aM:=by
 refine N.FWd.1.Dl Xo λH vs Q E f h=>?_;obtain⟨a,ns,rfl,x,p,F0,q⟩:=h;refine⟨_,(Af (BP (i:=1) Xo.nd U (Or.inr U)<|BL N.FCe (ZD N T) f<|Aa (pv 0)<|Aa Ac Ab)
  (Af (BP (i:=2) Xo.nd U (Or.inr U)<|BL N.FCe (ZD N T) f<|Aa (pv 0)<|Aa Ac Ab)
  (Af (BP (i:=3) Xo.nd U (Or.inl U)<|BL N.FSz (tM N T) f<|Aa (pv 2)<|Aa (Av Et (CV<|Aa Ac<|Aa Ac<|Aa Ac<|Aa Ac<|Aa Ac Ab) (Ar Bp (pv 1) Ac)<|λ_ _=>rfl)<|Aa Ac Ab)
  (Af (Q3 (i:=4) Xo.nd U U U (BR (osc:=Ae sWd) (N:=f5) U U<|by decide) (Dj U T.range<|Aa (Ar Bt Ac<|Ar Bp (Ar Cu (pv 1) Ac) Ac) Ab) (λ_ _ _ _=>CJ)<|λ_ _ _ _=>(Ar Bt Ac<|Ar Bp (BL N.FMx (KN N T) f<|Aa (pv 3)<|Aa (Ar Bt Ac<|pv 0) Ab)<|Av (Bu (K:=K) U) (CV<|Aa Ac<|Aa Ac<|Aa Ac<|Aa Ac Ab) (Ar Bp (Ar Cu (pv 2) Ac) Ac)<|λ_ _=>rfl))
  (Af (BP (i:=5) Xo.nd U (Or.inl U)<|BL N.FKs (xn N T) f<|Aa (Ar PJ (Qn (pv 0) (Ej Ac) (Ej Ac) Ac)<|CV<|Aa (Ar Bt (Ar Ff Ac<|pv 1) Ac) Ab)<|Aa (pv 3)<|Aa (pv 4) Ab)
  (Ag<|Ax<|CV<|Aa (pv 3)<|Aa (pv 4)<|Aa (pv 5)<|Aa (BL N.FRw (wD N T) f<|Aa (BL N.FCe (ZD N T) f<|Aa (pv 0)<|Aa Ac Ab)<|Aa (pv 3)<|Aa (pv 4)<|Aa (pv 5) Ab) Ab)))))),?_⟩
 refine⟨a,0,ns,U,x,λfirst _=>?_⟩;refine⟨a,1,ns,U,x,λe _=>?_⟩;refine⟨by show 5<=sizeLine;decide,λl1 aa=>?_⟩;obtain⟨H1,i6,t1,u1⟩:=Jp (o:=HO.lst [V.int 1,V.int 2,V.int 2,V.int 3,V.int 5]) aa;rw[i6];have f0:0<=first % 5/\first % 5<5:=⟨dc _<|by decide,cq _<|by decide⟩
 obtain⟨v,hv,hm⟩:=RG (xs:=[V.int 1,V.int 2,V.int 2,V.int 3,V.int 5]) (i:=first % 5) f0.1 f0.2;obtain⟨m,rfl,UE,MO⟩:∃m:_d,v=.int (m:_d)/\1<=m/\m<=5:=by
  simp only[Ê,Ï,Μ,ş] at hm;rcases hm with rfl | rfl | rfl | rfl | rfl
  .exact⟨1,U,by decide,by decide⟩
  .exact⟨2,U,by decide,by decide⟩
  .exact⟨2,U,by decide,by decide⟩
  .exact⟨3,U,by decide,by decide⟩
  .exact⟨5,U,by decide,by decide⟩
 refine⟨(by show (0:_i)<5;decide),_,_,oz u1,hv,?_⟩;refine⟨e,m,5,U,UE,MO,by decide,by decide,λC sz H3 W' s3 rj as Mc=>?_⟩;have NJ:=t1.trans s3;obtain⟨n,I,aw,Pw⟩:∃n:_d,1+first / 20 % 4=(n:_i)/\1<=n/\n<=4:=⟨(1+first / 20 % 4).toNat,by lia,by lia,by lia⟩
 refine⟨⟨by decide,by decide⟩,(by show (0:_i)<4;decide),_,U,by rw[I];lia,by rw[I];lia,?_⟩;rw[I,aI];have f4:0<=first / 5 % 4/\first / 5 % 4<4:=⟨dc _<|by decide,cq _<|by decide⟩
 obtain⟨v4,zd,UZ⟩:=RG (xs:=[V.int 12,V.int 12,V.int 12,V.int 97]) (i:=first / 5 % 4) f4.1 f4.2;obtain⟨d,rfl,XE,ZN⟩:∃m:_d,v4=.int (m:_d)/\1<=m/\m<=97:=by
  simp only[Ê,Ï,Μ,ş] at UZ;rcases UZ with rfl | rfl | rfl | rfl
  .exact⟨12,U,by decide,by decide⟩
  .exact⟨12,U,by decide,by decide⟩
  .exact⟨12,U,by decide,by decide⟩
  .exact⟨97,U,by decide,by decide⟩
 refine Fz (lo:=0) (n:=n) (λ_=>_h) (λi=>.int<|1+Bl e (60+i) % (d:_d)) (Aw<|by lia) (λi hi L D R k=>k L<|Al.refl L) (λi hi _ L D R k=>?_)<|λu H4 ac s4 uu=>?_
 .refine⟨_,_,U,by lia,by lia,by show 4<=sizeLine;decide,λl5 AJ=>?_⟩;refine⟨⟨by decide,by decide⟩,(by show (0:_i)<4;decide),_,_,oz Ai,zd,(by show (0:_i)<(d:_d);lia),k _<|Ay AJ⟩
 obtain⟨c,WO,ab,DJ⟩:∃c:_b _d,(((((_B n).map λ(i:_d)=>(0:_i)+(i:_i)).filter λ_=>_h).map λi=>V.int (1+Bl e (60+i) % (d:_d))))=(c.map λn:_d=>V.int (n:_d))/\c.length=n/\∀z∈c,1<=z/\z<=97:=by
  refine⟨(_B n).map λ(i:_d)=>(1+Bl e (60+(0+(i:_d))) % (d:_d)).toNat,?_,by simp,λz hz=>?_⟩
  .rw[bX.mpr (λ_ _=>rfl),bi,bi];refine iq λi _=>?_;have h1:0<=Bl e (60+(0+(i:_i))) % (d:_d):=dc _<|by lia
   show V.int (1+Bl e (60+(0+(i:_i))) % (d:_d))=V.int (((1+Bl e (60+(0+(i:_i))) % (d:_d)).toNat:_d):_i);rw[eK (by lia)]
  .obtain⟨i,_,rfl⟩:=ay.mp hz;have h1:0<=Bl e (60+(0+(i:_i))) % (d:_d):=dc _<|by lia
   have h2:Bl e (60+(0+(i:_i))) % (d:_d)<(d:_d):=cq _<|by lia
   lia
 rw[WO] at uu;clear WO;have r:=NJ.trans s4;have O:=s4 _ _ rj;refine⟨3,U,by decide,a,_,U,r.seq x,λB tS AJ=>?_⟩;have J:=Ay (o:=HO.lst<|stepV (ns.map V.int) (_a 3) (_a 63) 3) tS;have y:upd H4 B (HO.lst<|stepV (ns.map V.int) (_a 3) (_a 63) 3) B=_:=Ai;obtain⟨j,VX⟩:=ints_of<|LK (ns:=ns) (lo:=_a 3) (hi:=_a 63) (k:=3);have an:j.length<=20:=by
  have:=Ys (ns:=ns) p;rw[VX,ah] at this;exact this
 generalize upd H4 B (HO.lst (stepV (ns.map V.int) (_a 3) (_a 63) 3))=H5 at J y |-;rw[VX] at y;refine⟨.inl ⟨by decide,by decide⟩,by show 1<=sizeLine;decide,λF t9=>?_⟩;have Z:=Ay (o:=HO.lst [V.int (8 * first+4)]) t9;have u6:upd H5 F (HO.lst [V.int (8 * first+4)]) F=_a (.lst [V.int (8 * first+4)]):=Ai;refine⟨B,F,_,_,U,U,Z _ _ y,u6,DW (by rw[Ι];show j.length+1<=40000;lia),λX FE=>?_⟩;have t7:=Ay (o:=HO.lst<|j.map V.int++[V.int (8 * first+4)]) FE;have u7:upd (upd H5 F<|HO.lst [V.int (8 * first+4)]) X (HO.lst<|j.map V.int++[V.int (8 * first+4)]) X=_a (.lst<|(j++[8 * first+4]).map V.int):=by rw[ee];exact Ai
 have S:=J.trans<|Z.trans t7
 have G:=S _ _ O;have MM:=S _ _ uu;have wh:1<=sz.length/\sz.length<=5/\(∀s∈sz,1<=s/\s<=61)/\1<=c.length/\c.length<=4/\(∀z∈c,1<=z/\z<=97):=⟨by lia,by lia,λs D=>⟨(Mc s D).1,by have:=(Mc s D).2;lia⟩,by lia,by lia,DJ⟩;obtain⟨w1,w2,w3,w4,w5,w6⟩:=id wh;refine⟨X,C,u,j++[8 * first+4],sz,c,U,u7,by rw[av,bt];lia,G,MM,w1,w2,w3,w4,w5,w6,λA i8 us H8 TR s8 Lv U' qk l g=>?_⟩;have g:=g ⟨8 * first+4,by simp,by lia⟩;have WC:=r.trans<|S.trans s8
 have l8:=s8 _ _ G;have V':=s8 _ _ MM;clear u7 t7 u6 Z y J G MM;refine⟨a,2,ns,U,WC.seq x,λc2 M=>?_⟩;refine⟨c2,C,u,A,A,sz,c,i8,us,U,l8,V',w1,w2,w3,w4,w5,w6,Lv,U',qk,l,F0,λDR t OU H9 ap s9 E2 zn B9 Y=>?_⟩;refine⟨by show 4<=sizeLine;decide,λW hW=>?_⟩;have On:=Ay (o:=HO.lst [V.ref C,V.ref u,V.ref A,V.ref DR]) hW;have b:=s9.trans On;exact q W C u A DR c2 sz c i8 us t OU _ M (WC.trans b) Ai ⟨b _ _ l8,b _ _ V',wh,b _ _ Lv,Paired.Em U'<|λ_ _ z=>z.mono b,qk,l,g,On _ _ E2,Ao On zn,B9,Y⟩
theorem uq{c:TT}{t a u:TS}{D:Ends}(P:St->Hp->Prop)(b:∀D':Ends,(∀σ' H',P σ' H'->D'.nx σ' H')->qH c t a D' σ H)(d:∀σ' H',P σ' H'->u D σ' H'):oH (qH c t a) u D σ H:=b { D with nx:=u D } d
theorem gN{v:V}{Q:St->Hp->Prop}(h:Q (σ.set i<|some v) H):Ci i v σ H Q:=h
theorem pk{r n:_d}(b:xs.length=n)(h:(r:_i)<(n:_d)):∃v,v∈xs/\xs[r]? = _a v:=by
 have a:r<xs.length:=by lia
 exact⟨xs[r],de a,af a⟩
inductive qY(vs:_b V)(H:Hp)(Q:VK)(f6:XK):Prop
|mk(c len:_i)(T0:_g)(k1 k2:_d)(_:vs=[.int c,.ref T0,.int len])(_:H T0=_a (.tup [.int (k1:_d),.int (k2:_d)]))(_:1<=k1)(_:1<=k2)(_:k1+k2<=1000)(_:1<=len)(_:len<=1000)(_:∀(T:_g) (t:T3) H',Al H H'->H' T=_a (.tup (Jw t))->SN len t->Q (.ref T) H')
theorem U7:Aq ["_law_cell","_law_tracks","_law_length","_law_number","_law_keys","_law_knobs_here","_law_track","_law_first"] i5 (Ae sSn):=Bh
inductive vZ(H1:Hp)(c:_i)(T0:_g)(len:_i)(nb:_i)(k1:_d)(k2:_d)(σ':St)(H':Hp):Prop
|mk(t:_i)(_:0<=t)(_:t<1200)(_:H'=H1)(_:σ'=[_a (.int c),_a (.ref T0),_a (.int len),_a (.int nb),_a (.int (k1:_d)),_a (.int (k2:_d)),_a (.int t),_n])
include N T in
theorem sy:BX P w K mg base BW 2 aD.Sn i5 qY:=by
 refine N.FSn.1.Dl U7 λH vs Q E f h=>?_;obtain⟨c,len,W,b,e,rfl,D,h1,h2,h3,h4,h5,q⟩:=h;have hu:=Fi f;refine⟨_,(Af (BP (i:=3) U7.nd U (Or.inl U)<|BL N.FMx (KN N T) f<|Aa (Ar Cu (pv 0) Ac)<|Aa Ac Ab)
  (Af (bF (pv 1)<|HS U<|Bq (Bg (i:=4) U7.nd U<|Or.inl U)<|Bq (Bg (i:=5) U7.nd U<|Or.inl U) FP)
  (Af (BP (i:=6) U7.nd U (Or.inl U)<|Av (Bu (K:=K) U) (CV<|Aa (Ar Bp (pv 3)<|pv 4)<|Aa (Ar Bt (pv 4)<|Ar Bp (pv 3)<|pv 5)<|Aa (Ar Bt (pv 4)<|Ar Bp (pv 3)<|pv 5)<|Aa (Ar Bp (pv 3)<|Ar Bt (Ar Bt (pv 4)<|pv 5) Ac) Ab) (Ar Bp (pv 0) Ac)<|λ_ _=>rfl)
  (Af (Cg (Bb Ez (Ar Bp (Ar Cu (pv 3) Ac) Ac) Ac<|Bc _) (Ag<|BP (i:=6) U7.nd U (Or.inl U)<|Ar Bp (Ar Cu (pv 3) Ac) Ac) Be)
  (Af (BP (i:=7) U7.nd U (Or.inl U)<|Ar Bp (BL N.FMx (KN N T) f<|Aa (Ar Cu (pv 0) Ac)<|Aa Ac Ab)<|pv 2)
  (Ag<|Ax<|Bx<|Aa (pv 6)<|Aa (pv 7)<|Aa (Ar Bt (Ar Bt (pv 7) Ac)<|Ar Bp (BL N.FMx (KN N T) f<|Aa (Ar Cu (pv 0) Ac)<|Aa Ac Ab)<|Ar El (pv 2)<|pv 7) Ab)))))),?_⟩
 refine⟨⟨by decide,by decide⟩,_,_,U,by decide,by decide,?_⟩;generalize Bl (c / 4) 200=a;refine⟨_,oz D,U,U,?_⟩;refine⟨by lia,by lia,by lia,by lia,by show 4<=sizeLine;decide,λp1 Oy=>?_⟩;dsimp only[Ua,rI,rU,MK];have O:=È a (show ((b:_d):_i)≠0 by lia);have J:=Λ a (show (0:_i)<(b:_d) by lia);have L:=È a (show ((e:_d):_i)≠0 by lia);have G:=Λ a (show (0:_i)<(e:_d) by lia);have S:=È a (show ((b:_d):_i)+(e:_d)+3≠0 by lia);have R:=Λ a (show (0:_i)<(b:_d)+(e:_d)+3 by lia);generalize a % ((b:_d):_i)=y at O J |-;generalize a % ((e:_d):_i)=g at L G |-;generalize a % (((b:_d):_i)+((e:_d):_i)+3)=m at S R |-;obtain⟨Z,z,F,Y⟩:=Gz Oy [V.int y,V.int<|((b:_d):_i)+g,V.int<|((b:_d):_i)+g,V.int m];rw[z];clear z;refine⟨(by show (0:_i)<4;decide),?_⟩;have I:=È c (show (4:_i)≠0 by decide);have o:=Λ c (show (0:_i)<4 by decide);obtain⟨k,A⟩:∃k:_d,c % 4=(k:_d):=⟨_,(eK I).symm⟩;rw[A] at o;dsimp only;rw[A];obtain⟨v,B,X⟩:=pk (xs:=[V.int y,V.int<|((b:_d):_i)+g,V.int<|((b:_d):_i)+g,V.int m]) (r:=k) (n:=4) U o;obtain⟨t,rfl,j,l⟩:∃t:_i,v=.int t/\0<=t/\t<1200:=by
  simp only[Ê,Μ,ş] at B;rcases B with rfl | rfl | rfl | rfl
  .exact⟨_,U,by lia,by lia⟩
  .exact⟨_,U,by lia,by lia⟩
  .exact⟨_,U,by lia,by lia⟩
  .exact⟨_,U,by lia,by lia⟩
 refine⟨_,_,oz Y,Aj X,?_⟩;refine gN (i:=6) ?_;try dsimp only
 refine uq (vZ Z c W len a b e) (λD' s=>?_)<|λσ' H' h=>?_
 .refine⟨⟨by decide,by decide⟩,(by show (0:_i)<16;decide),U,Ed (λ_=>?_)<|λ_=>s _ _ ⟨t,j,l,U,U⟩⟩;have u:=È (a / 1024) (show (1200:_i)≠0 by decide);have p:=Λ (a / 1024) (show (0:_i)<1200 by decide);exact⟨⟨by decide,by decide⟩,(by show (0:_i)<1200;decide),s _ _ ⟨_,u,p,U,U⟩⟩
 obtain⟨t,j,l,rfl,rfl⟩:=h;refine⟨⟨by decide,by decide⟩,_,_,U,by decide,by decide,by lia,?_⟩;have x:=È (Bl (c / 4) 201) (show len≠0 by lia);have C:=Λ (Bl (c / 4) 201) (show 0<len by lia);dsimp only;generalize Bl (c / 4) 201 % len=d at x C |-;refine⟨⟨by decide,by decide⟩,_,_,U,by decide,by decide,by lia,by show 3<=sizeLine;decide,λT M=>?_⟩;have u:=È (Bl (c / 4) 202) (show len - d≠0 by lia);have p:=Λ (Bl (c / 4) 202) (show 0<len - d by lia);exact q T (t,d,d+1+Bl (c / 4) 202 % (len - d)) _ (F.trans<|Ay M) Ai ⟨j,l,x,by show d<d+1+Bl (c / 4) 202 % (len - d);lia,by show d+1+Bl (c / 4) 202 % (len - d)<=len;lia⟩
theorem jD(h:ns.length<=63):(stepV (ns.map V.int) (_a 4) (_a 46) 3).length<=14:=by
 unfold stepV;refine bo (kn _ _) ?_;have e:sliceBounds (_a 4) (_a 46) (_a 3) (ns.map V.int).length=(max 0<|min 4 ((ns.length:_d):_i),max 0<|min 46 ((ns.length:_d):_i),3):=by rw[ah];rfl
 rw[e];show (sliceRange (max 0<|min 4 ((ns.length:_d):_i)) (max 0<|min 46 ((ns.length:_d):_i)) 3).length<=14;unfold sliceRange;rw[ah,dQ];show (if (3:_i) > 0 then (if max 0 (min 4 ((ns.length:_d):_i))<max 0 (min 46 ((ns.length:_d):_i)) then (max 0 (min 46 ((ns.length:_d):_i)) - max 0 (min 4 ((ns.length:_d):_i))+3 - 1) / 3 else 0) else _).toNat<=14;rw[_o (by decide)];split <;> lia
theorem eQ(h:ns.length<=63):(stepV (ns.map V.int) (_a 5) (_a 47) 3).length<=14:=by
 unfold stepV;refine bo (kn _ _) ?_;have e:sliceBounds (_a 5) (_a 47) (_a 3) (ns.map V.int).length=(max 0<|min 5 ((ns.length:_d):_i),max 0<|min 47 ((ns.length:_d):_i),3):=by rw[ah];rfl
 rw[e];show (sliceRange (max 0<|min 5 ((ns.length:_d):_i)) (max 0<|min 47 ((ns.length:_d):_i)) 3).length<=14;unfold sliceRange;rw[ah,dQ];show (if (3:_i) > 0 then (if max 0 (min 5 ((ns.length:_d):_i))<max 0 (min 47 ((ns.length:_d):_i)) then (max 0 (min 47 ((ns.length:_d):_i)) - max 0 (min 5 ((ns.length:_d):_i))+3 - 1) / 3 else 0) else _).toNat<=14;rw[_o (by decide)];split <;> lia
theorem uY(l:_b _d):(l.map λn:_d=>((n:_d):_i)).sum=((l.sum:_d):_i):=by
 induction l with
 |nil=>rfl
 |cons a l b =>
  rw[df,ii,ii,b];lia
theorem L_:∀{l:_b _d},(∀z∈l,z<=m)->l.sum<=m * l.length
 |[],_=>ai _
 |a::l,h=>by
  have:=L_ (l:=l) λz b=>h z<|aT _ b
  have:=h a be;rw[ii,zdl,nX];lia
inductive qj(K:_s)(vs:_b V)(H:Hp)(Q:VK)(f6:XK):Prop
 |mk(a W DS DP DK DR:_g)(ns:_b _i)(sz:_b _d)(us:_b V):vs=[.ref a,.ref W]->Cp K H a (ns.map V.int)->ns.length<=63->H W=_a (.lst [.ref DS,.ref DP,.ref DK,.ref DR])->H DS=_a (.lst (sz.map λn:_d=>V.int (n:_d)))->1<=sz.length->sz.length<=5->(∀s∈sz,1<=s/\s<=61)->H DK=_a (.lst us)->1<=us.length->us.length<=21->(∀(L lS:_g) (len:_i) (ts:_b T3) (zs:_b V) H',Al H H'->H' L=_a (.lst [.int len,.ref lS])->Cz H' lS ts zs->1<=len->len<=24->(∀t∈ts,SN len t)->ts.length<=28->Q (.ref L) H')->qj K vs H Q f6
theorem rC:Aq jj k6<|Ae zR:=Bh
include N T in
theorem v_:BX P w K mg base BW 3 aD.Sq k6<|qj K:=by
 refine N.FSq.1.Dl rC λH vs Q E r h=>?_;obtain⟨a,W,DS,DP,DK,DR,b,sz,F,rfl,B,f,S,W',z1,z2,I,TR,u1,u2,q⟩:=h;have hu:=Fi r;refine⟨_,(Af (BP (i:=2) rC.nd U (Or.inr U)<|Ar Bt Ac<|Ar Bp (BL N.FMx (KN N T) r<|Aa (BL N.FCe (ZD N T) r<|Aa (pv 0)<|Aa Ac Ab)<|Aa Ac Ab) Ac)
  (Af (BP (i:=3) rC.nd U (Or.inr U)<|Bx<|Aa (A_ (OD U) U T.sum zld<|Aa (Av (Bu (K:=K) U) (pv 1) Ac<|λ_ _=>rfl) Ab)<|Aa (A_ BV U T.len dv<|Aa (Av (Bu (K:=K) U) (pv 1) Ac<|λ_ _=>rfl) Ab) Ab)
  (Ag<|Ax<|CV<|Aa (pv 2)<|Aa (Bm U (BR (osc:=Ae zR) (N:=jj) U U<|by decide) (BZ<|Ar PJ (Qn (pv 0) (Ej Ac) (Ej Ac) Ac)<|Qn (pv 0) (Ej Ac) (Ej Ac) Ac) (λ_ _ _ _=>CJ)<|λ_ _ _ _=>(BL N.FSn (sy N T) r<|Aa (pv 0)<|Aa (pv 4)<|Aa (pv 3) Ab)) Ab))),?_⟩
 refine⟨a,0,b,U,B,λM _=>⟨_,_,U,by decide,by decide,(by show (0:_i)<24;decide),?_⟩⟩;have l0:=È (Bl M 203) (show (24:_i)≠0 by decide);have l1:=Λ (Bl M 203) (show (0:_i)<24 by decide);obtain⟨len,O,X,e2⟩:∃len:_i,1+Bl M 203 % 24=len/\1<=len/\len<=24:=⟨_,U,by lia,by lia⟩;dsimp only[Ua,rU,MK];rw[O];clear O l0 l1;have ez:(sz.map λn:_d=>V.int (n:_d))=(sz.map λn:_d=>((n:_d):_i)).map V.int:=by rw[bi];rfl
 refine⟨_,_,oz S,Aj (j:=0) U,DS,sz.map λn:_d=>((n:_d):_i),U,oz<|by rw[W',ez],?_⟩;refine⟨λz p=>?_,by rw[ah];lia,?_⟩
 .obtain⟨m,hm,rfl⟩:=ay.mp p;have:=I m hm;lia
 rw[uY];have D:1<=sz.sum:=by
  cases sz with
  |nil=>cases z1
  |cons s l =>
   rw[ii];have:=(I s be).1;lia
 have ab:=L_ (m:=61) λz p=>(I z p).2;refine⟨_,_,oz S,Aj (j:=2) U,DK,F,U,oz<|.inl TR,by show 2<=sizeLine;decide,λT0 yy=>?_⟩;obtain⟨H1,d,G,t1⟩:=S6 yy [V.int ((sz.sum:_d):_i),V.int ((F.length:_d):_i)];rw[d];clear d;refine⟨3,U,by decide,a,_,U,G.seq B,λp5 tS AJ=>?_⟩;obtain⟨Y,d,u,t2⟩:=Gz tS<|stepV (b.map V.int) (_a 4) (_a 46) 3;rw[d];clear d;refine⟨3,U,by decide,a,_,U,(G.trans u).seq B,λp6 t9 IE=>?_⟩;obtain⟨H3,d,s3,t3⟩:=Gz t9<|stepV (b.map V.int) (_a 5) (_a 47) 3;rw[d];clear d;have la:=jD f;have lb:=eQ f;refine⟨p5,p6,_,_,U,U,s3 _ _ t2,t3,DW<|by lia,λp7 FE=>?_⟩;obtain⟨H4,d,s4,C⟩:=Gz FE<|stepV (b.map V.int) (_a 4) (_a 46) 3++stepV (b.map V.int) (_a 5) (_a 47) 3;rw[d];clear d;have SG:=u.trans<|s3.trans s4
 have x:(stepV (b.map V.int) (_a 4) (_a 46) 3++stepV (b.map V.int) (_a 5) (_a 47) 3).length<=28:=by rw[av];lia
 have e:∀y∈stepV (b.map V.int) (_a 4) (_a 46) 3++stepV (b.map V.int) (_a 5) (_a 47) 3,∃c:_i,y=.int c:=λy hy=>by
  rcases aE.mp hy with g | g
  .exact LK y g
  .exact LK y g
 generalize stepV (b.map V.int) (_a 4) (_a 46) 3++stepV (b.map V.int) (_a 5) (_a 47) 3=xs at C x e;refine⟨⟨_,oz C⟩,VH (K:=K) (SN len) (oz C) (Aw<|by lia) (λv hv A hs R k=>k A<|Al.refl A) (λv hv A hs R k=>?_)<|λlS H5 ts zs aa s5 A5 J n5=>?_⟩
 .obtain⟨c,rfl⟩:=e v hv;exact⟨c,len,T0,sz.sum,F.length,U,hs _ _<|SG _ _ t1,D,u1,by lia,X,by lia,λT t Y u u2 ok=>k T t Y u u2 ok⟩
 refine⟨by show 2<=sizeLine;decide,λL hL=>?_⟩;have Z:=Ay (o:=HO.lst [V.int len,V.ref lS]) hL;exact q L lS len ts zs _ (G.trans<|SG.trans<|s5.trans Z) Ai (A5.mono Z) X e2 J<|by lia
inductive Zw(K:_s)(vs:_b V)(H:Hp)(Q:VK)(f6:XK):Prop
|mk(a:_g)(ns:_b _i)(_:vs=[.ref a])(_:Cp K H a (ns.map V.int))(_:∀(b:_i) H',Al H H'->1<=b->b<=1000000007->Q (.int b) H')
theorem scBy:Aq gK gK<|Ae sBy:=Bh
include N T in
theorem uc:BX P w K mg base BW 2 aD.By gK<|Zw K:=by
 refine N.FBy.1.Dl scBy λH C Q E c h=>?_;obtain⟨a,p,rfl,o,q⟩:=h;have A:=Fi c;refine⟨_,Ag<|Ax<|Av (Bu (K:=K) U) (CV<|Aa Ac<|Aa Ac<|Aa Ac<|Aa (Ar Bt (Ar Yy Ac Ac) Ac) Ab) (Ar Bp (BL N.FMx (KN N T) c<|Aa (BL N.FCe (ZD N T) c<|Aa (pv 0)<|Aa Ac Ab)<|Aa Ac Ab) Ac)<|λ_ _=>rfl,?_⟩;have u:(10:_i) ^ (9:_i).toNat=1000000000:=by decide
 refine⟨⟨by decide,by decide,by decide⟩,by show 4<=sizeLine;decide,λB z=>?_⟩;obtain⟨x,i,g,l⟩:=Gz z [V.int 1,V.int 1,V.int 3,V.int<|(10:_i) ^ (9:_i).toNat+7];rw[i];clear i;refine⟨a,1,p,U,g.seq o,λb _=>⟨_,_,U,by decide,by decide,(by show (0:_i)<4;decide),?_⟩⟩;have m:=È (Bl b 204) (show (4:_i)≠0 by decide);have f:=Λ (Bl b 204) (show (0:_i)<4 by decide);obtain⟨d,j⟩:∃d:_d,Bl b 204 % 4=(d:_d):=⟨_,(eK m).symm⟩;rw[j] at f;dsimp only[Ua,rU,MK];rw[j];obtain⟨v,e,k⟩:=pk (xs:=[V.int 1,V.int 1,V.int 3,V.int<|(10:_i) ^ (9:_i).toNat+7]) (r:=d) (n:=4) U f;obtain⟨t,rfl,s,y⟩:∃t:_i,v=.int t/\1<=t/\t<=1000000007:=by
  rw[u] at e;simp only[Ê,Μ,ş] at e;rcases e with rfl | rfl | rfl | rfl
  .exact⟨_,U,by decide,by decide⟩
  .exact⟨_,U,by decide,by decide⟩
  .exact⟨_,U,by decide,by decide⟩
  .exact⟨_,U,by decide,by decide⟩
 exact⟨_,_,oz l,Aj k,q t x g s y⟩
inductive m8(B:M7)(vs:_b V)(H:Hp)(Q:VK)(f6:XK):Prop
|mk(a:_g)(ts:_b T3)(ys:_b V)(len k:_i)(_:vs=[.int len,.ref a,.int k])(_:Cz H a ts ys)(_:ys.length<64)(_:∀t∈ts,SN len t)(_:1<=k)(_:k<=2000000000)(_:0<=len)(_:len<=50)(_:Tb B H)(_:∀(r:_g)(hs:_b T3)(H':Hp),Kp B H H'->Tb B H'->dU H H' r (len * k) hs->Canon hs->(∀tr t,DN hs tr t ↔ DN (ts.map (kJ k)) tr t)->hs.length<=ts.length->Q (.ref r) H')
theorem scMa:Aq ew ew<|Ae sMa:=Bh
theorem tH(N:Vb K mg C c1 aD)(T:Txt K w.params mg C cR aN aK aB aP aM)(z:Hl mg base c1 P1):BX P w K mg base BW 6 aD.Ma ew<|m8<|tb P1:=by
 have i:BX P w K mg base BW 5 aD.R1 f7<|Ro.Ol<|tb P1:=xY N T z
 refine N.FMa.1.Dl scMa λH vs Q E Z h=>?_;obtain⟨a,d,ys,len,k,rfl,c,hz,ok,k1,k2,G,V,I,q⟩:=h;refine⟨_,@Ag _ _ _<|@Ax _ _ _ _<|BL N.FR1 i Z<|@BJ _ _ _ _ _ U (Ar Ff (pv 0)<|pv 2)<|@BJ _ _ _ _ _ U (oR U (Ub (osc:=Ae sMa) (N:=ew) U U<|by decide) (BZ<|pv 1) (λ_ _ _ _=>CJ)<|λ_ _ _ _=>(@Bx _ _ _ _ _<|@BJ _ _ _ _ _ U (pv 0)<|@BJ _ _ _ _ _ U (Ar Ff (pv 1)<|pv 5)<|@BJ _ _ _ _ _ U (Ar Ff (pv 2)<|pv 5) Ab)) Ab,?_⟩;have l0:=c.len;have b:0<=k:=by lia
 have m1:len * k<=50 * k:=gx V b;have M:0<=len * k:=kN G b;refine⟨.inr ⟨by lia,by lia⟩,⟨_,oz c.l⟩,PB (K:=K) (l:=d) (vs:=ys) Jw (λ_=>_h) (λx=>Jw<|kJ k x) (oz c.l) c.p (λx=>⟨_,_,_,U⟩) (Aw<|by lia) (λx Y J S n e f j R m=>m f<|Al.refl f) (λx Y _ J S n e f j R m=>?_)<|λD X p hD o hl v=>?_⟩
 .cases e;exact⟨.inr ⟨by lia,by lia⟩,.inr ⟨by lia,by lia⟩,by show 3<=sizeLine;decide,λt g=>m _ _ (Ay g) ⟨t,U,Ai⟩⟩
 rw[bX.mpr (λ_ _=>rfl)] at v;have u:Cz X D (d.map<|kJ k) p:=⟨hl,CG _ v⟩;have y:=u.len;rw[ah] at y;refine⟨D,d.map<|kJ k,p,len * k,U,M,by lia,u,by lia,λt g=>?_,I.same o,λr j B L t3 R3 O n s=>?_⟩
 .obtain⟨x,xm,rfl⟩:=ay.mp g;obtain⟨o1,o2,F,o4,o5⟩:=ok x xm;exact⟨o1,o2,kN F b,rz o4<|by lia,gx o5 b⟩
 .obtain⟨A,z',W,e',A'⟩:=R3;exact q r j B ((Kp.of o).trans L) t3 ⟨A,z',o.free W,e',A'⟩ O n<|by rw[ah] at s;exact s
inductive LsB(H:Hp)(p:_d)(v:V):Prop
|mk(L:_)(_:v=.ref L)(_:H L=_a (.lst (nV (Wd.mem p))))
inductive rM(vs:_b V)(H:Hp)(Q:VK)(f6:XK):Prop
|mk(a:_g)(ps:_b _d)(ws:_b V)(k:_i)(_:vs=[.ref a,.int k])(_:H a=_a (.lst ws))(_:Paired (LsB H) ps ws)(_:ps.length<=24)(_:1<=k)(_:k<=1000000007)(_:∀p∈ps,(Wd.mem p).length<=388)(_:∀(r:_g) (hs:_b T3) (zs:_b V) H',Al H H'->Cz H' r hs zs->Canon hs->(∀x t,DN hs x t ↔ 0<=x/\0<=t/\∃p,ps[(t / k).toNat]? = _a p/\p.testBit x.toNat=_h)->Q (.ref r) H')
def j_(k:_i)(ps:_b _d):_b<|_i×Nat:=ps.zipIdx.map λq=>(((q.2:_d):_i) * k,q.1)
theorem Ke{k:_i}{ps:_b _d}:(j_ k ps)[i]? = (ps[i]?).map λp=>(((i:_d):_i) * k,p):=by
 unfold j_;rw[ar,fT,K2,z6];rfl
theorem Qe{k:_i}{ps:_b _d}{a:_i×_d}(h:(j_ k ps)[i]? = _a a):ps[i]? = _a a.2/\a.1=((i:_d):_i) * k:=by
 rw[Ke] at h;obtain⟨p,e,rfl⟩:=aS.mp h;exact⟨e,U⟩
theorem Y6{k:_i}(k1:1<=k)(i:_d):((i:_d):_i) * k+k=((i+1:_d):_i) * k:=by
 rw[show ((i+1:_d):_i)=((i:_d):_i)+1 from by lia,BN,Int.one_mul]
theorem rH{k:_i}(k1:1<=k)(ps:_b _d):yN<|j_ k ps:=λi a b d c=>by
 have f:=(Qe d).2;have e:=(Qe c).2;rw[<-Y6 k1] at e;exact⟨by lia,λ_=>by lia⟩
theorem rG{k:_i}(k1:1<=k)(ps:_b _d)(x:_d)(t:_i):RC (j_ k<|ps++[0]) (ps.length+1) x t ↔ 0<=t/\∃p,ps[(t / k).toNat]? = _a p/\p.testBit x=true:=by
 constructor
 .rintro⟨j,a,b,v,h,c,z,u,q⟩;obtain⟨f,A⟩:=Qe h;have w:=(Qe c).2;rw[ce (by lia)] at f;have s:0<=((j:_d):_i) * k:=kN (by lia)<|by lia
  have e:t / k=((j:_d):_i):=by
   have r:((j:_d):_i)<=t / k:=Int.le_ediv_of_mul_le (by lia)<|by lia
   have y:t / k<((j+1:_d):_i):=Int.ediv_lt_of_lt_mul (by lia)<|by lia
   lia
  exact⟨by lia,a.2,by rw[e,aI];exact f,q⟩
 .rintro⟨n,p,e,i⟩;have l:0<=t / k:=pT n<|by lia
  obtain⟨j,d⟩:∃j:_d,t / k=((j:_d):_i):=⟨_,(eK l).symm⟩;rw[d,aI] at e;have o:=(ag.mp e).1;have m:((j:_d):_i) * k<=t:=by rw[<-d];exact Pf t<|by lia
  have g:t<((j:_d):_i) * k+k:=by
   have:=Int.lt_ediv_add_one_mul_self t (show 0<k by lia);rw[d,BN,om] at this;exact this
  obtain⟨b,c⟩:∃b,(ps++[0])[j+1]? = _a b:=⟨_,Ã<|by rw[ς];show j+1<ps.length+1;lia⟩;refine⟨j,(((j:_d):_i) * k,p),(((j+1:_d):_i) * k,b),by lia,by rw[Ke,ce o,e];rfl,by rw[Ke,c];rfl,m,?_,i⟩;show t<((j+1:_d):_i) * k;rw[<-Y6 k1];exact g
structure sV(ts:_b T3)(sn:_d->_i)(hd:_d)(la:_i):Prop where
 a:∀g∈ts,0<=g.1/\g.2.1<g.2.2/\g.2.2<=la
 b:∀x,hd.testBit x=_h->sn x<=la
 s:∀g∈ts,hd.testBit g.1.toNat=_h->g.2.2<sn g.1.toNat
 n:ts.Pairwise λg h=>g.1=h.1->g.2.2<h.2.1
theorem sV.step{ts:_b T3}{sn:_d->_i}{j tau:_i}(h:sV ts sn hd j)(lt:j<tau):sV (cls ts sn hd m tau) (λx=>if (Gi m hd).testBit x=_h then tau else sn x) m tau:=by
 have i:∀g∈(Wd.mem<|Gi hd m).map (λx:_d=>((((x:_d):_i),sn x,tau):T3)),∃x:_d,hd.testBit x=_h/\m.testBit x=_r/\g=(((x:_d):_i),sn x,tau):=λg b=>by
  obtain⟨x,a,rfl⟩:=ay.mp b;have:=Wd.mem_iff.mp a;rw[Ec,eI,fz] at this;exact⟨x,this.1,this.2,U⟩
 refine⟨λg b=>?_,λx a=>?_,λg b a=>?_,fk.mpr ⟨h.n,?_,λg b c d e=>?_⟩⟩
 .rcases aE.mp b with z | z
  .have:=h.a g z;exact⟨this.1,this.2.1,by lia⟩
  .obtain⟨x,f,_,rfl⟩:=i g z;have:=h.b x f;exact⟨by show (0:_i)<=(x:_d);lia,by show sn x<tau;lia,_aF _⟩
 .by_cases g:(Gi m hd).testBit x=_h
  .rw[_o g];exact nc _
  .rw[_l g];rw[Ec,a,fw,fz,hZ] at g;have:=h.b x g;lia
 .rcases aE.mp b with z | z
  .have n:=h.a g z;by_cases c:(Gi m hd).testBit g.1.toNat=_h
   .rw[_o c];lia
   .rw[_l c];rw[Ec,a,fw,fz,hZ] at c;exact h.s g z c
  .obtain⟨x,_,k,rfl⟩:=i g z;have a:m.testBit (((x:_d):_i).toNat)=true:=a;rw[aI,k] at a
   cases a
 .rw[ft];refine (Wd.Fy<|Gi hd m).imp λ{x y} l e=>?_;have e:((x:_d):_i)=((y:_d):_i):=e;lia
 .obtain⟨x,f,_,rfl⟩:=i c d;have e:g.1=((x:_d):_i):=e;have:=h.s g b<|by rw[e,aI];exact f
  rw[e,aI] at this;exact this
theorem sV.sep{ts:_b T3}{sn:_d->_i}{f:_i}(h:sV ts sn hd f):Sep ts/\ts.Nodup:=by
 refine⟨⟨λg a=>(h.a g a).2.1,λg a k b e=>?_⟩,h.n.imp_of_mem λ{g k} a _ z e=>?_⟩
 .obtain⟨i,d,rfl⟩:=io a;obtain⟨j,c,rfl⟩:=io b;have pw:=eS.mp h.n;rcases og i j with l | l | l
  .exact .inr<|.inl<|pw i j d c l e
  .subst l;exact .inl U
  .exact .inr<|.inr<|pw j i c d l e.symm
 .subst e;have:=z U;have:=(h.a g a).2.1;lia
structure RX(kvs:_b<|Key×V)(S:_d->Prop)(g:_d->_i):Prop where
 k:∃kk:_b _d,kvs.map (·.1)=kk.map (λx:_d=>(_R ((x:_d):_i):Key))/\kk.Nodup/\∀x,x∈kk ↔ S x
 v:∀x:_d,S x->Cv kvs (_R ((x:_d):_i))=_a (.int<|g x)
theorem Qw{x y:_d}(e:(_R ((x:_d):_i):Key)=_R ((y:_d):_i)):x=y:=by
 have:=Š e;lia
theorem RX.no{S:_d->Prop}{g:_d->_i}(h:RX kvs S g){x:_d}(f:¬ S x):Cv kvs (_R ((x:_d):_i))=none:=by
 cases e:Cv kvs (_R ((x:_d):_i)) with
 |none=>rfl
 |some v =>
  obtain⟨i,d,_,b⟩:=h.k;have:=eO e;rw[d] at this;obtain⟨y,a,c⟩:=ay.mp this;rw[Qw c] at a;exact _D ((b x).mp a) f
theorem RX.con{S a:_d->Prop}{g g':_d->_i}(h:RX kvs S g)(e:∀x,S x ↔ a x)(d:∀x,S x->g x=g' x):RX kvs a g':=by
 obtain⟨j,i,f,c⟩:=h.k;exact⟨⟨j,i,f,λx=>(c x).trans<|e x⟩,λx b=>by rw[<-d x ((e x).mpr b)];exact h.v x<|(e x).mpr b⟩
theorem RX.len{S:_d->Prop}{g:_d->_i}(h:RX kvs S g){l:_b _d}(c:∀x,S x->x∈l):kvs.length<=l.length:=by
 obtain⟨f,d,b,a⟩:=h.k;have:=congrArg Ρ d;rw[ah,ah] at this;rw[this];exact Ro.Ip b λx e=>c x<|(a x).mp e
theorem aQ(kvs:_b<|Key×V)(k j:Key)(b:j≠k):Cv (Jr kvs k) j=Cv kvs j:=by
 unfold Jr
 induction kvs with
 |nil=>rfl
 |cons p l a =>
  rw[eJ];by_cases g:p.1=k
  .rw[_l (by simp[g]),a,DY<|λe=>b<|e.symm.trans g]
  .rw[_o (by simp[g])];by_cases e:p.1=j
   .rw[Dh e,Dh e]
   .rw[DY e,DY e,a]
theorem RX.del{S:_d->Prop}{g:_d->_i}(h:RX kvs S g)(x:_d):RX (Jr kvs<|_R ((x:_d):_i)) (λy=>S y/\y≠x) g:=by
 obtain⟨i,f,d,c⟩:=h.k;refine⟨⟨i.filter λy=>decide (y≠x),?_,d.filter _,λy=>?_⟩,λy a=>?_⟩
 .have b:(Jr kvs<|_R ((x:_d):_i)).map (·.1)=(kvs.map (·.1)).filter λz=>decide (z≠(_R ((x:_d):_i):Key)):=by
   unfold Jr;rw[fm];rfl
  rw[b,f,fm];refine congrArg _<|G4 λy _=>?_
  show decide ((_R ((y:_d):_i):Key)≠_R ((x:_d):_i))=decide (y≠x);exact _ar.mpr ⟨λn e=>n<|by rw[e],λn e=>n<|Qw e⟩
 .rw[cy,c,_N]
 .rw[aQ _ _ _ (λe=>a.2<|Qw e)];exact h.v y a.1
theorem RX.snoc{S:_d->Prop}{g:_d->_i}(h:RX kvs S g){x:_d}(d:¬ S x)(t:_i):RX (kvs++[((_R ((x:_d):_i):Key),V.int t)]) (λy=>S y \/ y=x) (λy=>if y=x then t else g y):=by
 obtain⟨m,k,j,c⟩:=h.k;refine⟨⟨m++[x],by rw[ee,ee,k];rfl,?_,λy=>?_⟩,λy i=>?_⟩
 .rw[oi];refine⟨j,by simp,λa f b l=>?_⟩;rw[al.mp l];exact λe=>d<|(c x).mp<|e ▸ f
 .rw[aE,al,c]
 .rw[Gx _ _ _ _ (h.no d)];by_cases e:y=x
  .rw[_o (by rw[e]),_o e]
  .rw[_l λz=>e<|Qw z,_l e];exact h.v y<|i.elim id λz=>_D z e
theorem RX.js{S:_d->Prop}{g:_d->_i}(h:RX kvs S g)(b:∀x,S x ↔ m.testBit x=_h):∃js:_b _i,kvs.map (·.1)=js.map _R/\∀ns:_b _i,ns.Perm js->ns.Pairwise (· <= ·)->ns.map V.int=nV (Wd.mem m):=by
 obtain⟨l,i,n,d⟩:=h.k;refine⟨l.map λx:_d=>((x:_d):_i),by rw[i,bi];rfl,λns c pw=>?_⟩;have f:ns.Nodup:=c.symm.nodup (by
  rw[List.Nodup,ft];exact n.imp λk e=>k<|by lia)
 have lt:ns.Pairwise (· < ·):=(kX.mpr ⟨pw,f⟩).imp λh=>by lia
 have j:ns=(Wd.mem m).map λx:_d=>((x:_d):_i):=by
  refine Ul lt ?_ λz=>?_
  .rw[ft];exact (Wd.Fy m).imp λh=>by lia
  .rw[c.mem_iff,ay,ay];constructor
   .rintro⟨x,a,rfl⟩;exact⟨x,Wd.mem_iff.mpr<|(b x).mp<|(d x).mp a,U⟩
   .rintro⟨x,a,rfl⟩;exact⟨x,(d x).mpr<|(b x).mpr<|Wd.mem_iff.mp a,U⟩
 rw[j,bi];rfl
theorem jH{l:_b _d}(h:l.Pairwise (· < ·))(b:j<l.length):l[j] ∉ l.take j:=λa=>by
 obtain⟨i,c,e⟩:=io a;rw[cE] at c;rw[E1] at e;have:=eS.mp h i j (by lia) b<|by lia
 lia
theorem uG(k:_d)(l:_b _d):inV (.int (k:_d)) (nV l)=decide (k∈l):=by
 unfold inV nV;rw[ow,dA,gE,_N];constructor
 .rintro⟨y,b,e⟩;have a:decide (((y:_d):_i)=(k:_d))=true:=e;have:=_G a;have:y=k:=by lia
  subst this;exact b
 .intro h;refine⟨k,h,?_⟩;show decide (((k:_d):_i)=(k:_d))=_h;exact _v U
theorem Tt:Aq eo mu<|Ae yS:=Bh
inductive gn(H5:Hp)(pS:_g)(dS:_g)(k:_i)(qs:_b _d)(a:_g)(i:_d)(σ:St)(Hx:Hp):Prop
|mk(_:Kq H5 Hx pS dS)(ts:_b T3)(ys:_b V)(kvs:_b (Key × V))(st:_d->_i)(hd:_d)(lt:_i)(v4 v5 v6:_t V)(_:Cz Hx pS ts ys)(_:Hx dS=_a (.dK kvs))(_:RX kvs (λx=>hd.testBit x=_h) st)(_:(Wd.mem hd).length<=388)(_:Rn (j_ k qs) i ts (λx=>st x * k) hd lt)(_:sV ts (λx=>st x * k) hd<|(((i:_d):_i) - 1) * k)(_:ts.length<=388 * i)(_:σ=[_a (.ref a),_a<|.int k,_a<|.ref pS,_a<|.ref dS,v4,v5,v6,_n])
theorem gn.fst{e:Hp}{b:_g}{d:_g}{k:_i}{f:_b _d}{c:Hp}(h:gn e b d k f a i σ c):Kq e c b d:=by
 cases h;assumption
inductive dX(H5:Hp)(pS:_g)(dS:_g)(pK:_g)(hd:_d)(ts:_b T3)(m:_d)(st:_d->_i)(k:_i)(i:_d)(a:_g)(lm:_g)(j:_d)(σ:St)(Hy:Hp):Prop
|mk(_:Kq H5 Hy pS dS)(_:Hy pK=_a (.lst (nV (Wd.mem hd))))(ys:_b V)(kv:_b (Key × V))(v6:_t V)(_:Cz Hy pS (ts++(((Wd.mem hd).take j).filter λx=>!m.testBit x).map λx:_d=>(((x:_d):_i),st x * k,((i:_d):_i) * k)) ys)(_:Hy dS=_a (.dK kv))(_:RX kv (λx=>hd.testBit x=_h/\¬ (x∈(Wd.mem hd).take j/\m.testBit x=_r)) st)(_:σ=[_a (.ref a),_a<|.int k,_a<|.ref pS,_a<|.ref dS,_a<|.int ((i:_d):_i),_a<|.ref lm,v6,_n])
theorem dX.snd{f:Hp}{g:_g}{e:_g}{c:_g}{ts:_b T3}{st:_d->_i}{k:_i}{d:_g}{b:Hp}(h:dX f g e c hd ts m st k i a d j σ b):b c=_a (.lst<|nV<|Wd.mem hd):=by
 cases h;assumption
inductive jb(H5:Hp)(pS:_g)(dS:_g)(ts:_b T3)(st:_d->_i)(k:_i)(hd:_d)(m:_d)(i:_d)(ys:_b V)(a:_g)(lm:_g)(j:_d)(σ:St)(Hz:Hp):Prop
|mk(_:Kq H5 Hz pS dS)(_:Cz Hz pS (cls ts (λx=>st x * k) hd m<|((i:_d):_i) * k) ys)(kv:_b<|Key × V)(v6:_t V)(_:Hz dS=_a (.dK kv))(_:RX kv (λx=>(hd.testBit x=_h/\m.testBit x=_h) \/ x∈(Wd.mem m).take j) (λx=>if (Gi m hd).testBit x=_h then ((i:_d):_i) else st x))(_:σ=[_a (.ref a),_a<|.int k,_a<|.ref pS,_a<|.ref dS,_a<|.int ((i:_d):_i),_a<|.ref lm,v6,_n])
theorem jb.fst{d:Hp}{e:_g}{c:_g}{ts:_b T3}{st:_d->_i}{k:_i}{f:_g}{b:Hp}(h:jb d e c ts st k hd m i ys a f j σ b):Kq d b e c:=by
 cases h;assumption
include N T in
theorem xf:BX P w K mg base BW 1 aD.Ru mu rM:=by
 refine N.FRu.1.Dl Tt λH vs Q E hr h=>?_;obtain⟨a,ps,ws,k,rfl,hA,P0,hl,k1,k2,hm,q⟩:=h;have hu:=Fi hr;refine⟨_,(Af (BP (i:=2) Tt.nd U (Or.inl U)<|CV Ab)
  (Af (BP (i:=3) Tt.nd U (Or.inl U) Iu)
  (Af (DQ _U U (Kw U T.enumerate<|Aa (Ar PJ (pv 0)<|CV<|Aa (CV Ab) Ab) Ab) (HS U<|Bq (Bg (i:=4) Tt.nd U<|Or.inl U)<|Bq (Bg (i:=5) Tt.nd U<|Or.inl U) FP) (Af (DQ _U U (BZ<|A_ (Ku U) U T.sorted fb<|Aa (pv 3) Ab) (Bg (i:=6) Tt.nd U<|Or.inl U)<|Ag<|Cg (Bb (Ja U) (pv 6) (pv 5) U) (Ag<|C_<|E_ bE cr cw CZ (pv 2)<|Aa (Bx<|Aa (pv 6)<|Aa (Ar Ff (jU (pv 3) (pv 6) ⟨U,U,U,U⟩)<|pv 1)<|Aa (Ar Ff (pv 4)<|pv 1) Ab) Ab) Be)
  (Ag<|DQ _U U (BZ<|pv 5) (Bg (i:=6) Tt.nd U<|Or.inl U)<|Ag<|C_<|R4 (pv 3) (pv 6) (pv 4) ⟨U,U,U,U⟩)))
  (Af (BP (i:=7) Tt.nd U (Or.inl U)<|A_ (KH U) U T.sorted fb<|Aa (Wc (N':=e7) U (Nv (osc:=Ae yS) (N:=eo) U U<|by decide) (BZ<|pv 2) (λ_ _ _ _=>CJ)<|λ_ _ _ _=>(Bx<|Aa (pv 1)<|Aa (pv 0)<|Aa (pv 2) Ab)) Ab)
  (Ag<|Ax<|Wc (N':=e7) U (Nv (osc:=Ae yS) (N:=eo) U U<|by decide) (BZ<|pv 7) (λ_ _ _ _=>CJ)<|λ_ _ _ _=>(Bx<|Aa (pv 1)<|Aa (pv 0)<|Aa (pv 2) Ab)))))),?_⟩
 refine⟨cK _,λO BI=>?_⟩;obtain⟨H1,d,s1,u1⟩:=Gz BI [];rw[d];clear d;refine λf BU=>?_;obtain⟨H2,d,s2,u2⟩:=Jp (o:=HO.dK []) BU;rw[d];have ab:O≠f:=Ak u1 BU;refine⟨by show 0<=sizeLine;decide,λl3 rj=>?_⟩;obtain⟨H3,d,s3,u3⟩:=Gz rj [];rw[d];clear d;refine⟨by show 1<=sizeLine;decide,λl4 uu=>?_⟩;obtain⟨H4,d,s4,u4⟩:=Gz uu [V.ref l3];rw[d];clear d;have ap:Al H H4:=s1.trans<|s2.trans<|s3.trans s4
 have lu:ws.length=ps.length:=P0.length.symm;refine⟨a,l4,_,_,U,U,ap _ _ hA,u4,DW (by rw[lu];show _+1<=_;lia),λlR AF=>?_⟩;obtain⟨H5,d,s5,u5⟩:=Gz AF<|ws++[V.ref l3];rw[d];clear d;have si:=ap.trans s5;have P5:Paired (λ(p:_d) v=>∃L,v=V.ref L/\L≠O/\H5 L=_a (.lst<|nV<|Wd.mem p)) (ps++[0])<|ws++[V.ref l3]:=FN (Paired.Em P0 λ_ _ ⟨L,e,g⟩=>⟨L,e,Ak g BI,si _ _ g⟩)<|.cons ⟨l3,U,_T<|Ak (s2 _ _ u1) rj,(s4.trans s5) _ _ u3⟩ .nil
 have uS:=(s2.trans<|s3.trans<|s4.trans s5) _ _ u1;have Fm:=(s3.trans<|s4.trans s5) _ _ u2;have a8:lR≠O:=_T<|Ak ((s2.trans<|s3.trans s4) _ _ u1) AF
 have bb:lR≠f:=_T<|Ak ((s3.trans s4) _ _ u2) AF
 have fS:H O=none:=BI;have fD:H f=none:=s1.free BU;have aK:∀p∈ps++[0],(Wd.mem p).length<=388:=λp hp=>by
  rcases aE.mp hp with g | g
  .exact hm p g
  .rw[al.mp g];exact cK _
 have lr:(ws++[V.ref l3]).length=ps.length+1:=by rw[av,lu];rfl
 have lp:(ps++[0]).length=ps.length+1:=by rw[av];rfl
 have la:(j_ k<|ps++[0])[ps.length]? = _a (((ps.length:_d):_i) * k,0):=by rw[Ke,ci<|ai _,iN];rfl
 have KP:=rH k1<|ps++[0]
 have fin:=rG k1 ps;clear s1 s2 s3 s4 s5 u1 u2 u3 u4 rj uu AF ap P0 hm BU BI;generalize ws++[V.ref l3]=us at u5 P5 lr;generalize bm:ps++[0]=qs at P5 aK lp la KP fin;refine⟨lR,U,⟨_,oz u5⟩,Kr (K:=K) (a:=lR) (xs:=us) (gn H5 O f k qs a) ⟨λ_ _ _ _ e=>e,[],[],[],λ_=>0,0,0,_,_,_,⟨uS,.nil⟩,Fm,⟨⟨[],U,.nil,λx=>by rw[ø];simp⟩,λx u=>by rw[ø] at u;cases u⟩,Ε _,?_,⟨λ_ h=>(nomatch h),(λx u=>by rw[ø] at u;cases u),λ_ h=>(nomatch h),.nil⟩,Ε _,U⟩ (λi σ Hx _ h=>oz (h.fst _ _ a8 bb u5)) ?_ ?_⟩
 .rw[show (λx:_d=>(0:_i) * k)=λ_=>0 from funext λ_=>Int.zero_mul k];exact Rn.zero _
 case refine_3 =>
  rintro σ Hx ⟨B,s,W,an,st,c,lt,v4,v5,v6,A,r,D,a5,R,X3,l1,rfl⟩;rw[lr] at R l1;obtain⟨rfl,rfl⟩:c=0/\lt=((ps.length:_d):_i) * k:=by
   rcases R.p with⟨z,_⟩ | ⟨j,ej,e⟩
   .lia
   .obtain rfl:j=ps.length:=by lia
    rw[la] at e
    cases e;exact⟨U,U⟩
  have sH:Al H Hx:=λb o e=>B b o (Ak e fS) (Ak e fD)<|si _ _ e
  have ly:=A.len;obtain⟨sp,nd⟩:=X3.sep;refine⟨⟨_,oz A.l⟩,PB (K:=K) (l:=s) (vs:=W) Jw (λ_=>_h) (λt=>Jw (t.2.1,t.1,t.2.2)) (oz A.l) A.p (λt=>⟨_,_,_,U⟩) (Aw<|by lia) (λx u v1 v2 v3 e H' hs R kk=>kk H'<|Al.refl H') (λx u _ v1 v2 v3 e H' hs R kk=>?_)<|λD9 H9 z9 U2 s9 l9 p9=>?_⟩
  .cases e;exact⟨by show 3<=sizeLine;decide,λt ht=>kk _ _ (Ay ht) ⟨t,U,Ai⟩⟩
  rw[bX.mpr (λ_ _=>rfl)] at p9;have lz:z9.length=s.length:=p9.length.symm;refine⟨D9,s.map λt=>(t.2.1,t.1,t.2.2),z9,U,oz l9,CG _ p9,by lia,λpT I Nn Z pw=>?_⟩;rw[lz] at Z;have ac:∀i∈I,i<s.length:=λi hi=>dL.mp<|Z.mem_iff.mp hi
  have aw:I.length=s.length:=by rw[Z.length_eq,dQ]
  have PT:Paired (λ(t:T3) v=>TupAt H9 (Jw (t.2.1,t.1,t.2.2)) v) (I.map λi=>s.getD i (0,0,0))<|I.map λi=>z9.getD i V.non:=by
   clear Z pw aw
   induction I with
   |nil=>exact .nil
   |cons i I ih =>
    refine .cons ?_<|ih λj J=>ac j<|aT _ J
    have hi:=ac i be;have e1:=af hi;obtain⟨v,ev,X⟩:=Cj p9 e1;try dsimp only
    rw[ax,e1,ax,ev];exact X
  have cn:Canon<|I.map λi=>s.getD i (0,0,0):=canon_of sp nd Z (pw.imp_of_mem λ{i j} hi J g=>by
   have e:∀{i},i∈I->(s.map λt:T3=>((t.2.1,t.1,t.2.2):T3)).getD i (0,0,0)=((s.getD i (0,0,0)).2.1,(s.getD i (0,0,0)).1,(s.getD i (0,0,0)).2.2):=λ{i} hi=>by
    have e1:=af (ac i hi);rw[ax,ax,ar,e1];rfl
   rw[e hi,e J,Sq.K9] at g;refine ES.mpr λz=>g ?_;have z:=Sq.PL.mp z;rcases z with z | ⟨z1,z2⟩
   .exact .inl z
   .exact .inr ⟨z1,.inl z2⟩)
  have cv:∀x t,DN (I.map λi=>s.getD i (0,0,0)) x t ↔ DN s x t:=λx t=>DN.perm<|Ig Z
  have lw:(I.map λi=>z9.getD i V.non).length=s.length:=by rw[ah,aw]
  generalize (I.map λi=>s.getD i (0,0,0))=hs at PT cn cv;generalize (I.map λi=>z9.getD i V.non)=w9 at PT lw;obtain⟨zS,d,aM,SU⟩:=Gz Nn w9;rw[d];clear d;have PT:=Ao aM PT;refine⟨⟨_,oz SU⟩,PB (K:=K) (l:=hs) (vs:=w9) (λt=>Jw (t.2.1,t.1,t.2.2)) (λ_=>_h) Jw (oz SU) PT (λt=>⟨_,_,_,U⟩) (Aw<|by lia) (λx u v1 v2 v3 e H' hs R kk=>kk H'<|Al.refl H') (λx u _ v1 v2 v3 e H' hs R kk=>?_)<|λa7 B7 Y2 bl AX a9 RU=>?_⟩
  .cases e;exact⟨by show 3<=sizeLine;decide,λt ht=>kk _ _ (Ay ht) ⟨t,U,Ai⟩⟩
  rw[bX.mpr (λ_ _=>rfl)] at RU;refine q a7 hs Y2 B7 (sH.trans<|s9.trans<|aM.trans AX) ⟨a9,RU⟩ cn λx t=>?_;rw[cv,R.fin x t];exact and_congr_right λx0=>fin x.toNat t
 rintro i v σ Hx T0 FH ⟨B,s,W,an,st,c,lt,v4,v5,v6,A,r,D,a5,R,X3,l1,rfl⟩ yy;have hi:i<ps.length+1:=by have:=(ag.mp FH).1;lia
 obtain⟨m,aN,lm,rfl,Dm,FV⟩:=Hs P5 FH;have GT:=aK _<|am aN
 have a4:lm≠f:=λz=>by rw[z,Fm] at FV;cases FV
 have aZ:(j_ k qs)[i]? = _a (((i:_d):_i) * k,m):=by rw[Ke,aN];rfl
 have s6:=Ay (o:=HO.tup [V.int ((i:_d):_i),V.ref lm]) yy;refine⟨_,oz Ai,U,U,?_⟩;generalize upd Hx T0 (HO.tup [V.int ((i:_d):_i),V.ref lm])=H6 at s6 |-;have A6:=A.mono s6;have Mn:=s6 _ _ r;have S0:=B.same s6;clear B s6 yy r A;obtain⟨js,ej,Sf⟩:=D.js λ_=>Iff.rfl;refine⟨f,an,js,U,Mn,ej,λpK ns Pp Z pw=>?_⟩;obtain⟨H7,d,s7,u7⟩:=Gz Pp<|nV<|Wd.mem c;rw[Sf ns Z pw,d];clear d Sf Z pw ej;have bc:pK≠O:=_T<|Ak A6.l Pp
 have a6:pK≠f:=_T<|Ak Mn Pp
 have kl:∀{S:Hp},Kq H5 S O f->S lm=_a (.lst<|nV<|Wd.mem m):=λk=>k _ _ Dm a4 FV;have UD:=A6.len;refine⟨⟨_,oz u7⟩,Dk (K:=K) (a:=pK) (xs:=nV<|Wd.mem c) (dX H5 O f pK c s m st k i a lm) ⟨S0.same s7,u7,W,an,_,by rw[kM,OG,nB,fN];exact A6.mono s7,s7 _ _ Mn,D.con (λx=>⟨λh=>⟨h,λz=>nomatch z.1⟩,λh=>h.1⟩)<|λ_ _=>rfl,U⟩ (λj σ S _ h=>oz h.snd) ?_ ?_⟩
 .rintro j v σ S Y ⟨B,NH,W,C,v6,A,r,D,rfl⟩;have J:j<(Wd.mem c).length:=by have:=(ag.mp Y).1;rwa [ah] at this
  unfold nV at Y;rw[ar,af J] at Y;obtain rfl:=_m Y;have u:=Wd.mem_iff.mp<|de J
  have sg:=jH (Wd.Fy c) J;generalize aa:(Wd.mem c)[j]=x at u sg;have as:inV (V.int ((x:_d):_i)) (nV<|Wd.mem m)=m.testBit x:=by
   rw[uG,dA,_N,Wd.mem_iff]
  have F:(Wd.mem c).take (j+1)=(Wd.mem c).take j++[x]:=by rw[ck,af J,aa];rfl
  have ly:=A.len;rw[av,ah] at ly;have lf:=dE (λx=>!m.testBit x)<|(Wd.mem c).take j
  rw[cE] at lf;refine⟨nV<|Wd.mem m,oz<|.inl<|kl B,U,R7 _,Ed (λg=>?_)<|λg=>?_⟩
  .have g:(!inV (V.int ((x:_d):_i)) (nV<|Wd.mem m))=true:=g;rw[as,fz] at g;have lk:=D.len (l:=Wd.mem c) λy h=>Wd.mem_iff.mpr h.1;have X:=D.v x ⟨u,λz=>sg z.1⟩;refine⟨.inl ⟨U,_,oz A.l⟩,f,U,.inl ⟨_,.inl r⟩,C,_R ((x:_d):_i),_,r,U,DW<|by lia,X,.inr ⟨by lia,by lia⟩,.inr ⟨by lia,by lia⟩,by show 3<=sizeLine;decide,λT hT=>?_⟩;have A1:Cz (upd S f<|HO.dK<|Jr C<|_R ((x:_d):_i)) O (s++(((Wd.mem c).take j).filter λx=>!m.testBit x).map λx:_d=>(((x:_d):_i),st x * k,((i:_d):_i) * k)) W:=⟨by rw[An ab];exact A.l,Paired.Em A.p λ_ _ ⟨T,e,g⟩=>⟨T,e,by rw[An (λz=>by rw[z,r] at g;cases g)];exact g⟩⟩;have d1:upd S f (HO.dK<|Jr C<|_R ((x:_d):_i)) f=_a (.dK<|Jr C<|_R ((x:_d):_i)):=Ai;have q1:Kq H5 (upd S f<|HO.dK<|Jr C<|_R ((x:_d):_i)) O f:=B.rO;have aB:upd S f (HO.dK<|Jr C<|_R ((x:_d):_i)) pK=_a (.lst<|nV<|Wd.mem c):=by rw[An a6];exact NH
   generalize upd S f (HO.dK (Jr C (_R ((x:_d):_i))))=H8 at A1 d1 q1 aB hT |-;obtain⟨H9,d,s9,u9⟩:=S6 hT [V.int ((x:_d):_i),V.int<|st x * k,V.int<|((i:_d):_i) * k];rw[d];clear d;have A9:=A1.mono s9;refine⟨_,A9.l,Aw<|by lia,?_⟩;have a0:=A9.snoc (x:=(((x:_d):_i),st x * k,((i:_d):_i) * k)) u9;refine⟨(q1.same s9).vC,by rw[An bc];exact s9 _ _ aB,W++[V.ref T],_,_,?_,by rw[An (_T ab)];exact s9 _ _ d1,(D.del x).con (λy=>?_)<|λ_ _=>rfl,U⟩
   .rw[F,hU,eJ,_o<|by rw[g];rfl,ee,<-ed];exact a0
   .rw[F,aE,al];constructor
    .rintro⟨⟨M,G⟩,a3⟩;exact⟨M,λz=>z.1.elim (λz1=>G ⟨z1,z.2⟩) a3⟩
    .rintro⟨M,G⟩;exact⟨⟨M,λz=>G ⟨.inl z.1,z.2⟩⟩,λe=>G ⟨.inr e,by rw[e];exact g⟩⟩
  .have g:¬ (!inV (V.int ((x:_d):_i)) (nV<|Wd.mem m))=true:=g;rw[as,fz,hZ] at g;refine⟨B,NH,W,C,_,?_,r,D.con (λy=>?_)<|λ_ _=>rfl,U⟩
   .rw[F,hU,eJ,_l<|by rw[g];decide,OG,fN];exact A
   .rw[F,aE,al];constructor
    .rintro⟨M,G⟩;exact⟨M,λz=>z.1.elim (λz1=>G ⟨z1,z.2⟩) λe=>by rw[e,g] at z;cases z.2⟩
    .rintro⟨M,G⟩;exact⟨M,λz=>G ⟨.inl z.1,z.2⟩⟩
 clear A6 Mn S0 s7 u7;rintro σ S ⟨B,NH,W,C,v6,A,r,D',rfl⟩;rw[show ((nV<|Wd.mem c).length)=(Wd.mem c).length from Ι ..,Ů] at A D';rw[<-c7] at A;have D1:RX C (λx=>(c.testBit x=_h/\m.testBit x=_h) \/ x∈(Wd.mem m).take 0) (λx=>if (Gi m c).testBit x=_h then ((i:_d):_i) else st x):=D'.con (λx=>by
  rw[kM,Wd.mem_iff];constructor
  .rintro⟨M,G⟩;exact .inl ⟨M,by cases e:m.testBit x with | true=>rfl | false=>exact _D ⟨M,e⟩ G⟩
  .rintro (⟨M,G⟩ | z)
   .exact⟨M,λz=>by rw[G] at z;cases z.2⟩
   .cases z) λx u=>by rw[Ec,u.1,UO,kL,_l (by decide)]
 clear D' D;refine⟨⟨_,oz<|kl B⟩,Dk (K:=K) (a:=lm) (xs:=nV<|Wd.mem m) (jb H5 O f s st k c m i W a lm) ⟨B,A,C,_,r,D1,U⟩ (λj σ Hz _ h=>oz<|kl h.fst) ?_ ?_⟩
 .clear B r D1 A;rintro j v σ Hz Y ⟨B,A,C,v6,r,D,rfl⟩;have J:j<(Wd.mem m).length:=by have:=(ag.mp Y).1;rwa [ah] at this
  unfold nV at Y;rw[ar,af J] at Y;obtain rfl:=_m Y;have u:=Wd.mem_iff.mp<|de J
  generalize aa:(Wd.mem m)[j]=x at u;have F:(Wd.mem m).take (j+1)=(Wd.mem m).take j++[x]:=by rw[ck,af J,aa];rfl
  have lk:=D.len (l:=Wd.mem m) λy h=>h.elim (λh=>Wd.mem_iff.mpr h.2) λh=>gS h;refine⟨f,U,.inl ⟨_,.inl r⟩,C,_R ((x:_d):_i),r,U,Aw<|by lia,λv X=>?_,λX=>?_⟩
  .refine⟨B,A,C,_,r,D.con (λy=>?_)<|λ_ _=>rfl,U⟩;rw[F,aE,al,<-_aV];constructor
   .exact .inl
   .rintro (z | rfl)
    .exact z
    .exact Í λn=>by rw[D.no n] at X;cases X
  .have nS:¬ ((c.testBit x=_h/\m.testBit x=_h) \/ x∈(Wd.mem m).take j):=λh=>by rw[D.v x h] at X;cases X
   refine⟨B.rO,⟨by rw[An ab];exact A.l,Paired.Em A.p λ_ _ ⟨T,e,g⟩=>⟨T,e,by rw[An (λz=>by rw[z,r] at g;cases g)];exact g⟩⟩,_,_,Ai,(D.snoc nS _).con (λy=>?_)<|λy _=>?_,U⟩
   .rw[F,aE,al,<-_aV]
   .by_cases e:y=x
    .rw[_o e,e,_o];rw[Ec,u,fw,fz]
     cases g:c.testBit x with
     |false=>rfl
     |true=>exact _D (.inl ⟨g,u⟩) nS
    .rw[_l e]
 clear B r D1 A;rintro σ Hz ⟨B,A,C,v6,r,D,rfl⟩;rw[show ((nV<|Wd.mem m).length)=(Wd.mem m).length from Ι ..,Ů] at D;have aP:(λx=>if (Gi m c).testBit x=_h then ((i:_d):_i) * k else st x * k)=λx=>(if (Gi m c).testBit x=_h then ((i:_d):_i) else st x) * k:=funext λx=>by split <;> rfl
 have R1:=R.step KP aZ;have X1:=X3.step (m:=m) (tau:=((i:_d):_i) * k)<|by rw[Int.sub_mul,om];lia
 rw[aP] at R1 X1;refine⟨B,_,W,C,_,m,_,_,_,_,A,r,D.con (λx=>?_)<|λ_ _=>rfl,GT,R1,?_,?_,U⟩
 .rw[Wd.mem_iff];exact⟨λh=>h.elim (λh=>h.2) id,.inr⟩
 .rw[show ((i+1:_d):_i) - 1=((i:_d):_i) by lia];exact X1
 .have:=Qu c m;rw[av,ah,nX];lia
structure yX(K:_s)(mg:_A->_t _j)(cR cO cN cQ:_g):Prop where
 verr:mg "ValueError" = _n
 mO:mg "OrganError" = _a (.ref cO)
 exO:ł K cO jK "ValueError.__new__" = _h
 mN:mg "NoOrgan" = _a (.ref cN)
 mQ:mg "NoPlay" = _a (.ref cQ)
 rR:Rc K cR cO [cN,cQ]
inductive l_(C:_g)(B:M7)(vs:_b V)(H:Hp)(Q:VK)(f6:XK):Prop
|mk(x r:_g)(c:_d->_A)(sz:_b _d)(rk:_b (_A×_d×_i))(d3:_b Kb)(ls:_b (_b Ln:_))(len:_i)(hs:_b T3)(b:_d)(_:vs=[.ref x,.ref r])(_:Ds C H x (Bj c sz) rk (Cy c d3) ls)(_:Vo sz.length d3)(_:jx rk ls)(_:GD H r len hs)(_:Canon hs)(_:hs.length<200)(_:∀h∈hs,h.2.1<h.2.2/\h.2.2<=len)(_:∀t p,Ex c sz rk d3 ls hs t p->p<2 ^ 1200/\(Wd.mem p).length<=b)(_:b * (2 * hs.length+1)<30000)(_:Tb B H)(_:∀(r':_g)(gs:_b T3)(H':Hp),Kp B H H'->Tb B H'->dU H H' r' len gs->Canon gs->(∀x t,DN gs x t ↔ 0<=x/\∃p,Ex c sz rk d3 ls hs t p/\p.testBit x.toNat=_h)->gs.length<=400->Q (.ref r') H')(_:∀(gs:_b T3)(H':Hp),Kp B H H'->Tb B H'->Canon gs->(∀x t,DN gs x t ↔ 0<=x/\∃p,Ex c sz rk d3 ls hs t p/\p.testBit x.toNat=_h)->400<gs.length->Q (.bl _h) H')
theorem Rm{r:_g}{len:_i}{a:_b Ro.T3}(h:GD H r len a)(s:Al H H'):GD H' r len a:=by
 obtain⟨p,b,e,A⟩:=h;exact⟨p,b,s _ _ e,A.mono s⟩
theorem Vd{B:M7}{r:_g}{len:_i}{a:_b Ro.T3}(h:GD H r len a)(k:Kp B H H'):GD H' r len a:=by
 obtain⟨p,b,e,A⟩:=h;exact⟨p,b,k _ _ (λ_ z=>by cases z) e,Cz.kp A k⟩
theorem XQ:Aq ["_law_organ","_law_roll","_law_found","_law_kinds","e"] kB (Ae sLb):=Bh
theorem xQ{cO s z:_g}(N:Vb K mg C c1 aD)(T:Txt K w.params mg C cR aN aK aB aP aM)(W:Hl mg base c1 P1)(a:yX K mg cR cO s z):BX P w K mg base BW 10 aD.Lb kB<|l_ C<|tb P1:=by
 have l:BX P w K mg base (Rb P w) 9 aD.Bf kq<|Wf C cR<|tb P1:=bZ N T W
 refine N.FLb.1.Dl XQ λH vs Q E G h=>?_;obtain⟨x,r,c,sz,rk,d3,L,len,hs,b,rfl,O,qk,X,R0,cn,h2,hw,GN,S,sm,q,qE⟩:=h;refine⟨_,(@Af _ _ _ _ _ (@CT _ _ _ _ _ _ 2 XQ.nd U (Or.inl U) Ot (by kernel_rfl)<|.inl U)
  (@Af _ _ _ _ _ (@CT _ _ _ _ _ _ 3 XQ.nd U (Or.inl U) (@CV _ _ _ _ Ab) (by kernel_rfl)<|.inl U)
  (@Af _ _ _ _ _ (gV (λER=>(Zh<|fj (i:=2) XQ.nd U (Or.inl U)<|aA l (ae G) U N.FBf.2.2 N.FBf.1.kp N.FBf.2.1 .nil (@BJ _ _ _ _ _ U (pv 0)<|@BJ _ _ _ _ _ U (pv 1) Ab) U)) U a.mO a.exO XQ.nd (i:=4) U U<|λx=>(@Ag _ _ _<|@CT _ _ _ _ _ _ 3 XQ.nd U (Or.inl U) (@CV _ _ _ _<|@BJ _ _ _ _ _ U (A_ (GJ (K:=K) U) U T.isin bv<|@BJ _ _ _ _ _ U (pv 4)<|@BJ _ _ _ _ _ U (CW (v:=.ref cR) U T.mR U) Ab)<|@BJ _ _ _ _ _ U (A_ (GJ (K:=K) U) U T.isin bv<|@BJ _ _ _ _ _ U (pv 4)<|@BJ _ _ _ _ _ U (Ek (v:=.ty "ValueError") U a.verr PyProof.Rows.Boot.«ValueError» rfl) Ab)<|@BJ _ _ _ _ _ U (A_ (GJ (K:=K) U) U T.isin bv<|@BJ _ _ _ _ _ U (pv 4)<|@BJ _ _ _ _ _ U (CW (v:=.ref s) U a.mN U) Ab)<|@BJ _ _ _ _ _ U (A_ (GJ (K:=K) U) U T.isin bv<|@BJ _ _ _ _ _ U (pv 4)<|@BJ _ _ _ _ _ U (CW (v:=.ref z) U a.mQ U) Ab) Ab) (by kernel_rfl)<|.inl U))
  (@Af _ _ _ _ _ (@Cg _ _ _ _ _ _ _ _ (Bb qe (pv 2) Ot<|Bc _) (@Ag _ _ _<|@Ax _ _ _ _<|Eb (Yi 0<|bg (gi (by decide:1<=64) _) G.units) (pv 3) (@CV _ _ _ _<|@BJ _ _ _ _ _ U Gr<|@BJ _ _ _ _ _ U Gr<|@BJ _ _ _ _ _ U Gr<|@BJ _ _ _ _ _ U Gr Ab)<|Bc _) Be)
  (@Ag _ _ _<|@Ax _ _ _ _<|pv 2))))),?_⟩
 refine⟨DW (by simp),λpT Nn=>?_⟩;obtain⟨H1,m,g,u1⟩:=Gz Nn [];rw[m];clear m;refine⟨x,r,c,sz,rk,d3,L,len,hs,b,U,O.mono g,qk,X,Rm R0 g,cn,h2,hw,GN,S,sm.same g,λr' B Y k t R c v n=>?_,λB F k t c v n=>⟨cR,U,a.rR.mro,λd hex=>?_⟩⟩
 .obtain⟨p,zs,f,e,A⟩:=R;exact⟨U,q r' B Y ((Kp.of g).trans k) t ⟨p,zs,g.free f,e,A⟩ c v n⟩
 .have y:=Ay (o:=Lh d cR _n) hex;have j:upd F d (Lh d cR _n) d=_a (Lh d cR _n):=Ai;generalize upd F d (Lh d cR _n)=H3 at y j |-;refine⟨d,cR,[],_,_,_,U,.bare j,a.rR.xc,U,a.rR.k0,d,cR,[],_,_,_,U,.bare j,a.rR.xc,U,a.rR.kv,d,cR,[],_,_,_,U,.bare j,a.rR.xc,U,a.rR.kf s Î,d,cR,[],_,_,_,U,.bare j,a.rR.xc,U,a.rR.kf z<|Ņ _ Î,by show 4<=sizeLine;decide,λD M=>?_⟩;obtain⟨H5,m,J,u5⟩:=Gz M [V.bl _h,.bl _h,.bl _r,.bl _r];rw[m];clear m;refine⟨U,⟨by show 4<=sizeLine;decide,λI Z=>?_⟩⟩;have u:=Ay (o:=HO.lst [V.bl _h,.bl _h,.bl _r,.bl _r]) Z;exact⟨D,I,U,U,.inr ⟨D,I,_,_,U,U,.inl ⟨u _ _ u5,Ai⟩,.cons (Mz U)<|.cons (Mz U)<|.cons (Mz U)<|.cons (Mz U) .nil⟩,qE B _ ((Kp.of g).trans<|k.trans<|Kp.of<|y.trans<|J.trans u) (t.same<|y.trans<|J.trans u) c v n⟩
inductive p_(B:M7)(vs:_b V)(H:Hp)(Q:VK)(f6:XK):Prop
|mk(v:V)(len:_i)(a:_g)(hs:_b T3)(zs:_b V)(_:vs=[v,.int len,.ref a])(_:Cz H a hs zs)(_:(v=.bl _h/\400<hs.length) \/ ∃r,v=.ref r/\GD H r len hs/\Canon hs/\hs.length<=400/\0<=len/\len<=1000000000000/\∀t∈hs,SN len t)(_:Tb B H)(_:∀H',Q (.bl _h) H')
theorem zU:Aq fi fi<|Ae sIb:=Bh
theorem xq(N:Vb K mg C c1 aD)(T:Txt K w.params mg C cR aN aK aB aP aM)(k:Hl mg base c1 P1):BX P w K mg base BW 6 aD.Ib fi<|p_<|tb P1:=by
 have b:BX P w K mg base BW 5 aD.Iq fv<|Zx<|tb P1:=vV N T k
 refine N.FIb.1.Dl zU λH D Q E g h=>?_;obtain⟨v,len,a,d,s,rfl,A,y,n,q⟩:=h;refine⟨_,(@Af _ _ _ _ _ (@Cg _ _ _ _ _ _ _ _ (Bb QG (A_ BV U T.len dv<|@BJ _ _ _ _ _ U (pv 2) Ab) Ac<|Bc _) (@Ag _ _ _<|@Ax _ _ _ _<|Eb qz (pv 0) Gr<|Bc _) Be)
  (@Af _ _ _ _ _ (@Cg _ _ _ _ _ _ _ _ (PW.pt<|HD (Dg<|Dz<|A_ Di U T.isin bv<|@BJ _ _ _ _ _ U (pv 0)<|@BJ _ _ _ _ _ U (Ek (v:=.ty "tuple") U T.tuple ip U) Ab)<|Gh<|Dg<|Dz<|BL N.FIq b g<|@BJ _ _ _ _ _ U (pv 0) Ab) (@Ag _ _ _<|@Ax _ _ _ _ Gr) Be)
  (@Ag _ _ _<|@Ax _ _ _ _<|Eb (Ny<|bg (gi (by decide:8<=64) _) g.units) (pv 0) (@Bx _ _ _ _ _<|@BJ _ _ _ _ _ U (pv 1)<|@BJ _ _ _ _ _ U (pv 2) Ab)<|Bc _))),?_⟩
 have B:=A.len;refine⟨a,_,U,oz<|.inl A.l,?_⟩;rcases y with⟨rfl,c⟩ | ⟨r,rfl,R,x,c,m,u,ok⟩
 .exact Xy (by lia) ⟨_,_,U,U,q _⟩
 .refine UJ (by lia) ?_;obtain⟨p,G,e,I⟩:=id R;refine⟨_,"tuple",_,_,U,.tup e,Wq,?_⟩;refine⟨r,len,d,U,R,x,c,m,u,ok,n,λz f J=>?_⟩;refine⟨by show 2<=sizeLine;decide,λo l=>?_⟩;obtain⟨F,i,j,t⟩:=S6 l [V.int len,V.ref a];rw[i];clear i;exact⟨r,o,len,d,U,U,Rm (Vd R f) j,⟨a,s,t,(Cz.kp A f).mono j⟩,q _⟩
inductive Zg(K:_s)(B:M7)(vs:_b V)(H:Hp)(Q:VK)(f6:XK):Prop
|mk(a:_g)(ns:_b _i)(_:vs=[.ref a])(_:Cp K H a (ns.map V.int))(_:ns.length<=63)(_:Tb B H)(_:∀H',Q (.bl _h) H')
theorem Y7(sz:_b _d)(b n i:_d):(d8 sz b n).testBit i=_h ↔ i<sz.getD b 0/\n.testBit ((sz.take b).sum+i)=true:=by
 unfold d8;rw[Wd.O6];have e:((i:_i) - -(((sz.take b).sum:_d):_i)).toNat=(sz.take b).sum+i:=by lia
 rw[e,eI,eI,_N,_N];exact⟨λh=>⟨h.1,h.2.2⟩,λh=>⟨h.1,by lia,h.2⟩⟩
theorem W7{rk:_b (_A×_d×_i)}{l:Ln}(g:sW rk l)(n p:_d):(Rp rk l n).testBit p=_h ↔ ∃i:_d,n.testBit i=_h/\l.lo<=(i:_i)/\(i:_i)<=l.hi/\0<=(i:_i)+l.sh/\(i:_i)+l.sh<(VB rk l.r:_d)/\(p:_i)=(lq rk l.r:_d)+((i:_i)+l.sh):=by
 have q:=g.lo;have m:=g.le;have o:=Vw g.r;unfold Rp;rw[Wd.O6,Wd.O6,Wd.O6];simp only[Ω,_N];constructor
 .rintro⟨c,b,j,f,h,r,a⟩;exact⟨_,a,by lia,by lia,by lia,by lia,by lia⟩
 .rintro⟨i,a,c,b,k,s,e⟩;have d:(((((((p:_i) - ((lq rk l.r:_d):_i)).toNat:_d):_i) - (l.lo+l.sh)).toNat:_d):_i) - -l.lo=(i:_i):=by lia
  refine⟨by lia,by lia,by lia,by lia,by lia,by lia,?_⟩;rw[d,aI];exact a
theorem rZ{sz:_b _d}{rk:_b (_A×_d×_i)}{b:_d}{l:_b Ln}{p:_d}(g:∀ln∈l,sW rk ln):(kW sz rk b l n).testBit p=_h ↔ ∃ln∈l,∃i:_d,i<sz.getD b 0/\n.testBit ((sz.take b).sum+i)=_h/\ln.lo<=(i:_i)/\(i:_i)<=ln.hi/\0<=(i:_i)+ln.sh/\(i:_i)+ln.sh<(VB rk ln.r:_d)/\(p:_i)=(lq rk ln.r:_d)+((i:_i)+ln.sh):=by
 unfold kW;rw[M9];constructor
 .rintro⟨m,c,d⟩;obtain⟨ln,a,rfl⟩:=ay.mp c;obtain⟨i,e,r⟩:=(W7 (g ln a) _ _).mp d;obtain⟨x,y⟩:=(Y7 _ _ _ _).mp e;exact⟨ln,a,i,x,y,r⟩
 .rintro⟨ln,a,i,x,y,r⟩;exact⟨_,cS a,(W7 (g ln a) _ _).mpr ⟨i,(Y7 _ _ _ _).mpr ⟨x,y⟩,r⟩⟩
theorem nH{sz:_b _d}{rk:_b (_A×_d×_i)}{cl:_b _d}{p:_d}:(ni sz rk d3 ls cl n).testBit p=_h ↔ ∃k∈cl,(kW sz rk (Jy d3 k) (ls.getD k []) n).testBit p=true:=by
 unfold ni;rw[M9];constructor
 .rintro⟨m,c,a⟩;obtain⟨k,b,rfl⟩:=ay.mp c;exact⟨k,b,a⟩
 .rintro⟨k,b,a⟩;exact⟨_,cS b,a⟩
theorem uf{sz:_b _d}{rk:_b (_A×_d×_i)}{cl:_b _d}{p:_d}(d:jx rk ls)(h:(ni sz rk d3 ls cl n).testBit p=_h):p<ak rk:=by
 obtain⟨k,_,f⟩:=nH.mp h;have c:∀b∈ls.getD k [],sW rk b:=λb a=>by
  rw[ax] at a
  cases e:ls[k]? with
  |none=>rw[e] at a;cases a
  |some l=>rw[e] at a;exact (d l<|am e).2 b a
 obtain⟨b,g,i,_,_,_,_,m,j,o⟩:=(rZ c).mp f;have:=Vw (c b g).r;lia
theorem dF{B:M7}{x:_g}{bs:_b (_A×_d)}{rk:_b (_A×_d×_i)}{i:_b R}(k:Kp B H H')(O:Ds C H x bs rk i ls):Ds C H' x bs rk i ls:=by
 have b:∀{g:_b V}{y:V},TupAt H g y->TupAt H' g y:=λh=>by
  obtain⟨T,rfl,D⟩:=h;exact⟨T,U,k _ _ (λ_ z=>by cases z) D⟩
 have a:∀{l:_g}{f:_b V},H l=_a (.lst f)->H' l=_a (.lst f):=λh=>k _ _ (λ_ z=>by cases z) h;obtain⟨⟨⟨dx,fs,bl,X,kp,w,J,qv,rL,d,h1,l1,Z,M,P,lm,N,s,h4,h5,K,h7,h8,p⟩,q,j,a3⟩,⟨S,xI,rl,F,L,c,qo,E,G,g1,r,m2,m3,m4,t,W,g4,g5,I,Y,u,o,g9⟩,n,b2,b3⟩:=O;refine⟨⟨⟨dx,fs,bl,X,kp,w,J,qv,rL,d,k _ _ (λ_ z=>by cases z) h1,l1,Z,M,P,lm,a N,Paired.Em s λ_ _=>b,k _ _ (λ_ z=>by cases z) h4,h5,a K,Paired.Em h7 λ_ _=>b,a h8,Paired.Em p λ_ _=>b⟩,q,j,a3⟩,⟨S,xI,rl,F,L,c,qo,E,G,k _ _ (λ_ z=>by cases z) g1,r,m2,m3,m4,a t,Paired.Em W λ_ _=>b,k _ _ (λ_ z=>by cases z) g4,g5,a I,Paired.Em Y λ_ _=>b,u,a o,Paired.Em g9 λl v h=>?_⟩,n,b2,b3⟩;obtain⟨A,m,e,k1,Q⟩:=h;exact⟨A,m,e,a k1,Paired.Em Q λ_ _=>b⟩
theorem jF{K:_s}{j e i g:_g}{c:_i}{sz:_b _d}{f:_b Kl}{us:_b V}{a:_b R}(s:Al H H')(h:qF K aB aP aM H j e i g c sz pz f us a vs):qF K aB aP aM H' j e i g c sz pz f us a vs:=by
 obtain⟨l,t,m,p,o,r,b,d,u,k,B,n⟩:=h;exact⟨s _ _ l,s _ _ t,m,s _ _ p,Paired.Em o λz y q=>q.mono s,r,b,d,s _ _ u,Ao s k,B,n⟩
theorem jP{len:_i}{b ts:_b T3}(c:Canon b)(cv:∀x t,DN b x t ↔ DN ts x t)(ok:∀t∈ts,SN len t):∀h∈b,SN len h:=λh a=>by
 have p:=c.sep.1 h a;obtain⟨g,d,e,l,u⟩:=(cv h.1 h.2.1).mp ⟨h,a,U,nc _,p⟩;obtain⟨j,f,q,i,v⟩:=(cv h.1<|h.2.2 - 1).mp ⟨h,a,U,by lia,by lia⟩;obtain⟨s,m,o,A,y⟩:=ok g d;obtain⟨n,k,w,r,z⟩:=ok j f;exact⟨by lia,by lia,by lia,p,by lia⟩
theorem gB{len k:_i}{ts:_b T3}(k1:1<=k)(ok:∀t∈ts,SN len t):∀t∈ts.map (kJ k),SN (len * k) t:=λt d=>by
 obtain⟨x,c,rfl⟩:=ay.mp d;obtain⟨e,g,f,a,b⟩:=ok x c;exact⟨e,g,kN f<|by lia,rz a<|by lia,gx b<|by lia⟩
theorem wW{c:_i}{sz:_b _d}:((Bj (Dm c) sz).map (·.1)).Nodup:=by
 refine JD λi j x e d=>?_;rw[ar] at e d;obtain⟨k,b,g⟩:=aS.mp e;obtain⟨h,a,f⟩:=aS.mp d;obtain⟨_,_,rfl⟩:=HB b;obtain⟨_,_,rfl⟩:=HB a;exact N7<|g.trans f.symm
theorem u_{c:_i}{h:_d->_i}:((Jx (Dm c) pz h).map (·.1)).Nodup:=by
 refine JD λi j x e d=>?_;rw[ar] at e d;obtain⟨l,b,g⟩:=aS.mp e;obtain⟨k,a,f⟩:=aS.mp d;obtain⟨_,_,rfl⟩:=G9 b;obtain⟨_,_,rfl⟩:=G9 a;have:=N7<|g.trans f.symm
 lia
theorem vB{c:_i}:((Cy (Dm c) d3).map (·.nm)).Nodup:=by
 refine JD λi j x g d=>?_;rw[ar] at g d;obtain⟨k,b,f⟩:=aS.mp g;obtain⟨h,a,e⟩:=aS.mp d;obtain⟨_,_,rfl⟩:=En b;obtain⟨_,_,rfl⟩:=En a;rw[W4] at f e;have:=N7<|f.trans e.symm
 lia
theorem gh{k:_d}(h:n<2 ^ k):(Wd.mem n).length<=k:=by
 refine bo (dE ..) ?_;rw[dQ];exact Wd.Ip h
theorem Vz{sz:_b _d}{rk:_b (_A×_d×_i)}{d:_b T3}{p:_d}(a:jx rk ls)(e:ak rk<=m)(h:Ex c sz rk d3 ls d t p):p<2 ^ m:=by
 obtain⟨f,j,n,_,_,_,rfl⟩:=h;refine ja _ λi g=>?_;rw[<-fq];intro b;have:=uf a b;lia
structure Sd(c:_d->_A)(sz:_b _d)(rk:_b<|_A×_d×_i)(d3:_b Kb)(ls:_b<|_b Ln)(ts hs:_b T3)(k len:_i)(ps:_b _d):Prop where
 cv:∀x t,DN hs x t ↔ DN ts x (t / k)
 ok:∀t∈ts,SN len t
 l:((ps.length:_d):_i)=len
 s:∀(i:_d) p,ps[i]? = _a p->Ex c sz rk d3 ls hs (((i:_d):_i) * k+k / 2) p
theorem Sd.at{sz:_b _d}{rk:_b (_A×_d×_i)}{ts a:_b T3}{k len:_i}{ps:_b _d}(h:Sd c sz rk d3 ls ts a k len ps)(k1:1<=k){i p:_d}(e:t / k=((i:_d):_i))(b:ps[i]? = _a p):Ex c sz rk d3 ls a t p :=
 (h.s i p b).move λx=>by
  have:(((i:_d):_i) * k+k / 2) / k=((i:_d):_i):=by
   rw[Int.add_comm,Int.add_mul_ediv_right _ _<|by lia,Int.ediv_eq_zero_of_lt (by lia)<|by lia,kg]
  rw[h.cv,h.cv,this,e]
theorem Sd.cov{sz:_b _d}{rk:_b (_A×_d×_i)}{ts d:_b T3}{k len:_i}{ps:_b _d}(h:Sd c sz rk d3 ls ts d k len ps)(k1:1<=k){x:_d}:(∃p,Ex c sz rk d3 ls d t p/\p.testBit x=_h) ↔ 0<=t/\∃p,ps[(t / k).toNat]? = _a p/\p.testBit x=true:=by
 constructor
 .rintro⟨p,i,a⟩;have l:∃y,DN d y t:=Í λn=>by
   rw[i.none λy b=>n ⟨y,b⟩,gL] at a
   cases a
  obtain⟨y,b⟩:=l;obtain⟨z,j,_,q,s⟩:=(h.cv y t).mp b;have o:=h.ok z j;have g:0<=t / k:=by have:=o.2.2.1;lia
  have r:t / k<len:=by have:=o.2.2.2.2;lia
  have f:0<=t:=by
   have:=Pf t (show k≠0 by lia);have:=Int.mul_nonneg g (show 0<=k by lia);lia
  have u:=h.l;have e:=Ã (show (t / k).toNat<ps.length by lia);have m:=h.at k1 (t:=t) (eK g).symm e;exact⟨f,_,e,by rw[<-QC (λ_=>Iff.rfl) i m];exact a⟩
 .rintro⟨f,p,e,a⟩;exact⟨p,h.at k1 (eK<|pT f<|by lia).symm e,a⟩
theorem gH{p:_d}(h:p<2 ^ n):((((_B n).map λ(i:_d)=>(0:_i)+(i:_i)).filter λi=>decide (0<=i) && p.testBit i.toNat).map λi=>V.int i)=nV (Wd.mem p):=by
 have b:Wd.mem p=(_B n).filter p.testBit:=by
  have f:((_B n).filter p.testBit).Pairwise (· < ·):=ć _ ĸ;rw[<-Wd.Zr f];refine congrArg Wd.mem<|fE λi=>?_
  rw[Wd.Ft,dA,_N,cy,dL];refine⟨λa=>⟨?_,a⟩,λa=>a.2⟩;rcases kR i n with g | g
  .exact g
  .rw[z8 (ba h<|gT (by decide) g)] at a
   cases a
 rw[b,fm,bi];have e:((λi:_i=>decide (0<=i) && p.testBit i.toNat) ∘ λ(i:_d)=>(0:_i)+(i:_i))=p.testBit:=by
  funext i;show (decide (0<=(0:_i)+(i:_i)) && p.testBit ((0:_i)+(i:_i)).toNat)=p.testBit i;have d:(0:_i)<=0+(i:_i):=by lia
  have c:((0:_i)+(i:_i)).toNat=i:=by lia
  rw[_v d,c,fw]
 rw[e];refine iq λi _=>?_;show V.int ((0:_i)+(i:_i))=V.int (i:_i);rw[kg]
theorem uZ{a:_d->_i}:ak (Jx c pz a)=pz.sum:=by
 unfold ak Jx;rw[bi];refine congrArg q5<|gp λi=>?_
 rw[ar,fT,K2]
 cases pz[i]? <;> rfl
theorem Hi:Aq el gK<|Ae gk:=Bh
inductive vh(y9:Hp)(pL:_g)(L:_g)(c:_i)(sz:_b _d)(pz:_b _d)(i8:_b Kl)(hs:_b T3)(b:_i)(a:_g)(W:_g)(x:_g)(n:_d)(lS:_g)(r:_g)(EN:_g)(i:_d)(σ:St)(Hx:Hp):Prop
|mk(_:Al y9 Hx)(ps:_b _d)(ws:_b V)(v9 wS:_t V)(_:Hx pL=_a (.lst ws))(_:Paired (λ(p:_d) v=>∃L,v=V.ref L/\L≠pL/\Hx L=_a (.lst<|nV<|Wd.mem p)) ps ws)(_:ps.length=i)(_:(∀(j:_d) p,ps[j]? = _a p->Ex (Dm c) sz (Jx (Dm c) pz<|Qh c) (i8.map (·.1)) (i8.map (·.2)) hs (((j:_d):_i) * b+b / 2) p))(_:σ=[_a (.ref a),_a<|.ref W,_a<|.ref x,_a<|.int ((n:_d):_i),_a<|.ref lS,_a<|.int b,_a<|.ref r,_a<|.ref EN,_a<|.ref pL,v9,wS,_n])
theorem nU{cO cN cQ:_g}(F:Yb K "law" "law" gk f fd)(N:Vb K mg C c1 aD)(T:Txt K w.params mg C cR aN aK aB aP aM)(K1:Hl mg base c1 P1)(F0:U_ K aB aP aM)(X6:yX K mg cR cO cN cQ):Gu P w K mg base BW 11 f fd gK<|Zg K<|tb P1:=by
 have b4:BX P w K mg base BW 6 aD.Ma ew<|m8<|tb P1:=tH N T K1
 have bL:BX P w K mg base BW 6 aD.Ib fi<|p_<|tb P1:=xq N T K1
 have as:BX P w K mg base (Rb P w) 9 aD.Bf kq<|Wf C cR<|tb P1:=bZ N T K1
 have bW:BX P w K mg base BW 10 aD.Lb kB<|l_ C<|tb P1:=xQ N T K1 X6
 refine F.Dl Hi λH vs Q E I h=>?_;obtain⟨a,ns,rfl,hS,aa,sm,q⟩:=h;have hu:=Fi I;refine⟨_,(@Af _ _ _ _ _ (@CT _ _ _ _ _ _ 1 Hi.nd U (Or.inl U) (BL N.FWd (vO N T) I<|@BJ _ _ _ _ _ U (pv 0) Ab) (by kernel_rfl)<|.inl U)
  (@Af _ _ _ _ _ (@CT _ _ _ _ _ _ 2 Hi.nd U (Or.inl U) (iT N.FOi.2.2 (wQ N T) I U T.mC N.FOi.2.1 .nil Ni<|@BJ _ _ _ _ _ U (@Av _ _ _ _ _ _ _ (Bu (K:=K) U) (pv 1) Ac<|λ_ _=>rfl) Ab) (by kernel_rfl)<|.inl U)
  (@Af _ _ _ _ _ (bF (BL N.FSq (v_ N T) I<|@BJ _ _ _ _ _ U (pv 0)<|@BJ _ _ _ _ _ U (pv 1) Ab)<|nP U<|Bq (Bg (i:=3) Hi.nd U<|Or.inl U)<|Bq (Bg (i:=4) Hi.nd U<|Or.inl U) FP)
  (@Af _ _ _ _ _ (@CT _ _ _ _ _ _ 5 Hi.nd U (Or.inl U) (BL N.FBy (uc N T) I<|@BJ _ _ _ _ _ U (pv 0) Ab) (by kernel_rfl)<|.inl U)
  (@Af _ _ _ _ _ (@CT _ _ _ _ _ _ 6 Hi.nd U (Or.inl U) (BL N.FMa b4 I<|@BJ _ _ _ _ _ U (pv 3)<|@BJ _ _ _ _ _ U (pv 4)<|@BJ _ _ _ _ _ U (pv 5) Ab) (by kernel_rfl)<|.inl U)
  (@Af _ _ _ _ _ (@CT _ _ _ _ _ _ 7 Hi.nd U (Or.inl U) (@Bx _ _ _ _ _<|@BJ _ _ _ _ _ U (@Av _ _ _ _ _ _ _ (Am (K:=K) U) (pv 6) Ac<|λ_ _=>rfl)<|@BJ _ _ _ _ _ U (Dw Es U T.list eD<|@BJ _ _ _ _ _ U (@Av _ _ _ _ _ _ _ (Am (K:=K) U) (pv 6) Ac<|λ_ _=>rfl) Ab) Ab) (by kernel_rfl)<|.inl U)
  (@Af _ _ _ _ _ (@Cg _ _ _ _ _ _ _ _ (Bb (U8<|bg (gi (by decide:8<=64) _) I.units) (Kz as (ae I) U N.FBf.2.2 N.FBf.1.kp N.FBf.2.1 .nil sX<|@BJ _ _ _ _ _ U (pv 2)<|@BJ _ _ _ _ _ U (@Bx _ _ _ _ _<|@BJ _ _ _ _ _ U Ac<|@BJ _ _ _ _ _ U (@CV _ _ _ _ Ab) Ab) Ab) (@Bx _ _ _ _ _<|@BJ _ _ _ _ _ U Ac<|@BJ _ _ _ _ _ U (@CV _ _ _ _ Ab) Ab)<|Bc _) (@Ag _ _ _<|@Ax _ _ _ _ Gr) Be)
  (@Af _ _ _ _ _ (@CT _ _ _ _ _ _ 8 Hi.nd U (Or.inl U) (@CV _ _ _ _ Ab) (by kernel_rfl)<|.inl U)
  (@Af _ _ _ _ _ (DQ _U U (Dj U T.range<|@BJ _ _ _ _ _ U (pv 3) Ab) (Bg (i:=9) Hi.nd U<|Or.inl U) (@Af _ _ _ _ _ (@CT _ _ _ _ _ _ 10 Hi.nd U (Or.inr U) (BL N.FSa (lJ N T) I<|@BJ _ _ _ _ _ U (pv 2)<|@BJ _ _ _ _ _ U (pv 6)<|@BJ _ _ _ _ _ U (Ar Bt (Ar Ff (pv 9)<|pv 5)<|Ar Cu (pv 5) Ac) Ab) (by kernel_rfl)<|.inl U)
  (@Ag _ _ _<|C_<|E_ bE cr cw CZ (pv 8)<|@BJ _ _ _ _ _ U (Bm U (BR (osc:=Ae gk) (N:=el) U U<|by decide) (Dj U T.range<|@BJ _ _ _ _ _ U (A_ (OD U) U T.sum zld<|@BJ _ _ _ _ _ U (@Av _ _ _ _ _ _ _ (Bu (K:=K) U) (pv 1) Ac<|λ_ _=>rfl) Ab) Ab) (λ_ _ _ _=>(HF<|Bb Ez (Ar Np (Ar Vc (pv 11)<|pv 0) Ac) Ac<|Bc _))<|λ_ _ _ _=>(pv 0)) Ab)))
  (@Af _ _ _ _ _ (@CT _ _ _ _ _ _ 11 Hi.nd U (Or.inl U) (BL N.FLb bW I<|@BJ _ _ _ _ _ U (pv 2)<|@BJ _ _ _ _ _ U (pv 6) Ab) (by kernel_rfl)<|.inl U)
  (@Ag _ _ _<|@Ax _ _ _ _<|Dv (Eb (Ny<|bg (gi (by decide:8<=64) _) I.units) (pv 6) (pv 7)<|Bc _)<|Du<|BL N.FIb bL I<|@BJ _ _ _ _ _ U (pv 11)<|@BJ _ _ _ _ _ U (Ar Ff (pv 3)<|pv 5)<|@BJ _ _ _ _ _ U (BL N.FRu (xf N T) I<|@BJ _ _ _ _ _ U (pv 8)<|@BJ _ _ _ _ _ U (pv 5) Ab) Ab))))))))))),?_⟩
 refine⟨a,ns,U,hS,aa,F0,λW DS DP DK DR c sz G v us b5 OU H9 ec a8 hW OW=>?_⟩;obtain⟨l9,Lm,⟨w1,w2,w3,w4,w5,w6⟩,k9,LD,wE,b6,aw,E2,zn,B,Bi⟩:=id OW;obtain⟨R9,O9,eL⟩:=B.fin zn (by rw[Gy];lia) (by rw[Gy];lia) (λb hb=>by
  obtain⟨j,hj⟩:=iO.mp hb;obtain⟨z,y,rfl⟩:=HB hj;exact (w3 z<|am y).2) (by rw[Kf];lia) (λr br=>by
  obtain⟨j,hj⟩:=iO.mp br;obtain⟨z,y,rfl⟩:=G9 hj;exact (w6 z<|am y).2) (by rw[K7,ah];lia) wW u_ vB Bi
 refine⟨_,_,oz hW,Aj (j:=3) U,?_⟩;intro x dx nx WH bK;have A:Al H9<|upd (upd H9 dx<|.own x) x<|.ins C dx []:=λb o e=>by
  rw[An (Ak e nx),An<|Ak e WH];exact e
 refine⟨x,dx,DR,OU,dR H9,_,_,_,U,Ai,A _ _ E2,R9.mono A,O9,λzS OA UC=>⟨U,?_⟩⟩;have s:Al H9 zS:=λb o e=>UC b o (A b o e)<|Ak e nx
 rw[eL] at OA;have C9:=a8.trans s;have N2:=s _ _ hW;have NG:=jF s OW;have lu:v.length=us.length:=Paired.length LD;have Z:Vo sz.length (v.map (·.1)):=⟨wE.ok,wE.room,by rw[ah];lia⟩;have J:jx (Jx (Dm c) G<|Qh c) (v.map (·.2)):=λl hl=>by
  obtain⟨z,y,rfl⟩:=ay.mp hl;have BA:=wE.ln z y;have hb:=Kb.wj<|wE.ok z.1<|cS y
  have ca:sz.getD z.1.bd 0<=61:=by
   rw[ax,af hb];exact (w3 _<|de hb).2
  refine⟨by have:=BA.1;lia,λln sB=>?_⟩;have g:=BA.2.1 ln sB;have g4:=g.hi;exact⟨by rw[Kf];exact g.r,g.lo,g.le,by lia,g.s1,g.s2⟩
 have Y:ak (Jx (Dm c) G<|Qh c)=G.sum:=uZ;clear UC A nx WH bK R9 O9 eL;have cc:1<=v.length:=by
  obtain⟨z,y,_⟩:=aw;exact kF y
 refine⟨a,W,DS,DP,DK,DR,ns,sz,us,U,C9.seq hS,aa,N2,s _ _ l9,w1,w2,w3,s _ _ k9,by lia,by lia,λL lS len ts zs B7 AX hL MH GG Pm Ee tl=>?_⟩;refine⟨L,_,U,oz hL,U,U,?_⟩;have zl:=MH.len;refine⟨a,ns,U,(C9.trans AX).seq hS,λb Xt KI b1 b2=>?_⟩;have OC:=C9.trans<|AX.trans KI
 refine⟨lS,ts,zs,len,b,U,MH.mono KI,by lia,Ee,b1,by lia,by lia,by lia,sm.same OC,λr M KW bB SH IG ED CI F'=>?_⟩;have PY:=jP ED CI<|gB b1 Ee
 have bn:0<=len * b:=kN (by lia)<|by lia
 have a9:len * b<=1000000000000:=by
  have h1:len * b<=24 * b:=gx Pm<|by lia
  lia
 have ez:(G.map λn:_d=>V.int (n:_d))=(G.map λn:_d=>((n:_d):_i)).map V.int:=by rw[bi];rfl
 have b0:G.sum<=388:=by
  have:=L_ (m:=97) λz y=>(w6 z y).2;lia
 have bR:∀z t,DN M z t ↔ DN ts z (t / b):=λz t=>by rw[CI];exact fY b1
 have b9:M.length<=28:=by lia
 have u:Kp (tb P1) zS KW:=(Kp.of<|AX.trans KI).trans bB;have SK:=u _ _ (λ_ z=>by cases z) N2;have Kx:=u _ _ (λ_ z=>by cases z) (s _ _ Lm);have RY:=dF u OA;have Pi:=IG.ro;clear IG u NG OA N2 MH zl hS OW l9 Lm k9 LD aw E2 zn B hW CI hL;obtain⟨p0,Ix,er,A0⟩:=id Pi;refine⟨_,_,oz er,Aj (j:=0) U,_,_,oz er,Aj (j:=1) U,p0,_,U,oz<|.inl A0.l,λSl HI=>?_⟩;obtain⟨ON,k,VZ,a0⟩:=Gz HI Ix;rw[k];clear k;refine⟨by show 2<=sizeLine;decide,λEN NA=>?_⟩;obtain⟨RH,k,G0,Xs⟩:=S6 NA [V.int (len * b),V.ref Sl];rw[k];clear k;have so:=VZ.trans G0;have ab:GD RH EN (len * b) M:=⟨Sl,Ix,Xs,G0 _ _ a0,Paired.Em A0.p λ_ _ t=>t.mono so⟩;have S4:=Rm Pi so;have TW:=so _ _ SK;have ID:=so _ _ Kx;have OP:=RY.mono so;have HP:=SH.same so;clear so VZ G0 a0 Xs HI er A0 Pi SK Kx RY SH;refine⟨cK _,λpE W1=>?_⟩;obtain⟨LX,k,LZ,Wp⟩:=Gz W1 [];rw[k];clear k;refine⟨by show 2<=sizeLine;decide,λTE UQ=>?_⟩;obtain⟨TD,k,PD,aZ⟩:=S6 UQ [V.int 0,V.ref pE];rw[k];clear k;have vE:=LZ.trans PD;have O:∀{t:_i}{p:_d},Ex (Dm c) sz (Jx (Dm c) G<|Qh c) (v.map (·.1)) (v.map (·.2)) [] t p->p=0:=λh=>h.none λ_ ⟨_,z,_⟩=>nomatch z;have S:∀{X:_b T3},Canon X->(∀z t,DN X z t ↔ 0<=z/\∃p,Ex (Dm c) sz (Jx (Dm c) G<|Qh c) (v.map (·.1)) (v.map (·.2)) [] t p/\p.testBit z.toNat=_h)->X=[]:=λcn cv=>HR cn QX λz t=>by
  rw[cv];constructor
  .rintro⟨_,p,hp,y⟩;rw[O hp,gL] at y
   cases y
  .rintro⟨_,z,_⟩;exact nomatch z
 refine⟨x,TE,Dm c,sz,_,_,_,0,[],388,U,OP.mono vE,Z,J,⟨pE,[],aZ,PD _ _ Wp,.nil⟩,QX,by decide,(λ_ z=>nomatch z),(λt p hp=>by rw[O hp];exact⟨C'<|by decide,cK _⟩),by decide,HP.same vE,λr' X IQ Sc VA FO AD AN _=>?_,λX IQ _ _ AD AN Au=>by rw[S AD AN] at Au;cases Au⟩;obtain rfl:=S AD AN;have UH:=FO.ro;refine⟨cK _,λSA HU=>?_⟩;obtain⟨cb,k,UN,ap⟩:=Gz HU [];rw[k];clear k;refine⟨by show 2<=sizeLine;decide,λbl FU=>?_⟩;obtain⟨y9,k,vb,U1⟩:=S6 FU [V.int 0,V.ref SA];rw[k];clear k;have vx:=UN.trans vb;have d:Kp (tb P1) RH y9:=(Kp.of vE).trans<|Sc.trans<|Kp.of vx
 refine⟨r',bl,0,[],U,U,Rm UH vx,⟨SA,[],U1,vb _ _ ap,.nil⟩,PQ ?_⟩;have M0:=Vd ab d;have VQ:=Vd S4 d;have bc:=d _ _ (λ_ z=>by cases z) TW;have NY:=d _ _ (λ_ z=>by cases z) ID;have WB:=dF d OP;have bm:=VA.same vx;clear ab S4 TW ID OP HP VA FO AD AN Sc d vx vE Wp aZ ap U1 LZ PD UN vb UH S O W1 UQ HU FU;refine⟨cK _,λpL SF=>?_⟩;obtain⟨SO,k,bP,b3⟩:=Gz SF [];rw[k];clear k;obtain⟨n,en⟩:∃n:_d,len=((n:_d):_i):=⟨_,(eK<|by lia).symm⟩;subst en;refine⟨_,U,by lia,by lia,?_⟩;rw[aI];refine JG (lo:=0) (n:=n) (vh y9 pL L c sz G v M b a W x n lS r EN) ⟨bP,[],[],_,_,b3,.nil,U,(λj p e=>nomatch e),U⟩ ?_ ?_
 .rintro i σ Hx hi ⟨A,ps,ws,v9,wS,hL,P9,pl,AZ,rfl⟩;have lw:=P9.length;have MC:=WB.mono A;refine⟨.inr ⟨by lia,by lia⟩,⟨by decide,by decide⟩,x,r,Dm c,sz,_,_,_,((n:_d):_i) * b,_,M,U,MC,Z,J,Rm VQ A,ED,by lia,λp II sN hp=>?_⟩;have sL:Al y9 II:=A.trans sN;have bS:=Vz J (ke Y) hp;refine⟨.inl ⟨U,_,oz<|sN _ _ hL⟩,_,_,oz<|sL _ _ bc,Aj (j:=1) U,DP,G.map λn:_d=>((n:_d):_i),U,oz<|by rw[<-ez];exact sL _ _ NY,(λz bb=>by
   obtain⟨m,hm,rfl⟩:=ay.mp bb;have:=w6 m hm;lia),by rw[ah];lia,?_⟩
  rw[uY];refine⟨_,U,by lia,by lia,?_⟩;rw[aI];refine Fz (lo:=0) (n:=G.sum) (λi=>decide (0<=i) && p.testBit i.toNat) (λi=>.int i) (Aw<|by lia) (λi hi H' IN R kk=>?_) (λi hi _ H' IN R kk=>kk H'<|Al.refl H')<|λD S1 hD ZY Ts=>?_
  .refine⟨by lia,U,?_⟩;rw[cu];have k2:=kk H'<|Al.refl H'
   rw[_v (show (0:_i)<=0+(i:_i) by lia),vk] at k2;exact k2
  rw[gH bS] at Ts;have CO:=sN.trans ZY;refine⟨_,CO _ _ hL,Aw<|by lia,?_⟩;have a6:D≠pL:=_T<|Ak (sN _ _ hL) hD
  refine⟨λb o e=>?_,ps++[p],_,_,_,Ai,?_,by rw[av,pl];rfl,λj p' ej=>?_,U⟩
  .rw[An (Ak e SF)];exact (A.trans CO) _ _ e
  .refine Paired.snoc (Paired.Em P9 λ_ _ ⟨L,e,n1,g⟩=>⟨L,e,n1,by rw[An n1];exact CO _ _ g⟩) ⟨D,U,a6,by rw[An a6];exact Ts⟩
  .by_cases hj:j<ps.length
   .rw[ce hj] at ej;exact AZ j p' ej
   .rw[ci (by lia)] at ej;have e0:j - ps.length=0:=by
     have:=(ag.mp ej).1;rw[bt] at this;lia
    rw[e0] at ej;obtain rfl:=_m ej;rw[show j=i by lia,<-show (0:_i)+((i:_d):_i)=((i:_d):_i) from Int.zero_add _];exact hp
 rintro σ Hx ⟨A,ps,ws,v9,wS,hL,P9,pl,AZ,rfl⟩;have SD:Sd (Dm c) sz (Jx (Dm c) G<|Qh c) (v.map (·.1)) (v.map (·.2)) ts M b ((n:_d):_i) ps:=⟨bR,Ee,by rw[pl],AZ⟩;have a5:Paired (LsB Hx) ps ws:=Paired.Em P9 λ_ _ ⟨L,e,_,g⟩=>⟨L,e,g⟩;have MC:=WB.mono A;have ac:=Rm VQ A;have IP:=Rm M0 A;have bN:=bm.same A;have bd:∀{t:_i}{p:_d},Ex (Dm c) sz (Jx (Dm c) G<|Qh c) (v.map (·.1)) (v.map (·.2)) M t p->p<2 ^ 1200/\(Wd.mem p).length<=388:=λh=>by
  have:=Vz J (ke Y) h;exact⟨ba this<|gT (by decide)<|by lia,bo (gh this) b0⟩
 have an:∀p∈ps,(Wd.mem p).length<=388:=λp hp=>by
  obtain⟨j,ej⟩:=ge hp;exact (bd<|AZ j p ej).2
 have hw:∀h∈M,h.2.1<h.2.2/\h.2.2<=((n:_d):_i) * b:=λz y=>by
  have:=PY z y;exact⟨this.2.2.2.1,this.2.2.2.2⟩
 have eg:∀{X sP:_b T3},Canon X->(∀z t,DN X z t ↔ 0<=z/\∃p,Ex (Dm c) sz (Jx (Dm c) G<|Qh c) (v.map (·.1)) (v.map (·.2)) M t p/\p.testBit z.toNat=_h)->Canon sP->(∀z t,DN sP z t ↔ 0<=z/\0<=t/\∃p,ps[(t / b).toNat]? = _a p/\p.testBit z.toNat=_h)->sP=X:=λc1 v1 c2 v2=>HR c2 c1 λz t=>by rw[v1,v2,SD.cov b1]
 refine⟨x,r,Dm c,sz,_,_,_,_,M,388,U,MC,Z,J,ac,ED,by lia,hw,λt p h=>bd h,by lia,bN,λr' X YY AG MR Rs EC DH D0=>?_,λX YY AG MR EC DH D0=>?_⟩
 .refine⟨r,EN,_,M,U,U,Vd ac AG,Vd IP AG,?_⟩;refine⟨.inr ⟨by lia,by lia⟩,pL,ps,ws,b,U,AG _ _ (λ_ z=>by cases z) hL,Paired.Em a5 λ_ _ ⟨L,e,g⟩=>⟨L,e,AG _ _ (λ_ z=>by cases z) g⟩,by lia,b1,b2,an,λD sP tJ a7 K' MI yi yT=>?_⟩;obtain rfl:=eg EC DH yi yT;refine⟨_,_,D,sP,tJ,U,MI,.inr ⟨r',U,Rm Rs.ro K',yi,D0,bn,a9,λg hg=>?_⟩,MR.same K',q⟩;have p1:=yi.sep.1 g hg;obtain⟨a1,a2,p,a3,a4⟩:=(yT g.1 g.2.1).mp ⟨g,hg,U,nc _,p1⟩;obtain⟨_,c2,p',c3,_⟩:=(yT g.1<|g.2.2 - 1).mp ⟨g,hg,U,by lia,by lia⟩;refine⟨a1,?_,a2,p1,?_⟩
  .have h1:=ge<|Wd.mem_iff.mpr a4
   have h2:g.1.toNat<388:=Í λn=>by
    have:=Vz J (ke Y)<|AZ _ p a3
    rw[z8 (ba this<|gT (by decide)<|by lia)] at a4
    cases a4
   lia
  .have h1:=(ag.mp c3).1;have h0:0<=(g.2.2 - 1) / b:=pT c2<|by lia
   have h2:(g.2.2 - 1) / b<((n:_d):_i):=by lia
   have h3:=Int.lt_mul_of_ediv_lt (show 0<b by lia) h2;lia
 .refine⟨r,EN,_,M,U,U,Vd ac AG,Vd IP AG,?_⟩;refine⟨.inr ⟨by lia,by lia⟩,pL,ps,ws,b,U,AG _ _ (λ_ z=>by cases z) hL,Paired.Em a5 λ_ _ ⟨L,e,g⟩=>⟨L,e,AG _ _ (λ_ z=>by cases z) g⟩,by lia,b1,b2,an,λD sP tJ a7 K' MI yi yT=>?_⟩;obtain rfl:=eg EC DH yi yT;exact⟨_,_,D,sP,tJ,U,MI,.inl ⟨U,D0⟩,MR.same K',q⟩
end
end K61
end PartK61a
set_option maxHeartbeats 4000000
theorem UL1{α:Type}{us:_b α}(h:us.length=1):∃a,us=[a]:=match us,h with | [a],_=>⟨a,U⟩
theorem UL2{α:Type}{us:_b α}(h:us.length=2):∃a b,us=[a,b]:=match us,h with | [a,b],_=>⟨a,b,U⟩
theorem UL3{α:Type}{us:_b α}(h:us.length=3):∃a b c,us=[a,b,c]:=match us,h with | [a,b,c],_=>⟨a,b,c,U⟩
theorem UL4{α:Type}{us:_b α}(h:us.length=4):∃a b c d,us=[a,b,c,d]:=match us,h with | [a,b,c,d],_=>⟨a,b,c,d,U⟩
theorem UL5{α:Type}{us:_b α}(h:us.length=5):∃a b c d e,us=[a,b,c,d,e]:=match us,h with | [a,b,c,d,e],_=>⟨a,b,c,d,e,U⟩
namespace K61
open PySem L2 Og Bw Ro
def cA:_d->(_b _j->Prop)->Prop
 |0,p=>p []
 |n+1,p=>∀v,cA n λl=>p<|v::l
theorem cA.all:∀{n:_d}{p:_b _j->Prop},cA n p->∀us:_b _j,us.length=n->p us
 |0,_,a,[],_=>a
 |_+1,_,a,v::us,e=>(a v).all us<|Nat.succ.inj e
section
variable{K:_s}{q:_A}{ps:_b _A}{R:Prop}{oc ot:_j}{od an odt:_t _g}{wb slt:_E (_t _j)}{kV rV pm oC ct:_j}
theorem fG(r:R)(l:K.lookup f=_a ⟨oc,od,.func<|Ħ x q (Ei st) (DX st) (Ae st) .none kV rV pm an oC ct,wb⟩)
  (c:ű K oC q=_h)(k:Ć K (.ref f)=_h)(b:cA ps.length λus=>bindArgs (Ħ x q (Ei st) (DX st) (Ae st) .none kV rV pm an oC ct) ⟨us,[]⟩=pure (ps.zip us) ):yW K x q st ⟨f,Ħ x q (Ei st) (DX st) (Ae st) .none kV rV pm an oC ct⟩ ps R:=⟨b7 l c k,.all b.all,r⟩
theorem fL{c:_g}(l:K.lookup f=_a ⟨oc,od,.func<|Ħ x q (Ei st) (DX st) (Ae st) .none kV rV pm an (.ref c) ct,wb⟩)(h:ű K (.ref c) q=_h)(k:Ć K (.ref f)=_h):d9 K x q st (FA.mk f<|Ħ x q (Ei st) (DX st) (Ae st) .none kV rV pm an (.ref c) ct).f (FA.mk f<|Ħ x q (Ei st) (DX st) (Ae st) .none kV rV pm an (.ref c) ct).d c:=⟨⟨_,_,_,_,_,_,_,_,U,l,h⟩,k⟩
theorem fB(b:cA ps.length λus=>bindArgs (Ħ x q (Ei st) (DX st) (Ae st) .none kV rV pm an oC ct) ⟨us,[]⟩=pure (ps.zip us)):Binds K (FA.mk f<|Ħ x q (Ei st) (DX st) (Ae st) .none kV rV pm an oC ct).d ps []:=.all b.all
end
theorem eT{α:Type}{p:α->Prop}{t:α}(h:p t):∃t,p t:=⟨t,h⟩
theorem eA{α:Type}{p q:α->Prop}{t:α}(h:p t)(k:q t):∃t,p t/\q t:=⟨t,h,k⟩
theorem kT{K:_s}{o:ü}{its:_E _j}(u:K.lookup a=_a o)(c:o.cls=.type "tuple")(d:o.data=.seq its n)(s:its.size<=sizeLine)(p:Vals xs its.toList):KTup K a xs:=⟨o,its,n,u,c,d,s,p⟩
theorem kD{K:_s}{P:ň}{es:_E DictEntry}(d:K.lookup a=_a ⟨.type "dict",_n,.dict es n,#[]⟩)(k:W.KeysLit P es.toList)(o:(a == sysModules)=_r):KDict K P a:=⟨⟨es,n,d,k⟩,o⟩
theorem mU{l:UX}{w:_O}{K:_s}{f c1 P1:_g}(X:K.In h)(G:h.Ns mainGlobals mg)(c:mg "law" = _a (.ref f)){d n k p m j:_g}{aD:Ad}{g:_g}
  (T:Txt K w.params mg C d m j aB aP aM)(t:U_ K aB aP aM)(N:Vb K mg C c1 aD)(i:yX K mg d n k p)(o:Δ K mainGlobals "law" = _a (_a<|.ref g))(Z:∃fd,Yb K "law" "law" gk g fd/\∀(s:_C)(v:_j),Ż s fd ⟨[v],[]⟩ [("_law_script",v)])
  : ∃fd:ė,(∀(s:_C)(v:_j),Ż s fd ⟨[v],[]⟩ [("_law_script",v)])/\∀base:Θ,K.In base->base.Ns mainGlobals mg->(∀q∈[(c1,P1)],Hl mg base q.1 q.2)->Gu l.prog w K mg base BW 11 f fd gK (Zg K<|tb P1):=by
 have e:=c.symm.trans<|W.mg_of X G o
 cases e;obtain⟨fd,a,b⟩:=Z;exact⟨fd,b,λbase _ _ r=>nU a N T (r (c1,P1)<|by simp) t i⟩
theorem walk{l:UX}{q:Ð}{e:_b _A}{i:(_A->_t _j)->Θ->Prop}{b:_O->Θ->Prop}{d:DefRec}{K:ň->_s}{c1 P1:_g}(j:l.most=_a 63)(g:d.params.defaults=[])
  (A:∀(w:_O)(h:Θ),b w h->(K w.params).In h)(r:∀w:_O,_ao (K w.params)=_h)
  (t:∀(w:_O)(mg B:_A->_t _j)(v:ExcName->_t _j)(h:Θ),_aK q (W.looseW q e) v mg B h->(K w.params).In h->_an [(c1,P1)] h)
  (F:∀(w:_O)(mg:_A->_t _j)(c:_g)(h:Θ),(K w.params).In h->h.Ns mainGlobals mg->mg d.name=_a (.ref c) ->
   ∃fd:ė,(∀(s:_C)(u:_j),Ż s fd ⟨[u],[]⟩ [("_law_script",u)])/\∀base:Θ,(K w.params).In base->base.Ns mainGlobals mg->(∀q∈[(c1,P1)],Hl mg base q.1 q.2)->Gu l.prog w (K w.params) mg base BW 11 c fd gK (Zg (K w.params)<|tb P1)) :
  W.WalkO q e i b l.row.toRowW d [] (λf vs=>PySem.call f vs) :=
 L2.Y4 (n:=63) (k:=11) (tabs:=[(c1,P1)]) (x:="_law_script") (CX:=λ_=>BW) (sp:=λw=>Zg (K w.params)<|tb P1) j (by decide) g ⟨U,by decide,by decide⟩ A r t F (λ_ H a p y m o=>⟨a,p,U,o,y,.inl<|m _<|be ..,λ_=>rfl⟩) λ_ _ _ _ _ z=>z
end K61
open PySem PySem.W PyProof.Rows
open L2 Og K61 Bw Ro
namespace PySem.W.Fast
theorem tw12418657586773095327:True:=⟨⟩
theorem tw3276110666821279978:True:=⟨⟩
local macro_rules|`(command|universe tw)=>do
 let t←`(command|theorem x:True:=⟨⟩)
 return Lean.mkNullNode ((((List.range 840).map fun i=>s!"o_{i+43}")++"env_41 heap_39 heap_46 heap_883 sts_49 sts_71 sts_86 sts_101 sts_123 sts_164 sts_242 sts_320 sts_389 sts_409 sts_491 sts_522 sts_747 sts_828 tree_47 tree_70 tree_85 tree_100 tree_122 tree_163 tree_241 tree_319 tree_388 tree_406 tree_490 tree_521 tree_659 tree_743 tree_827 tree_882 view_39".splitOn " ").map fun s=>t.raw.setArg 1 (t.raw[1].setArg 1 (t.raw[1][1].setArg 0 (Lean.mkIdent (.mkSimple s!"tw{(`PySem.Challenge.cw_windchest_k61_barrels_by_sounds_holds ++ .mkSimple s).hash}"))))).toArray
universe tw
end PySem.W.Fast
set_option maxRecDepth 100000 in
set_option maxHeartbeats 0 in
theorem PySem.Challenge.cw_windchest_k61_barrels_by_sounds_holds : PySem.Challenge.rw_windchest_k61_barrels_by_sounds.Holds := by
 w_on; o_law; k_head; (case hw=>w_witness2)
 k_fill
 refine K61.walk (l:=PySem.Challenge.rw_windchest_k61_barrels_by_sounds) (c1:=259) (P1:=255) rfl rfl (fun w h Y=>PySem.W.km_in_of Y) ?nt ?T ?F
 case nt=>exact (fun w=>by kernel_rfl)
 case T =>
  intro w mg mb mean h T KX;exact List.forall_mem_cons.mpr ⟨PySem.W.tab_of (x:="holes_of") (c:=259) (P:=255) T KX rfl (by kernel_rfl),fun _ h=>nomatch h⟩
 case F =>
  intro w mg fa h KX G hmg;apply K61.mU (c1:=259) (P1:=255) KX G hmg (aD:=.mk ..);repeat' first | apply Txt.mk | apply Vb.mk | apply U_.mk | apply KF.mk | apply yX.mk
  iterate 2 repeat' (show (_:Prop); first | k_is | (delta Dy; k_is) | exact W.mg_none_of KX G (by k_is) | apply W.mg_of KX G | apply kT | apply kD | apply eA | apply eT | apply Meth.mk | apply Mk.mk | refine fC ?_ ?_ | exact List.forall_mem_nil _ | refine' fG ?_ ?_ ?_ ?_ ?_ | refine' fL ?_ ?_ ?_ | refine' fB ?_ | exact Rc.of (by kernel_rfl!) | apply V9.mk | kernel_rfl! | apply b7 | exact fun _ _=>.of_eq rfl | ((repeat intro _); rfl) | exact .nil | refine .cons ⟨_,rfl⟩ ?_ | decide +kernel | (k_keys; done))
