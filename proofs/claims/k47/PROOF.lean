import PyProof.Rows.All
import Wide.All
import OpenK.AllK
import PySem.Challenge.RW_windchest_k47_whole_pipes_by_hand
theorem U{α}{a:α}:a=a:=rfl
abbrev vSP:=PySem.Value->PySem.Shared->Prop
def af:=@List.getElem?_eq_getElem
def ag:=@List.getElem?_eq_some_iff
def ah:=@List.length_map
def ai:=@List.mem_of_getElem?
def al:=@Nat.le_refl
def am:=@List.length_append
def ar:=@List.getElem?_map
def av:=@List.mem_singleton
def ax:=@List.length_singleton
def ay:=@List.mem_map
def aE:=@List.mem_map_of_mem
def aI:=@Option.map_eq_some_iff
def aS:=@List.getD_eq_getElem?_getD
def aT:=@List.mem_append
def ba:=@List.map_append
def bb:=@List.map_map
def be:=@List.mem_filter
def bg:=@List.mem_cons_of_mem
def bi:=@List.length_cons
def bo:=@List.size_toArray
def bp:=@Int.toNat_natCast
def bq:=@Nat.lt_of_lt_of_le
def br:=@List.mem_cons_self
def bt:=@PySem.boot_len
def bE:=@List.mem_append_left
def bX:=@List.getElem?_append_right
def cc:=@Nat.lt_of_le_of_lt
def ce:=@List.mem_cons
def cf:=@PyProof.Rows.boot_isinstance
def ci:=@PySem.F.plainAttrs_list
def cm:=@List.length_take
def cq:=@Nat.le_trans
def cr:=@List.length_filter_le
def cw:=@List.filter_eq_self
def cy:=@List.append_nil
def db:=@Nat.ne_of_lt
def dc:=@List.mem_append_right
def dt:=@List.append_assoc
def dA:=@PySem.F.slot_list_append
def dE:=@PySem.F.type_list_append
def dL:=@List.take_add_one
def dS:=@List.getElem?_of_mem
def ee:=@List.map_cons
def eD:=@List.getElem?_eq_none
def eI:=@Bool.false_ne_true
def eJ:=@List.getElem_mem
def eK:=@Nat.zero_le
def eM:=@Bool.and_eq_true
def eP:=@List.take_length
def eR:=@List.filter_cons
def eW:=@List.take_append_drop
def fb:=@List.getElem?_append_left
def fe:=@PyProof.Rows.boot_list
def fg:=@List.filter_map
def fh:=@Bool.eq_iff_iff
def fk:=@List.filter_append
def fm:=@List.nodup_cons
def fo:=@PySem.F.slot_dict_get
def fq:=@List.any_eq_true
def ft:=@Bool.not_eq_true
def fE:=@List.take_of_length_le
def fF:=@List.mem_range
def fI:=@List.take_append_of_le_length
def fN:=@List.map_congr_left
def fR:=@Nat.le_of_lt
def fT:=@List.length_range
def gc:=@PyProof.Rows.boot_int
def gd:=@Nat.not_lt_zero
def ge:=@List.sum_append
def gg:=@List.mem_of_mem_take
def gi:=@List.all_eq_true
def gu:=@List.ext_getElem?
def gx:=@Nat.lt_succ_self
def gy:=@List.mem_iff_getElem
def gE:=@List.map_take
def gI:=@Nat.lt_succ_of_lt
def gL:=@List.idxOf_lt_length_of_mem
def gS:=@Nat.lt_irrefl
def gT:=@List.getElem?_zipWith
def gX:=@PyProof.Rows.boot_all
def hU:=@Bool.true_and
def hV:=@Bool.false_and
def hZ:=@Nat.lt_pow_two_of_testBit
def ic:=@List.pairwise_iff_getElem
def ii:=@List.drop_eq_getElem_cons
def ij:=@List.pairwise_iff_forall_sublist
def im:=@Nat.mul_le_mul_right
def io:=@Option.isSome_iff_exists
def ip:=@List.drop_sublist
def iq:=@Nat.le_succ_of_le
def iA:=@Nat.ne_of_gt
def iE:=@Int.zero_add
def iF:=@Nat.sub_self
def iL:=@PySem.F.plainAttrs_dict
def iN:=@List.reverse_append
def iO:=@List.length_reverse
def iP:=@Int.eq_ofNat_of_zero_le
def iS:=@List.length_drop
def iX:=@List.mem_filterMap
def ja:=@Int.natCast_nonneg
def jp:=@Int.emod_lt_of_pos
def jv:=@Bool.or_eq_true
def jI:=@List.perm_append_comm
def jS:=@PyProof.Rows.boot_str
def ke:=@List.pairwise_map
def kg:=@List.getElem?_zipIdx
def ki:=@Nat.eq_of_testBit_eq
def ko:=@Nat.pow_le_pow_right
def kq:=@List.extract_eq_take_drop
def ku:=@List.nodup_nil
def kx:=@List.lookup_cons
def kz:=@Nat.mod_eq_of_lt
def kA:=@Nat.le_succ
def kB:=@List.length_zipWith
def kC:=@Nat.lt_succ_iff_lt_or_eq
def kF:=@List.length_nil
def kG:=@List.sum_cons
def kK:=@Nat.add_sub_cancel_left
def kL:=@PyProof.Rows.boot_tuple
def kM:=@Int.emod_nonneg
def kN:=@PySem.F.slot_dict_getitem.lookup
def kP:=@List.eraseIdxIfInBounds_toArray
def kQ:=@List.foldl_append
def kS:=@List.nodup_append
def kU:=@List.getElem?_inj
def kX:=@Nat.testBit_or
def lc:=@List.length_replicate
def lh:=@Nat.lt_trans
def lI:=@PySem.F.type_dict_get
def lP:=@PyProof.Rows.boot_any
def ma:=@PyProof.Rows.boot_min
def md:=@Nat.succ_le_succ
def me:=@Nat.le_of_not_lt
def mh:=@List.not_mem_nil
def mm:=@List.countP_cons
def mn:=@List.pairwise_append
def mw:=@List.mem_of_mem_drop
def mx:=@List.dropLast_concat
def mI:=@List.any_cons
def nc:=@Option.map_some
def ng:=@List.foldl_cons
def nt:=@List.map_id
def nE:=@List.map_eq_nil_iff
def nL:=@Nat.lt_two_pow_self
def nS:=@List.map_nil
def nX:=@Nat.lt_or_ge
def oe:=@List.pairwise_cons
def oi:=@List.getElem?_drop
def oj:=@List.getElem?_take
def om:=@List.take_sublist
def on:=@Option.isSome_map
def oo:=@Nat.lt_of_succ_lt
def oq:=@Nat.add_assoc
def zor:=@Nat.le_add_right
def ow:=@List.getElem_map
def oy:=@List.drop_length
def oz:=@Nat.max_eq_right
def oC:=@List.all_map
def oI:=@Int.mul_one
theorem oP{p q r:Prop}(h:p):(p∨q)∨r:=.inl (.inl h)
local macro_rules|`(tactic|decide)=>`(tactic|decide +kernel)
set_option Elab.async false
set_option linter.all false
set_option compiler.extract_closed false
set_option maxRecDepth 100000
noncomputable section
open _root_ renaming List->_a,Nat->_c,decide_eq_true->_i,Int->_j,if_neg->_l,if_pos->_n,Option->_r,of_decide_eq_true->_s,decide_eq_false->_t,absurd->_z,Array->_E,beq_iff_eq->_F,decide_eq_true_eq->_H,Bool->_O,False->Α,beq_eq_false_iff_ne->Ã,String->ã,if_false->å,if_true->ê,decide_false->č,of_decide_eq_false->ē,decide_true->ě,or_congr->Ĺ,or_false->Œ,Decidable->š,DecidableEq->Ŧ,decide_eq_false_iff_not->xj,StateT->yY,false_or->AR,True->Cf,Unit->Cn,bne_self_eq_false->F1,beq_self_eq_true->HV,decide_eq_decide->IC
open Option renaming some->_b,none->_o,bind_eq_some_iff->Ť,getD_none->vS,map->F2
open PySem renaming Addr->_d,wpAny_bind->_e,Value->_k,Str->_m,wpAny_pure->_v,Shared->_C,model->_D,World->_P,wpAny_truthy_bool->_Y,wpAny_field->δ,wpAny_mono->ζ,Heap->χ,Program->Γ,wpAny_newObj_type->Δ,wpAny_holding->Ν,take_succ_filter->Ο,wpAny_rule->Ρ,wpAny_callSpecial?_slot->Æ,SetTable->È,tupleKind_room_in1->Í,wpAny_passesOwn->Ð,Stmt->Ú,wpAny_seqItems->Ü,Obj->Þ,wpAny_call_entry->à,FuncData->ä,wpAny_execs_nil->ç,Around->ì,wpAny_setField_rec->î,codeAny_mono->ö,NameKind->ø,IsPair->ú,call_meetsIn->Č,wpAny_pyIter_tuple->Ď,wpAny_Call_Name_kw->ď,Params->Đ,wpAny_setField->đ,wpAny_pyIter_list->Ę,Builtin->Ĩ,strKind_is->Ī,Pos->ī,codeAny_builtin->ĭ,Env->ŀ,IsZip->ł,BindsTo->ŏ,wpAny_Call_method->Ő,wpAny_execs_cons->Ş,IsPart->Š,Sem->ũ,CmpOp->Ū,sizeLine_eq->ū,seqIndex_of->ŭ,Keyword->Ŷ,wpAny_call->ž,call_meets->ſ,wpAny_standAt->sM,wpAny_onRaise->sN,wpAny_comprehension_free->sQ,wpAny_attempt->sT,wpAny_Call_method0_late->wa,meets_dict_get_default->xC,seqIndex_neg->xD,Tok->y9,wpAny_isTrue_Compare1->zi,GenState->z4,Model->z5,wpAny_updateSeq_pair->AG,wpAny_pyIter_revIter->AO,wpAny_Name->Ct,Result->CD,wpAny_assign_Name->EF,slot_list_getitem->EX,wpAny_pyIter_enum->E',wpAny_storeSet_of->Fs,fits_of_scanBound->FU,wpAny_loadPart_at->FV,wpAny_getItem_of->F6,noFill_tuple_add->F',wpAny_pyIter_zip->G4,codeAny_of_tree->IX,wpAny_Compare1->LM,wpAny_Expr_any->LP,wpAny_notIn_of->LZ,ZipApart->ML,wpAny_newTuple->MS,intBits_le_64->ND,seq_tuple_add->NU,evalPart_none->NY,call_list_seq->Po,plainId_quiet->PF,wpAny_newList->P6,concat_meets->R',ElemsOf->Sf,IsRangeIter->SY,wpAny_in_of->S4,wpAny_of_eq->S6,wpAny_letGo->TB
open PySem.Heap renaming get?_push_of_some->_f,get?_push_size->_A,lt_size->_B,get?_update_other->_Z,size_push->ε,get?_update_self->Μ,SameBut->Å,get?_none_of_le->ý,IsTuple->E8
open Bool renaming true->_g,false->_p,false_ne_true->_Q,false_eq_true->π,and_eq_true->Θ,and_false->Ă,not_eq_true'->ĺ,false_and->B6,false_or->C5,and_true->DO,true_or->EL
open Option.some renaming inj->_h,injEq->NC
open PySem.W renaming Frag->_q,nsIn->_W,kitOne->ξ,findIn->Ξ,keepIn->Ö,kia_one->Û,emptyDict->è,callWith_K->ñ,fnOf->ò,methodCall_KW->ā,mroIn->ć,excIn->Ĉ,instObj->Ċ,hasDictIn->İ,specialIn->ı,codeIn->Ĳ,mapOf_K->ő,plainGet->Ų,plainGet_of->Ž,methodObj->xo,lookIn->xB,find_K->yq,takerIn->CB,takesIn->CF,cellsFrom_some->C0,OpenLaw->Da,plainOver->NG,kitx_list->NI,kitx_dict->NO,handedIn->Rl,isFn->RH,OpenLaw->Se,makesIn->S1,KeysLit->XW
open PyProof.Rows renaming wpS_pure->_u,wpS_bind->_w,Keyed->_I,SortSt->_V,wpS_forRange->η,callWith_type1->ο,wpS_mono->Υ,SortKind->É,elem'_eq->Ê,wpS_modify->Ï,slot_tuple_getitem->ß,IntsAre->ÿ,AllBare->ė,wpS_get->Ě,wpS_lift->ĸ,boot_bool->Ņ,boot_max->ŉ,wpS_reverse->Ű,listUpdate_at->vt,subscriptTail_builtinR->xE,seqEpoch_at->AZ,getElem?_mirror_all->BG,Subscript_->C8,callWith_builtin1->IF,call_int_bit_length->IS,boot_reversed->I7,getElem?_bubble->JO,boot_set->JU,boot_sum->J1,joinOk_of_weight->J',boot_sorted->Lm,IsTup->LF,Call_->LV,slicePart_none->Mb,isTrue_plain->QO
open Array renaming getElem?_toList->_x,getElem?_eq_getElem->_y,length_toList->_G,toList_append->_T,getElem?_eq_some_iff->υ,perm_iff_toList_perm->Ι,toList_push->æ,toList_extract->û,toList_reverse->ü,toList_inj->Ē,toList_zip->Ĕ,getD->ĕ,append_assoc->į,toList_setIfInBounds->Ŕ,toList->ű,size_extract->vr,toList_map->y2,size_zip->AX
open Ne renaming symm->_J
open PySem.Value renaming ref->_K,none->_N,str->ĥ,int->Ŀ,bool->Ō,type->ō,float->ż,isStrOf->A6,isInt->EB,bytes->EC
open List renaming range->_L,size_toArray->_R,getD_eq_getElem?_getD->_X,mem_append_left->ω,length->Ε,replicate->Λ,length_map->Τ,mem_cons->Φ,lookup_cons->Ω,lookup->Á,mem_cons_self->Ä,find?_cons->Ë,zipWith->Ó,not_mem_nil->Ô,map_map->Õ,getElem?_append_left->Ø,map_append->â,getElem?_map->é,take_of_length_le->ë,length_singleton->ó,length_cons->õ,length_append->Ą,of_mem_zip->ĝ,getElem?_reverse->ģ,nodup_nil->ħ,filterMap_cons->Ĭ,mem_singleton->ĵ,map_singleton->Ķ,map->Ļ,nodup_append->ļ,mem_map->Ľ,take_succ_eq_append_getElem->ľ,zipIdx_cons->Ń,ext_getElem->ń,filter_cons->ņ,forIn_cons->Ŋ,nil_append->ŋ,getElem?_append_right->ŕ,drop_zero->ŗ,drop_take->ř,getElem?_eq_some_iff->ţ,all_cons->Ů,getElem?_replicate->ų,getElem?_cons_succ->Ŵ,getElem?_set_self->ŵ,pairwise_lt_range->ŷ,any_map->Ÿ,map_eq_append_iff->Ź,filter_eq_nil_iff->ź,drop_of_length_le->Ż,pairwise_reverse->f_,mem_iff_getElem?->ri,length_filter_le->ry,mem_cons_of_mem->rz,getElem?_set_ne->r_,sum->sg,map_eq_cons_iff->sD,reverse_reverse->sL,drop_succ_cons->uj,getElem?_range->uA,take_succ_cons->ve,mem_map_of_mem->vv,length_zipIdx->wh,zipIdx_append->wP,filter_filter->w_,getElem_idxOf->xi,filter_congr->yy,idxOf_append->yB,reverse_perm->y1,getElem_inj->zh,length_take->zl,mem_reverse->zn,perm_middle->zv,nodup_range->zC,cons_ne_nil->zD,mem_filter->z3,nodup_cons->z8,length_set->As,zipIdx_nil->At,append_nil->A0,forIn_nil->A8,drop_drop->BU,map_id->HU,find?->KG,Nodup->K2
open PySem.PassesOwn renaming never->_M
open PySem.Builtin renaming bitNot->_S,bitAnd->Χ,bitOr->Ć
open PySem.SetTable renaming below->_U,grown->ι,insertAt->c_,Probe->wu,laid->x9,toList_insertAt->UE,slot->US,advance->UU,freeSlot->VW,probe->WH,probeStart->WS,fresh->W',standIn->XE,orStandIn->XP
open PySem.Builtin.SmallTypes renaming nextOf->θ,ownedTupleIsFree->ψ,ownedTupleHandOut->ă
open PySem.NameKind renaming free->ν,cell->Ò,«local»->T8
open False renaming elim->ς
open PySem.Calls renaming callWith_builtin->Β,spliced_cons->Â,evalArgs_plain->Ñ,spliced_nil->ċ,Name_function_global->Ŏ
open Nat renaming zero_le->Ζ,le_refl->Η,zero_testBit->Ė,le_of_eq->Ĝ,min_eq_left->ġ,testBit_and->Ģ,testBit_xor->œ,sub_zero->p',min_self->rq,le_trans->rx,testBit_two_pow->wp,add_sub_cancel->y8,and_le_left->B1,add_zero->HE
open True renaming intro->Κ
open PySem.Obj renaming mapSeq->Ψ,data_mapFields->Ç,mapFields->á,isFreed_of_fields->ô,putSet->ť
open ForInStep renaming yield->À
open PySem.Builtin.Slice renaming slicePlaces->Ì,sliceAdjust->ù,sliceApplied->ĳ,slicePartIndex->GA,sliceFields->GE
open PySem.Builtin.Tuple renaming tupleExact->Î,tupleItemsOf->G1
open PySem.F renaming slot_tuple_iterator_next->Ù,called_set->Ý,slot_zip_next->Ħ,args_tuple_iterator_next_1->Ţ,entry_tuple_iterator_next->ů,args_zip_next_1->A9,entry_list_pop->C',entry_zip_next->DI,slot_list_pop->E7,plain_set_new->Fc
open PySem.Heap.SameBut renaming update->í,refl->I'
open PySem.Builtin.Int renaming intBits->ï
open PySem.Shared renaming mk->ð,heap->DH
open PySem.Builtin.List renaming listTooLong->þ
open BitVec renaming toNat_ofNat->Ā,ofNat->BF
open Prod renaming snd->ą,fst->B'
open Int renaming emod_lt_of_pos->ĉ,emod_nonneg->Ĥ,fdiv_eq_ediv_of_nonneg->ş,one_mul->s_,toNat_natCast->zk,natCast_add->B8,add_zero->Iy,toNat->P'
open PySem.SetTable.probe renaming go->ę
open PySem.Str renaming ofString->Ğ,length->Mn
open PyProof.Rows.F renaming plain_set_update_loop->ğ,entry_set_update_loop->sv
open PySem.Around renaming under_plainId->Ġ,under->Ŭ
open PySem.Data renaming cell->ĩ,fields->Ň,seq->A7
open Nat.succ renaming inj->Į
open PySem.SeqAt.RcNeAt renaming lists_lengths->Ĵ,lists->Ŗ
open Array.Perm renaming refl->ķ
open Iff renaming rfl->Ł
open List.Pairwise renaming filter->ň,nil->G2
open List.Perm renaming append_left->Ř,refl->tj,append_right->SE
open PySem.SeqAt.EqAt renaming int_none->Ś,str_none->ś,none_int->Ŝ,none_str->ŝ,int_str->ŧ,str_int->Ũ,same->Ox,none_bool->OB,bool_none->OF,bool_bool->OK,bool_int->ON,bool_str->OW,int_bool->OY,int_int->O1,str_bool->Pc,str_str->Pm
open Nat renaming lt_of_lt_of_eq->wT,le_antisymm->Fr,lt_of_le_of_ne->IO,le_of_lt_succ->KE,le_add_left->LE,le_of_succ_le->LT,not_lt_of_le->Tm,le_of_add_right_le->Ty,sub_le->XL,le_of_succ_le_succ->YN,succ_lt_succ->Y',lt_succ_of_le->zaa,add_right_comm->zab,add_comm->zac,add_le_add_left->zae,add_lt_add_right->zag,add_le_add_right->zah,add_le_add->zai
open Int renaming ofNat_lt->BT,ofNat_le->KK,le_of_lt->ST,ne_of_gt->YP,le_trans->YU,lt_of_le_of_lt->Y2,not_lt_of_ge->Zs,lt_of_lt_of_le->zad,add_nonneg->zaf
namespace L2
open PySem PySem.Spec PyProof.Rows
variable{n i j m t' dr sh ia:_c}{s:_C}{a C x p f y Cy sd b B RA dx pE pA aB aP aM pd z Cp KN:_d}{pos i5:ī}{A:ì}{E Q:vSP}{a8:_a (_d×Þ)}{P prog:Γ}{u:_k}{h h' base:χ}{sts:_a _c}{es pj:_a Expr}{t qual:_m}{tg iter qc:Expr}{ps ns nms:_a _m}{c:_j}{fd:ä}{scope:Scope}{mg:_m->_r _k}{led:_O}{cn:_c->_m}{fp:_a _d}
inductive Key where
 | inl(i:_j) | inr (x:_m) | no
 deriving Ŧ
noncomputable def M4:Key->_k->_O
 |.inl k,v=>EB k v
 |.inr x,v=>A6 x v
 |.no,v=>match v with | .none=>_g | _=>_p
noncomputable def keyH(w:_P):Key->_j
 |.inl k=>hashInt k
 |.inr x=>hashStr w x
 |.no=>reduceHash 4238894112
theorem Cd:∀{k:Key}{v:_k},M4 k v=_g->(∃i t,k=Key.inl i/\v=Ŀ i t) \/ (∃x t,k=Key.inr x/\v=ĥ x t) \/ (k=Key.no/\v=_N)
 |.inl i,v,h=>by
  obtain⟨t,e⟩:=Value.isInt_shape (k:=i) (v:=v) h;exact .inl ⟨i,t,U,e⟩
 |.inr x,v,h=>by
  obtain⟨t,e⟩:=Value.isStrOf_shape (x:=x) (v:=v) h;exact .inr<|.inl ⟨x,t,U,e⟩
 |.no,v,h=>by
  cases v <;> first | exact .inr (.inr ⟨rfl,rfl⟩) | exact nomatch h
theorem ZK(i:_j)(t:y9):M4 (.inl i) (.int i t)=true:=by simp[M4,EB]
theorem ZG(x:_m)(t:y9):M4 (.inr x) (.str x t)=true:=by simp[M4,A6]
theorem pW(a b:_j):decide ((Key.inl a:Key)=Key.inl b)=(a == b):=by
 by_cases e:a=b
 .subst e;simp
 .have h:¬ (Key.inl a:Key)=Key.inl b:=λq=>e<|Key.inl.inj q
  rw[_t h];exact (Ã.mpr e).symm
theorem tW(a b:_m):decide ((Key.inr a:Key)=Key.inr b)=decide (a=b):=by
 by_cases e:a=b
 .subst e;simp
 .have h:¬ (Key.inr a:Key)=Key.inr b:=λq=>e<|Key.inr.inj q
  rw[_t h,_t e]
theorem qG(a:_j)(b:_m):decide ((Key.inl a:Key)=Key.inr b)=false:=_t (λq=>nomatch q)
theorem oZ(a:_m)(b:_j):decide ((Key.inr a:Key)=Key.inl b)=false:=_t (λq=>nomatch q)
theorem ZQ{w:_P}{Q:_j->_C->Prop}(h:Q (reduceHash 4238894112) { s with toks:=s.toks+1 }):wpAny (_D prog w) A (pyHash .none) Q E s:=by
 refine W.pyHash_slot (T:="NoneType") (id:="NoneType.__hash__") (B:=Ĩ.«NoneType.__hash__») U PySem.F.slot_NoneType_hash U U U (.inl U) ?_;unfold Ĩ.«NoneType.__hash__»;refine _e ?_;rw[show slotArgs "__hash__" 0 { pos:=[_N] }=pure (_N,[]) from rfl];refine _v ?_;unfold retInt;exact _e<|wpAny_mkInt<|_v ⟨_,_,U,h⟩
theorem jY{w:_P}{Q:_O->_C->Prop}(h:Q _g s):wpAny (_D prog w) A (eqBool .none .none) Q E s:=by
 unfold eqBool;rw[_n (show ((_N:_k) == _N)=_g from rfl)];exact Ν<|_e<|Ρ<|_v h
def Bm(prog:Γ)(w:_P):PySem.KeyKind prog w Key where
 is:=M4
 hash:=keyH w
 inj:=λv a b ha hb=>by
  rcases Cd ha with⟨i,t,rfl,rfl⟩ | ⟨x,t,rfl,rfl⟩ | ⟨rfl,rfl⟩ <;> rcases Cd hb with⟨j,u,rfl,e⟩ | ⟨y,u,rfl,e⟩ | ⟨rfl,e⟩ <;> first | rfl | (cases e;done) | (injection e with e1 _;rw[e1])
 byValue:=λk v h=>by
  rcases Cd h with⟨i,t,rfl,rfl⟩ | ⟨x,t,rfl,rfl⟩ | ⟨rfl,rfl⟩ <;> rfl
 pyHash:=λhv h=>by
  rcases Cd hv with⟨i,t,rfl,rfl⟩ | ⟨x,t,rfl,rfl⟩ | ⟨rfl,rfl⟩
  .exact wpAny_pyHash_int h
  .exact wpAny_pyHash_str h
  .exact ZQ h
 eqBool:=λhu hv h=>by
  rcases Cd hu with⟨i,t,rfl,rfl⟩ | ⟨x,t,rfl,rfl⟩ | ⟨rfl,rfl⟩
  .rcases Cd hv with⟨j,u,rfl,rfl⟩ | ⟨y,u,rfl,rfl⟩ | ⟨rfl,rfl⟩
   .rw[pW] at h;exact wpAny_eqBool_int h
   .rw[qG] at h;exact ŧ i t y u _ _ _ _ h
   .exact Ś i t _ _ _ _ h
  .rcases Cd hv with⟨j,u,rfl,rfl⟩ | ⟨y,u,rfl,rfl⟩ | ⟨rfl,rfl⟩
   .rw[oZ] at h;exact Ũ x t j u _ _ _ _ h
   .rw[tW] at h;exact wpAny_eqBool_str h
   .exact ś x t _ _ _ _ h
  .rcases Cd hv with⟨j,u,rfl,rfl⟩ | ⟨y,u,rfl,rfl⟩ | ⟨rfl,rfl⟩
   .exact Ŝ j u _ _ _ _ h
   .exact ŝ y u _ _ _ _ h
   .exact jY h
 «strs»:=λk x t v h=>by
  rcases Cd h with⟨i,u,rfl,e⟩ | ⟨y,u,rfl,e⟩ | ⟨rfl,e⟩
  .exact nomatch e
  .injection e with e1 _
   subst e1
   cases v <;> rfl
  .exact nomatch e
theorem U6(prog:Γ)(w:_P)(i:_j)(t:y9):(Bm prog w).is (.inl i) (.int i t)=true:=ZK i t
theorem TX(prog:Γ)(w:_P)(x:_m)(t:y9):(Bm prog w).is (.inr x) (.str x t)=true:=ZG x t
inductive V where
 | non | bl (b:_O) | int (i:_j) | str (x:_m) | byt (b:_E UInt8) | flt (b:UInt64) | ref (a:_d) | ty (n:ã)
 deriving Ŧ
def RelV:V->_k->Prop
 |.non,u=>u=_N
 |.bl b,u=>u=Ō b
 |.int i,u=>∃t,u=Ŀ i t
 |.str x,u=>∃t,u=ĥ x t
 |.byt b,u=>∃t,u=EC b t
 |.flt b,u=>∃t,u=ż b t
 |.ref a,u=>u=_K a
 |.ty n,u=>u=ō n
abbrev Vals:_a V->_a _k->Prop:=Paired RelV
theorem Vals.length{xs:_a V}{us:_a _k}(r:Vals xs us):xs.length=us.length:=Paired.length r
theorem Vals.get:∀{xs:_a V}{us:_a _k}{i:_c}{x:V},Vals xs us->xs[i]? = _b x->∃u,us[i]? = _b u/\RelV x u
 |_,_,_,_,.nil,e=>by simp at e
 |_,_,0,_,.cons r _,e=>by simp at e;subst e;exact⟨_,U,r⟩
 |_,_,i+1,x,.cons _ t,e=>by
  obtain⟨u,a,b⟩:=Vals.get (i:=i) (x:=x) t<|by simpa using e
  exact⟨u,by simpa using a,b⟩
theorem Vals.set{x:V}(r:RelV x u):∀{xs:_a V}{us:_a _k}(i:_c),Vals xs us->Vals (xs.set i x) (us.set i u)
 |_,_,_,.nil=>.nil
 |_,_,0,.cons _ t=>.cons r t
 |_,_,i+1,.cons q t=>.cons q<|Vals.set r i t
theorem Vals.append:∀{xs ys:_a V}{us ws:_a _k},Vals xs us->Vals ys ws->Vals (xs++ys) (us++ws)
 |_,_,_,_,.nil,s=>s
 |_,_,_,_,.cons r t,s=>.cons r<|Vals.append t s
theorem Vals.take:∀{xs:_a V}{us:_a _k}(n:_c),Vals xs us->Vals (xs.take n) (us.take n)
 |_,_,0,_=>.nil
 |_,_,_+1,.nil=>.nil
 |_,_,n+1,.cons r t=>.cons r<|Vals.take n t
theorem Vals.drop:∀{xs:_a V}{us:_a _k}(n:_c),Vals xs us->Vals (xs.drop n) (us.drop n)
 |_,_,0,r=>r
 |_,_,_+1,.nil=>.nil
 |_,_,n+1,.cons _ t=>Vals.drop n t
def Iw:_r V->_r _k->Prop
 |some v,_b u=>RelV v u
 |none,_o=>Cf
 |_,_=>Α
def KV{κ:Type}:_a (κ×V)->_a (κ×_k)->Prop:=Paired λ(p:κ×V) (q:κ×_k)=>p.1=q.1/\RelV p.2 q.2
def kV:Key->V
 |.inl i=>.int i
 |.inr x=>.str x
 |.no=>.non
inductive HO where
 | lst(xs:_a V)
 | tup(xs:_a V)
 | dK(kvs:_a (Key×V)) | dT (kvs:_a (_a Key×V))
 | set(S:_j->_O)(n:_c)
 | ins(C dx:_d)(fs:_a (_m×V))
 | own(x:_d)
 | xd(fs:_a (_m×V))
 | met(f x:_d)
 | rng(lo hi:_j)
 | frz(o:Þ)(u:HO)
 | tbl(ps:_E _k)
 | ext(φ:χ->Prop)
variable{xs vs us ys:_a V}{kvs:_a (Key×V)}{o:HO}
abbrev Hp:=_d->_r HO
variable{H H' H1 Ho Hx H2:Hp}
noncomputable def upd(H:Hp)(a:_d)(o:HO):Hp:=λb=>if b=a then _b o else H b
theorem Ah:upd H a o a=_b o:=by unfold upd;rw[_n U]
theorem Ak(h:b≠a):upd H a o b=H b:=by unfold upd;rw[_l h]
theorem mV{u:HO}(h:H a=_b o)(h':H b=_b u)(d:o≠u):a≠b:=by
 intro e;subst e;rw[h] at h';exact d<|_h h'
theorem Ag(h:H a=_b o)(h':H b=_o):a≠b:=by
 intro e;subst e;rw[h] at h';cases h'
section
variable(P:Γ)(w:_P)
def CG(H:Hp)(h:χ)(a:_d):HO->Prop
 |.lst xs=>xs.length<=sizeLine/\∃(its:_a _k)(n:_c),Vals xs its/\h.get? a=_b { cls:=.type "list",data:=.seq its.toArray n }
 |.tup xs=>xs.length<=sizeLine/\∃its:_a _k,Vals xs its/\LF h a its.toArray
 |.dK kvs=>kvs.length<=sizeLine/\(a == sysModules)=_p/\∃vs,KV kvs vs/\h.DictOf (Bm P w) a vs
 |.dT kvs=>kvs.length<=sizeLine/\(a == sysModules)=_p/\∃xs:_a<|_a Key×_d×_k,
   Paired (λ(p:_a Key×V) (q:_a Key×_d×_k)=>p.1=q.1/\H q.2.1=_b (.tup<|p.1.map kV)/\RelV p.2 q.2.2) kvs xs /\
   ∃o es ep,h.get? a=_b o/\o.ExactDict/\o.data=.dict es ep/\es.toList=xs.map (entryOfKey<|tupleKind<|Bm P w)/\(xs.map (·.1)).Nodup
 |.set S n=>h.SetOf (intKind P w) a S n
 |.ins C dx fs=>H dx=_b (.own a)/\fs.length<=1000/\dx≠a/\h.get? a=_b (Ċ C dx) /\
   ∃mA,h.Ns1 dx mA/\(∀f,Iw (fs.lookup f)<|mA f)/\PySem.Within mA (fs.map (·.1))
 |.own _=>∃o,h.get? a=_b o
 |.xd fs=>∃mA,h.Ns1 a mA/\∀f,Iw (fs.lookup f)<|mA f
 |.rng lo hi=>∃t u v,h.get? a=_b { cls:=.type "range",data:=.fields #[.int lo t,.int hi u,.int 1 v] }
 |.frz o u=>h.get? a=_b o/\CG H h a u
 |.tbl ps=>h.get? a=_b { cls:=.none,data:=.fields ps }
 |.met f x=>h.get? a=_b (xo (.ref f)<|.ref x)
 |.ext φ=>φ h/\(∃o,h.get? a=_b o)/\∀h1 h2:χ,φ h1->(∀o,h1.get? a=_b o->h2.get? a=_b o)->φ h2
def Gg(H:Hp)(h:χ):Prop:=∀a o,H a=_b o->CG P w H h a o
end
section
variable{w:_P}
theorem CG.lt(x:CG P w H h a o):a<h.objs.size:=by
 cases o with
 |lst c=>obtain⟨_,_,_,_,e⟩:=x;exact _B e
 |tup c=>obtain⟨_,_,_,p⟩:=x;exact p.lt
 |dK b=>obtain⟨_,_,_,_,o,_,_,e,_⟩:=x;exact _B e
 |dT b=>obtain⟨_,_,_,_,o,_,_,e,_⟩:=x;exact _B e
 |set S n=>obtain⟨o,_,_,_,e,_⟩:=x;exact _B e
 |ins C j fs=>obtain⟨_,_,_,e,_⟩:=x;exact _B e
 |own y=>obtain⟨_,e⟩:=x;exact _B e
 |xd fs=>obtain⟨_,⟨_,_,_,e,_⟩,_⟩:=x;exact _B e
 |rng lo g=>obtain⟨_,_,_,e⟩:=x;exact _B e
 |frz i u=>obtain⟨e,_⟩:=x;exact _B e
 |tbl d=>exact _B (show h.get? a=_b _ from x)
 |met f y=>exact _B (show h.get? a=_b _ from x)
 |ext φ=>obtain⟨_,⟨_,e⟩,_⟩:=x;exact _B e
theorem Paired.Jt{α β:Type}{F G:α->β->Prop}:∀{l₁:_a α}{l₂:_a β},Paired F l₁ l₂->(∀a b,F a b->G a b)->Paired G l₁ l₂
 |_,_,.nil,_=>.nil
 |_,_,.cons r t,f=>.cons (f _ _ r)<|Paired.Jt t f
theorem CG.stay(x:CG P w H h a o)(k:∀b u,(b=a \/ H b=_b (.own a))->h.get? b=_b u->h'.get? b=_b u)
  (E:∀b,H b=_b (.own a)->H' b=_b (.own a))(D:∀b xs,H b=_b (.tup xs)->H' b=_b (.tup xs)):CG P w H' h' a o:=by
 induction o with
 |lst xs=>obtain⟨z,l,n,r,e⟩:=x;exact⟨z,l,n,r,k _ _ (.inl U) e⟩
 |tup xs=>obtain⟨z,l,r,g,e,c⟩:=x;exact⟨z,l,r,g,k _ _ (.inl U) e,c⟩
 |dK m=>obtain⟨z,y,G,r,g,j,i,e,c⟩:=x;exact⟨z,y,G,r,g,j,i,k _ _ (.inl U) e,c⟩
 |dT m =>
  obtain⟨z,y,xs,r,g,j,i,e,c⟩:=x;exact⟨z,y,xs,Paired.Jt r λp q z=>⟨z.1,D _ _ z.2.1,z.2.2⟩,g,j,i,k _ _ (.inl U) e,c⟩
 |set S n=>obtain⟨g,j,i,t,e,c⟩:=x;exact⟨g,j,i,t,k _ _ (.inl U) e,c⟩
 |ins C K fs =>
  obtain⟨d,z,ne,e,A,⟨s,j,i,F,c⟩,r⟩:=x;exact⟨E _ d,z,ne,k _ _ (.inl U) e,A,⟨s,j,i,k _ _ (.inr d) F,c⟩,r⟩
 |own y=>obtain⟨g,e⟩:=x;exact⟨g,k _ _ (.inl U) e⟩
 |xd fs=>obtain⟨A,⟨s,j,i,e,c⟩,r⟩:=x;exact⟨A,⟨s,j,i,k _ _ (.inl U) e,c⟩,r⟩
 |rng lo J=>obtain⟨t,u,v,e⟩:=x;exact⟨t,u,v,k _ _ (.inl U) e⟩
 |frz g u I=>obtain⟨e,q⟩:=x;exact⟨k _ _ (.inl U) e,I q⟩
 |tbl B =>
  have e:h.get? a=_b { cls:=.none,data:=.fields B }:=x;show h'.get? a=_b { cls:=.none,data:=.fields B };exact k a _ (.inl U) e
 |met f y =>
  have e:h.get? a=_b (xo (.ref f)<|.ref y):=x;show h'.get? a=_b (xo (.ref f)<|.ref y);exact k a _ (.inl U) e
 |ext φ=>obtain⟨p,⟨o,e⟩,st⟩:=x;exact⟨st _ _ p λo q=>k _ _ (.inl U) q,⟨o,k _ _ (.inl U) e⟩,st⟩
theorem Gg.lt(x:Gg P w H h)(e:H a=_b o):a<h.objs.size:=(x a o e).lt
theorem Gg.fresh(x:Gg P w H h)(e:h.objs.size<=a):H a=none:=by
 cases q:H a with
 |none=>rfl
 |some u=>exact _z (bq (x.lt q) e)<|gS _
theorem Gg.kept(x:Gg P w H h)(k:∀b u,h.get? b=_b u->h'.get? b=_b u):Gg P w H h':=λa o e =>
 (x a o e).stay (λb u _ q=>k b u q) (λ_ q=>q) λ_ _ q=>q
theorem Gg.laid(x:Gg P w H h)(k:∀b u,h.get? b=_b u->h'.get? b=_b u)(g:h.objs.size<=a)(new:CG P w (upd H a o) h' a o):Gg P w (upd H a o) h':=λb u e=>by
 have d:=x.fresh g;by_cases f:b=a
 .subst f;rw[Ah] at e;cases e;exact new
 .rw[Ak f] at e;exact (x b u e).stay (λc v _ q=>k c v q) (λc q=>by rw[Ak (Ag q d)];exact q) λc i q=>by rw[Ak (Ag q d)];exact q
end
def Rd(H:Hp)(a:_d)(u:HO):Prop:=H a=_b u \/ ∃o,H a=_b (.frz o u)
theorem Rd.ok{w:_P}{u:HO}(r:Rd H a u)(x:Gg P w H h):CG P w H h a u:=by
 rcases r with r | ⟨o,r⟩
 .exact x a u r
 .obtain⟨_,q⟩:=x a _ r;exact q
def yt:_r HO->Prop
 |some (.lst _)=>Cf
 |some (.dK _)=>Cf
 |some (.dT _)=>Cf
 |some (.set _ _)=>Cf
 |some (.ins _ _ _)=>Cf
 |some (.ext _)=>Cf
 |_=>Α
section
variable{w:_P}{e:_d}{o':HO}
theorem Gg.write(ok:Gg P w H h)(g:yt<|H x)(m:e=x \/ H e=_b (.own x))(k:∀b u,b≠e->h.get? b=_b u->h'.get? b=_b u)(o:∃u,h'.get? e=_b u)
  (new:CG P w (upd H x o') h' x o'):Gg P w (upd H x o') h':=λb u q=>by
 have d:∀c y,H c=_b (.own y)->c≠x:=λc y r z=>by subst z;rw[r] at g;exact g
 have f:∀c i,H c=_b (.tup i)->c≠x:=λc i r z=>by subst z;rw[r] at g;exact g
 by_cases l:b=x
 .subst l;rw[Ah] at q;cases q;exact new
 .rw[Ak l] at q;by_cases a:b=e
  .have n:H b=_b (.own x):=by
    rcases m with z | z
    .exact _z (a.trans z) l
    .rw[a];exact z
   rw[q] at n;cases n;obtain⟨v,p⟩:=o;exact⟨v,by rw[a];exact p⟩
  .refine (ok b u q).stay (λc v j r=>k c v ?_ r) (λc r=>by rw[Ak (d c b r)];exact r) λc i r=>by rw[Ak (f c i r)];exact r
   rcases j with rfl | j
   .exact a
   .rintro rfl;rcases m with z | z
    .exact d c b j z
    .rw[j] at z;cases z;exact l U
end
structure Un(fs ex:_a _d)(H H':Hp)(h h':χ):Prop where
 keep:∀b o,h.get? b=_b o->H b=_o->b ∉ fs->b ∉ ex->h'.get? b=_b o
 slot:∀b o,h.get? b=_b o->H b=_o->b∈fs->b ∉ ex->∃sl,h'.get? b=_b { o with slots:=sl }
 free:∀b o,h.get? b=_b o->H b=_o->b ∉ ex->H' b=_o
 there:∀b o,h.get? b=_b o->b ∉ ex->∃o',h'.get? b=_b o'
 tups:∀b xs,H b=_b (.tup xs)->H' b=_b (.tup xs)
 frzs:∀b o u,H b=_b (.frz o u)->H' b=_b (.frz o u)
 tbls:∀b ps,H b=_b (.tbl ps)->∃more,H' b=_b (.tbl<|ps++more)
section
variable{fs rp ex ex':_a _d}{h1 h2:χ}{e:_d}
theorem Un.any(u:Un fs ex H H1 h h1){a:Þ}(q:h.get? b=_b a)(n:H b=_o)(c:b ∉ ex):∃sl,h1.get? b=_b { a with slots:=sl }:=by
 by_cases d:b∈fs
 .exact u.slot b a q n d c
 .exact⟨a.slots,u.keep b a q n d c⟩
theorem Un.trans(a:Un fs ex H H1 h h1)(b:Un fs ex H1 H2 h1 h2):Un fs ex H H2 h h2 where
 keep:=λc d q n i e=>b.keep c d (a.keep c d q n i e) (a.free c d q n e) i e
 slot:=λc d q n i e=>by
  obtain⟨r,f⟩:=a.slot c d q n i e;obtain⟨p,k⟩:=b.slot c _ f (a.free c d q n e) i e;exact⟨p,k⟩
 free:=λc d q n e=>by
  obtain⟨j,f⟩:=a.there c d q e;exact b.free c j f (a.free c d q n e) e
 there:=λc d q e=>by
  obtain⟨j,f⟩:=a.there c d q e;exact b.there c j f e
 tups:=λc g q=>b.tups c g<|a.tups c g q
 frzs:=λc d g q=>b.frzs c d g<|a.frzs c d g q
 tbls:=λc m q=>by
  obtain⟨o,f⟩:=a.tbls c m q;obtain⟨l,k⟩:=b.tbls c _ f;exact⟨o++l,by rw[k,į]⟩
theorem Un.kept(k:∀b u,h.get? b=_b u->h'.get? b=_b u):Un fs ex H H h h' :=
 ⟨λb a q _ _ _=>k b a q,λb a q _ _ _=>⟨a.slots,k b a q⟩,λ_ _ _ n _=>n,λb a q _=>⟨a,k b a q⟩,λ_ _ q=>q,λ_ _ _ q=>q,λ_ c q=>⟨#[],by rw[q];simp⟩⟩
theorem Un.refl:Un fs ex H H h h:=Un.kept λ_ _ q=>q
theorem Un.laid(k:∀b u,h.get? b=_b u->h'.get? b=_b u)(d:h.objs.size<=a)(c:H a=_o):Un fs ex H (upd H a o) h h' where
 keep:=λb u q _ _ _=>k b u q
 slot:=λb u q _ _ _=>⟨u.slots,k b u q⟩
 free:=λb u q n _=>by rw[Ak (db<|bq (_B q) d)];exact n
 there:=λb u q _=>⟨u,k b u q⟩
 tups:=λb e q=>by rw[Ak (Ag q c)];exact q
 frzs:=λb u e q=>by rw[Ak (Ag q c)];exact q
 tbls:=λb f q=>⟨#[],by rw[Ak (Ag q c),q];simp⟩
theorem Un.write(c:yt<|H x)(m:e=x \/ H e=_b (.own x))(k:∀b u,b≠e->h.get? b=_b u->h'.get? b=_b u)(j:∃u,h'.get? e=_b u):Un fs ex H (upd H x o) h h':=by
 have f:∀b,H b=_o->b≠x:=λb n z=>by subst z;rw[n] at c;exact c
 have g:∀b,H b=_o->b≠e:=λb n z=>by
  subst z;rcases m with r | r
  .exact f b n r
  .rw[n] at r;cases r
 have d:∀b u,H b=_b u->¬ yt (_b u)->b≠x:=λb u q i z=>by subst z;rw[q] at c;exact i c
 refine⟨λb u q n _ _=>k b u (g b n) q,λb u q n _ _=>⟨u.slots,k b u (g b n) q⟩,λb u q n _=>by rw[Ak (f b n)];exact n,λb u q _=>?_,
  λb l q=>by rw[Ak (d b _ q λz=>z)];exact q,λb u l q=>by rw[Ak (d b _ q λz=>z)];exact q,λb p q=>⟨#[],by rw[Ak (d b _ q λz=>z),q];simp⟩⟩
 by_cases a:b=e
 .subst a;exact j
 .exact⟨u,k b u a q⟩
end
noncomputable def trk(h:χ)(H:Hp):_a Addr:=(_L h.objs.size).filter λa=>(H a).isSome
def RX(h:χ)(H:Hp):Heap:=W.hideAll h<|trk h H
theorem ZC(h:χ)(H:Hp):(RX h H).objs.size=h.objs.size:=W.hideAll_size _ _
theorem cj{o:Þ}(e:h.get? b=_b o)(n:H b=_o):(RX h H).get? b=_b o :=
 W.hideAll_get _ e λa=>by
  have q:(H b).isSome=true:=(be.mp a).2;rw[n] at q;simp at q
theorem j9{o:Þ}(e:(RX h H).get? b=_b o):h.get? b=_b o/\H b=none:=by
 have a:h.get? b=_b o:=W.of_hideAll (trk h H) e;refine⟨a,?_⟩
 cases q:H b with
 |none=>rfl
 |some x =>
  have c:b∈trk h H:=z3.mpr ⟨List.mem_range.mpr<|_B a,by simp[q]⟩;have z:(RX h H).get? b=none:=W.hideAll_none (trk h H) c;rw[z] at e;cases e
noncomputable def jx(g h:χ)(L:_d):_a<|_d×Obj:=(_L h.objs.size).filterMap λa=>if a=L \/ (g.get? a).isSome=_g then _o else (h.get? a).map λo=>(a,o)
def rest(g h:χ)(L d:_d):_a<|_d×Obj:=(jx g h L).filter λp=>decide (p.1≠d)
structure Mod(K:_q)(mg:_m->_r _k)(base:χ):Prop where
 kin:K.In base
 glob:base.Ns mainGlobals mg
 blt:∃mb,base.Ns builtinsNs mb/\∀x:_m,x≠"__name__"->mb x=bootBuiltins x
 nolimit:base.NoLimit
structure Cx where
 prog:Γ
 w:_P
 K:_q
 mg:_m->_r _k
 base:χ
 A:ì
 N:_a _m
 s₀:_C
 H₀:Hp
 env:ŀ
 outer:_a ŀ
 stack:_a ŀ
 ex:_a _d
 fn:_m->_O
 calm:_O
 pn:_a<|_d×Þ
 xe:_k->_C->Prop
def frs(l:_a ŀ):_a Addr:=l.filterMap (·.frame)
noncomputable abbrev Cx.fs(X:Cx):_a Addr:=frs X.outer
def Vis(sc:Scope)(x:_m):Prop:=sc.names.lookup x=_b .local \/ sc.names.lookup x=_b .cell \/ sc.names.lookup x=_b .free
def Loc(sc:Scope)(x:_m):Prop:=sc.names.lookup x=_b .local \/ sc.names.lookup x=_b .cell
def Look(env:ŀ)(h:χ)(m:_m->_r _k)(x:_m)(u:_k):Prop :=
 (env.kindOf x=_b .local/\m x=_b u) \/ ((env.kindOf x=_b .cell \/ env.kindOf x=_b .free)/\∃c,env.cells.lookup x=_b c/\h.IsCell c (_b u))
structure Cx.Ok(X:Cx):Prop where
 mod:Mod X.K X.mg X.base
 kind:X.env.scope.kind=.function
 glob:X.env.globals=mainGlobals
 blt:X.env.builtins=builtinsNs
 above:X.s₀.heap.objs.size<=X.env.locals
 inj:∀x y c,X.env.cells.lookup x=_b c->X.env.cells.lookup y=_b c->x=y
 has:∀x,(X.env.kindOf x=_b .cell \/ X.env.kindOf x=_b .free)->∃c,X.env.cells.lookup x=_b c
 cab:∀x c,X.fn x=_g->X.env.cells.lookup x=_b c->X.s₀.heap.objs.size<=c
 hd:X.calm=_g->X.A.handled=_o
 frames:X.A.frames=_b X.stack
 stk:X.stack=X.outer \/ (X.stack=X.env::X.outer/\X.env.frame=_b X.env.locals)
 exf:∀b∈X.ex,b≠X.env.locals/\∀x c,X.env.cells.lookup x=_b c->c≠b
 bs:∀b o,X.base.get? b=_b o->X.s₀.heap.get? b=_b o/\X.H₀ b=_o
 bsz:X.base.objs.size<=X.s₀.heap.objs.size
 noex:∀b o,X.base.get? b=_b o->b ∉ X.ex
 exfs:∀b∈X.ex,b ∉ X.fs
 Mh:X.s₀.heap.FunFrames X.base X.outer
 frf:∀b∈X.fs,X.H₀ b=_o
structure Inv(X:Cx)(a8:_a<|_d×Þ)(σ:_a<|_r V)(H:Hp)(s:_C):Prop where
 ok:X.Ok
 os:s.os=X.s₀.os
 bare:ė s.gens
 base:Un X.fs X.ex X.H₀ H X.s₀.heap s.heap
 loc:∃m,s.heap.Ns X.env.locals m/\∀(i:_c)(x:_m)(v:V),X.N[i]? = _b x->σ[i]? = _b (_b v)->Vis X.env.scope x->∃u,RelV v u/\Look X.env s.heap m x u
 cell:∀x c,X.env.cells.lookup x=_b c->∃v,s.heap.IsCell c v
 free:H X.env.locals=_o
 freeC:∀x c,X.env.cells.lookup x=_b c->H c=_o
 pin:∀p∈X.pn++a8,s.heap.get? p.1=_b p.2/\H p.1=_o/\p.1≠X.env.locals/\p.1 ∉ X.fs/\∀v,p.2.data≠.cell v
 hok:Gg X.prog X.w H s.heap
 len:σ.length=X.N.length
section
variable{X:Cx}{σ:_a (_r V)}
theorem Cx.Ok.nofr(ok:X.Ok){o:Þ}(e:X.base.get? b=_b o):b ∉ X.fs:=λa=>by
 have:=(ok.Mh.mem a).1;rw[e] at this;cases this
theorem Inv.bs(I:Inv X a8 σ H s):∀b o,X.base.get? b=_b o->s.heap.get? b=_b o/\H b=none:=λb o e =>
 ⟨I.base.keep b o (I.ok.bs b o e).1 (I.ok.bs b o e).2 (I.ok.nofr e)<|I.ok.noex b o e,I.base.free b o (I.ok.bs b o e).1 (I.ok.bs b o e).2 (I.ok.noex b o e)⟩
theorem Inv.bk(I:Inv X a8 σ H s):∀b o,X.base.get? b=_b o->s.heap.get? b=_b o:=λb o e=>(I.bs b o e).1
theorem Inv.mod(I:Inv X a8 σ H s):Mod X.K X.mg X.base:=I.ok.mod
theorem Inv.Ig(I:Inv X a8 σ H s):X.K.In s.heap:=I.ok.mod.kin.keeps I.bk
theorem Inv.lt(I:Inv X a8 σ H s):X.env.locals<s.heap.objs.size:=let ⟨_,a,_⟩:=I.loc;a.lt
theorem Inv.sz(I:Inv X a8 σ H s):X.s₀.heap.objs.size<=s.heap.objs.size:=cq I.ok.above<|fR I.lt
theorem Inv.nofs(I:Inv X a8 σ H s)(h:s.heap.objs.size<=a):a ∉ X.fs:=λc=>by
 obtain⟨_,o,b,_⟩:=I.ok.Mh.mem c;exact _z (bq (_B b)<|cq I.sz h)<|gS _
theorem Inv.pP(I:Inv X a8 σ H s):∀x c,X.env.cells.lookup x=_b c->c≠X.env.locals:=λx c e z=>by
 obtain⟨v,o,a,b⟩:=I.cell x c e;obtain⟨m,⟨g,i,h,d,f,_⟩,_⟩:=I.loc;rw[z,d] at a;cases a;rw[f] at b;cases b
theorem Inv.Mh(I:Inv X a8 σ H s):s.heap.FunFrames X.base X.outer:=by
 have all:∀(l:_a ŀ),(∀b∈frs l,b∈X.fs)->X.s₀.heap.FunFrames X.base l->s.heap.FunFrames X.base l:=by
  intro l
  induction l with
  |nil=>intro _ _;trivial
  |cons k r j =>
   intro f hl;obtain⟨n,⟨L,o,d,h,m,i⟩,g⟩:=hl;have a:L∈X.fs:=f L<|by unfold frs;rw[Ĭ,d];exact Ä
   obtain⟨p,e⟩:=I.base.slot L o m (I.ok.frf L a) a λz=>I.ok.exfs L z a;exact⟨n,⟨L,_,d,h,e,i⟩,j (λb c=>f b<|by unfold frs;rw[Ĭ,d];exact rz _ c) g⟩
 exact all X.outer (λ_ c=>c) I.ok.Mh
theorem Inv.stack(I:Inv X a8 σ H s):s.heap.FunFrames X.base X.stack:=by
 rcases I.ok.stk with e | ⟨e,b⟩
 .rw[e];exact I.Mh
 .rw[e];obtain⟨m,a,_⟩:=I.loc;refine .cons (by rw[I.ok.kind];decide) b a ?_ I.Mh;exact ý<|cq I.ok.bsz I.ok.above
theorem Inv.WK(I:Inv X a8 σ H s):∀b∈frs X.stack,b∈X.env.locals::X.fs:=λb a=>by
 rcases I.ok.stk with e | ⟨e,c⟩
 .rw[e] at a;exact bg _ a
 .rw[e] at a;unfold frs at a;rw[Ĭ,c] at a;exact a
theorem Inv.Kp(I:Inv X a8 σ H s):∀b∈frs X.stack,H b=none:=λb a=>by
 rcases ce.mp (I.WK b a) with e | a
 .rw[e];exact I.free
 .obtain⟨_,o,c,_⟩:=I.ok.Mh.mem a;exact I.base.free b o c (I.ok.frf b a) λz=>I.ok.exfs b z a
theorem Inv.step{g':_E z4}{t':_c}{d':Drawn}{ch:_a _d}(I:Inv X a8 σ H s)
  (F:∀b∈ch,(b∈X.ex \/ X.s₀.heap.objs.size<=b)/\b≠X.env.locals/\(∀x c,X.env.cells.lookup x=_b c->c≠b)/\∀p∈X.pn++a8,p.1≠b)
  (keep:∀b o,b≠X.env.locals->b ∉ X.fs->b ∉ ch->s.heap.get? b=_b o->H b=_o->h'.get? b=_b o)
  (t:∀b o,b≠X.env.locals->b∈X.fs->b ∉ ch->s.heap.get? b=_b o->H b=_o->∃sl,h'.get? b=_b { o with slots:=sl })(free:∀b o,b ∉ ch->s.heap.get? b=_b o->H b=_o->H' b=_o)
  (y:∀b o,b ∉ ch->s.heap.get? b=_b o->∃o',h'.get? b=_b o')
  (G:∀b xs,H b=_b (.tup xs)->H' b=_b (.tup xs))(C:∀b o u,H b=_b (.frz o u)->H' b=_b (.frz o u))(D:∀b ps,H b=_b (.tbl ps)->∃more,H' b=_b (.tbl<|ps++more))
  (ns:∀m,s.heap.Ns X.env.locals m->h'.Ns X.env.locals m) (K:Gg X.prog X.w H' h') (O:ė g') :
  Inv X a8 σ H' { s with heap:=h',gens:=g',drawn:=d',toks:=t' }:=by
 have B:∀b o,X.s₀.heap.get? b=_b o->b≠X.env.locals:=λb o e=>db<|bq (_B e) I.ok.above
 have h:∀b o,X.s₀.heap.get? b=_b o->b ∉ X.ex->b ∉ ch:=λb o e a w=>by
  rcases (F b w).1 with z | z
  .exact a z
  .exact _z (bq (_B e) z)<|gS _
 have f:∀x c,X.env.cells.lookup x=_b c->∀v,s.heap.IsCell c v->h'.IsCell c v:=λx c e v ⟨o,A,J⟩=>by
  have g:c ∉ ch:=λz=>(F c z).2.2.1 x c e U;by_cases N:c∈X.fs
  .obtain⟨sl,q⟩:=t c o (I.pP x c e) N g A<|I.freeC x c e;exact⟨_,q,J⟩
  .exact⟨o,keep c o (I.pP x c e) N g A<|I.freeC x c e,J⟩
 refine⟨I.ok,I.os,O,⟨λb o e n w a=>?_,λb o e n w a=>?_,λb o e n a=>?_,λb o e a=>?_,λb xs e=>G b xs<|I.base.tups b xs e,λb o xs e=>C b o xs<|I.base.frzs b o xs e,λb ps e=>?_⟩,?_,λx c e=>?_,?_,λx c e=>?_,λp L=>?_,K,I.len⟩
 .exact keep b o (B b o e) w (h b o e a) (I.base.keep b o e n w a)<|I.base.free b o e n a
 .obtain⟨sl,j⟩:=I.base.slot b o e n w a;obtain⟨Q,E⟩:=t b _ (B b o e) w (h b o e a) j<|I.base.free b o e n a;exact⟨Q,E⟩
 .obtain⟨o',j⟩:=I.base.there b o e a;exact free b o' (h b o e a) j<|I.base.free b o e n a
 .obtain⟨o',j⟩:=I.base.there b o e a;exact y b o' (h b o e a) j
 .obtain⟨P,j⟩:=I.base.tbls b ps e;obtain⟨S,E⟩:=D b _ j;exact⟨P++S,by rw[E,į]⟩
 .obtain⟨m,T,hl⟩:=I.loc;refine⟨m,ns m T,λi x v j E R=>?_⟩;obtain⟨u,r,l⟩:=hl i x v j E R;refine⟨u,r,?_⟩;rcases l with l | ⟨k,c,e,z⟩
  .exact .inl l
  .exact .inr ⟨k,c,e,f x c e _ z⟩
 .obtain⟨v,z⟩:=I.cell x c e;exact⟨v,f x c e v z⟩
 .obtain⟨m,⟨o,_,_,A,_⟩,_⟩:=I.loc;exact free _ o (λz=>(F _ z).2.1 rfl) A I.free
 .obtain⟨v,o,A,J⟩:=I.cell x c e;exact free c o (λz=>(F c z).2.2.1 x c e U) A<|I.freeC x c e
 .obtain⟨e,n,ne,M,d⟩:=I.pin p L;have g:p.1 ∉ ch:=λz=>(F p.1 z).2.2.2 p L U;exact⟨keep p.1 p.2 ne M g e n,free p.1 p.2 g e n,ne,M,d⟩
theorem Inv.un{t':_c}(I:Inv X a8 σ H s)(u:Un X.fs [] H H' s.heap h')(d:Gg X.prog X.w H' h'):Inv X a8 σ H' { s with heap:=h',toks:=t' }:=by
 obtain⟨m,⟨o,t,q,g,r⟩,_⟩:=id I.loc;obtain⟨v,h⟩:=u.any g I.free<|by simp
 exact I.step (g':=s.gens) (d':=s.drawn) (ch:=[]) (λ_ z=>nomatch z) (λb o _ c _ e n=>u.keep b o e n c<|by simp) (λb o _ c _ e n=>u.slot b o e n c<|by simp) (λb o _ e n=>u.free b o e n<|by simp) (λb o _ e=>u.there b o e<|by simp) u.tups u.frzs u.tbls (λp j=>by
  obtain⟨l,a,k,f,i⟩:=j;rw[g] at f;cases f;exact⟨_,a,k,h,i⟩) d I.bare
theorem Inv.call{g':_E z4}{t':_c}{d':Drawn}{ch:_a _d}(I:Inv X a8 σ H s)(u:Un (frs X.stack) ch H H' s.heap h')(g:Gg X.prog X.w H' h')(q:ė g')
  (i:∀b∈ch,(b∈X.ex \/ X.s₀.heap.objs.size<=b)/\b≠X.env.locals/\(∀x c,X.env.cells.lookup x=_b c->c≠b)/\∀p∈X.pn++a8,p.1≠b) :
  Inv X a8 σ H' { s with heap:=h',gens:=g',drawn:=d',toks:=t' }:=by
 obtain⟨m,⟨o,C,A,j,r⟩,_⟩:=id I.loc;obtain⟨B,f⟩:=u.any j I.free λz=>(i _ z).2.1 rfl;exact I.step (ch:=ch) i (λb o f l a e n=>u.keep b o e n (λz=>(ce.mp<|I.WK b z).elim f l) a) (λb o _ _ a e n=>u.any e n a) (λb o a e n=>u.free b o e n a) (λb o a e=>u.there b o e a) u.tups u.frzs u.tbls (λy t=>by
  obtain⟨w,d,v,h,k⟩:=t;rw[j] at h;cases h;exact⟨_,d,v,f,k⟩) g q
theorem Inv.turned{t':_c}{a:_d}(I:Inv X a8 σ H s)(k:∀b o,b≠a->s.heap.get? b=_b o->h'.get? b=_b o)(j:H a=_o)(g:a≠X.env.locals)
  (h:a∈X.ex \/ X.s₀.heap.objs.size<=a)(t:∀x c,X.env.cells.lookup x=_b c->c≠a)(A:∀p∈X.pn++a8,p.1≠a):Inv X a8 σ H { s with heap:=h',toks:=t' }:=by
 have f:∀b u,H b=_b u->b≠a:=λb u e z=>by rw[z,j] at e;cases e
 refine I.step (g':=s.gens) (d':=s.drawn) (ch:=[a]) (λb i=>?_) (λb o _ _ d e _=>k b o (λz=>d<|by simp[z]) e) (λb o _ _ d e _=>⟨o.slots,k b o (λz=>d<|by simp[z]) e⟩) (λ_ _ _ _ n=>n)
  (λb o d e=>⟨o,k b o (λz=>d<|by simp[z]) e⟩) (λ_ _ e=>e) (λ_ _ _ e=>e) (λb C e=>⟨#[],by rw[e];simp⟩) (λm w=>?_) (λb u e=>?_) I.bare
 .have e:b=a:=by simpa using i
  subst e;exact⟨h,g,t,A⟩
 .obtain⟨o,y,l,B,r⟩:=w;exact⟨o,y,l,k _ o (_J g) B,r⟩
 .refine (I.hok b u e).stay (λc v d q=>k c v ?_ q) (λ_ q=>q) λ_ _ q=>q;rcases d with z | z
  .rw[z];exact f b u e
  .exact f c _ z
theorem Inv.tok(I:Inv X a8 σ H s)(t:_c):Inv X a8 σ H { s with toks:=t }:=I.un (h':=s.heap) (t':=t) Un.refl I.hok
theorem Inv.kept{t':_c}(I:Inv X a8 σ H s)(k:∀b u,s.heap.get? b=_b u->h'.get? b=_b u):Inv X a8 σ H { s with heap:=h',toks:=t' }:=I.un (Un.kept k)<|I.hok.kept k
theorem Inv.laid{t':_c}(I:Inv X a8 σ H s)(k:∀b u,s.heap.get? b=_b u->h'.get? b=_b u)(c:s.heap.objs.size<=a)(new:CG X.prog X.w (upd H a o) h' a o) :
  Inv X a8 σ (upd H a o) { s with heap:=h',toks:=t' }:=I.un (Un.laid k c<|I.hok.fresh c)<|I.hok.laid k c new
theorem Inv.write{e:_d}{t':_c}(I:Inv X a8 σ H s)(a:yt<|H x)(d:e=x \/ H e=_b (.own x))(k:∀b u,b≠e->s.heap.get? b=_b u->h'.get? b=_b u)(c:∃u,h'.get? e=_b u)
  (new:CG X.prog X.w (upd H x o) h' x o):Inv X a8 σ (upd H x o) { s with heap:=h',toks:=t' }:=I.un (Un.write a d k c)<|I.hok.write a d k c new
theorem Inv.Xg{a:_a (_d×Þ)}(I:Inv X a8 σ H s)(h:∀p∈a,s.heap.get? p.1=_b p.2/\H p.1=_o/\p.1≠X.env.locals/\p.1 ∉ X.fs/\∀v,p.2.data≠.cell v):Inv X a σ H s :=
 ⟨I.ok,I.os,I.bare,I.base,I.loc,I.cell,I.free,I.freeC,λp b=>(aT.mp b).elim (λz=>I.pin p<|bE _ z)<|h p,I.hok,I.len⟩
theorem TQ{N:_a _m}(c:N.Nodup){x:_m}(a:N[i]? = _b x)(b:N[j]? = _b x):i=j:=by
 obtain⟨f,d⟩:=ag.mp a;obtain⟨g,e⟩:=ag.mp b;exact (zh c).mp<|d.trans e.symm
theorem QT{M:z5}{x:_m}{v:V}{Q:Cn->_C->Prop}(I:Inv X a8 σ H s)(hN:X.N.Nodup)(hi:X.N[i]? = _b x)(w:Loc X.env.scope x)(r:RelV v u)
  (h:∀s',Inv X a8 (σ.set i<|some v) H s'->(∃a,Å a s.heap s'.heap/\(a=X.env.locals \/ X.env.cells.lookup x=_b a))->Q () s')(hf:X.fn x=_g \/ X.env.scope.names.lookup x=_b .local:=by first | exact .inl rfl | exact .inr rfl | assumption):wpAny M A (storeName X.env x u) Q E s:=by
 obtain⟨m,hn,hl⟩:=id I.loc;have O:(X.env.scope.kind == .class || (X.env.scope.kind == .module && X.env.locals != X.env.globals))=false:=by rw[I.ok.kind];rfl
 have L:i<σ.length:=by rw[I.len];exact (ag.mp hi).1
 have pP:=I.pP;have g:∀{a:_d}{J:χ},(∃o,s.heap.get? a=_b o/\H a=_o)->Å a s.heap J->Gg X.prog X.w H J:=λ{a J} ha f b ob e=>by
  obtain⟨_,_,B⟩:=ha;refine (I.hok b ob e).stay (λc P t q=>(f.2 c ?_).trans q) (λ_ q=>q) λ_ _ q=>q;rintro rfl;rcases t with rfl | t
  .rw[B] at e;cases e
  .rw[B] at t;cases t
 rcases w with D | D
 .refine wpAny_storeName_local D hn (λJ ab f=>?_) O;obtain⟨oL,_,_,WV,_⟩:=id hn;refine h _ ⟨I.ok,I.os,I.bare,⟨λb o e n G w=>?_,λb o e n G w=>?_,I.base.free,λb o e w=>?_,I.base.tups,I.base.frzs,I.base.tbls⟩,⟨_,ab,λj y v' l C Z=>?_⟩,λy c e=>?_,I.free,I.freeC,λp W=>?_,g ⟨oL,WV,I.free⟩ f,by simpa using I.len⟩ ⟨_,f,.inl U⟩
  .exact (f.2 b<|db<|bq (_B e) I.ok.above).trans<|I.base.keep b o e n G w
  .obtain⟨Y,l⟩:=I.base.slot b o e n G w;exact⟨Y,(f.2 b<|db<|bq (_B e) I.ok.above).trans l⟩
  .obtain⟨o',l⟩:=I.base.there b o e w;exact⟨o',(f.2 b<|db<|bq (_B e) I.ok.above).trans l⟩
  .by_cases F:j=i
   .subst F;rw[hi] at l;cases l;rw[ŵ L] at C
    cases C;exact⟨u,r,.inl ⟨D,by simp⟩⟩
   .rw[r_ (_J F)] at C;obtain⟨u',T,q⟩:=hl j y v' l C Z;refine⟨u',T,?_⟩;rcases q with⟨k,e⟩ | ⟨k,c,e,z⟩
    .refine .inl ⟨k,?_⟩;have:y≠x:=λe=>F<|TQ hN l<|e ▸ hi
     simp[this,e]
    .exact .inr ⟨k,c,e,z.sameBut f<|pP y c e⟩
  .obtain⟨P,z⟩:=I.cell y c e;exact⟨P,z.sameBut f<|pP y c e⟩
  .obtain⟨e,n,ne,nf,d⟩:=I.pin p W;exact⟨(f.2 p.1 ne).trans e,n,ne,nf,d⟩
 .have S:X.fn x=true:=by
   rcases hf with z | z
   .exact z
   .rw[z] at D;cases D
  obtain⟨c,t⟩:=I.ok.has x<|.inl D;obtain⟨P,z⟩:=I.cell x c t;refine wpAny_storeName_cell I.ok.kind D t z<|λJ K f=>?_
  obtain⟨oc,Pd,MQ⟩:=id z;refine h { s with heap:=J } ⟨I.ok,I.os,I.bare,⟨λb o e n G w=>?_,λb o e n G w=>?_,I.base.free,λb o e w=>?_,I.base.tups,I.base.frzs,I.base.tbls⟩,⟨m,hn.sameBut f<|_J<|pP x c t,λj y v' l C Z=>?_⟩,λy R e=>?_,I.free,I.freeC,λp W=>?_,g ⟨oc,Pd,I.freeC x c t⟩ f,by simpa using I.len⟩ ⟨c,f,.inr t⟩
  .exact (f.2 b<|db<|bq (_B e)<|I.ok.cab x c S t).trans<|I.base.keep b o e n G w
  .obtain⟨Y,l⟩:=I.base.slot b o e n G w;exact⟨Y,(f.2 b<|db<|bq (_B e)<|I.ok.cab x c S t).trans l⟩
  .obtain⟨o',l⟩:=I.base.there b o e w;exact⟨o',(f.2 b<|db<|bq (_B e)<|I.ok.cab x c S t).trans l⟩
  .by_cases F:j=i
   .subst F;rw[hi] at l;cases l;rw[ŵ L] at C
    cases C;exact⟨u,r,.inr ⟨.inl D,c,t,K⟩⟩
   .rw[r_ (_J F)] at C;obtain⟨u',T,q⟩:=hl j y v' l C Z;refine⟨u',T,?_⟩;rcases q with q | ⟨k,R,e,z'⟩
    .exact .inl q
    .refine .inr ⟨k,R,e,z'.sameBut f ?_⟩;rintro rfl;exact F<|TQ hN l<|I.ok.inj _ _ _ e t ▸ hi
  .by_cases N:R=c
   .subst N;exact⟨_,K⟩
   .obtain⟨w2,z2⟩:=I.cell y R e;exact⟨w2,z2.sameBut f N⟩
  .obtain⟨e,n,ne,nf,d⟩:=I.pin p W;refine⟨(f.2 p.1 ?_).trans e,n,ne,nf,d⟩;intro q;rw[q,Pd] at e;have q':oc=p.2:=_h e;exact d P<|by rw[<-q'];exact MQ
theorem Ug{M:z5}{x:_m}{v:V}{Q:Cn->_C->Prop}(I:Inv X a8 σ H s)(a:X.N.Nodup)(hi:X.N[i]? = _b x)(d:Loc X.env.scope x)(r:RelV v u)
  (h:∀s',Inv X a8 (σ.set i<|some v) H s'->Q () s')(b:X.fn x=_g \/ X.env.scope.names.lookup x=_b .local:=by first | exact .inl rfl | exact .inr rfl | assumption):wpAny M A (storeName X.env x u) Q E s :=
 QT I a hi d r (λs' c _=>h s' c) b
theorem Inv.call'{s':_C}{ch:_a _d}(I:Inv X a8 σ H s)(h:s'.os=s.os)(u:Un (frs X.stack) ch H H' s.heap s'.heap)(a:Gg X.prog X.w H' s'.heap)(g:ė s'.gens)
  (d:∀b∈ch,(b∈X.ex \/ X.s₀.heap.objs.size<=b)/\b≠X.env.locals/\(∀x c,X.env.cells.lookup x=_b c->c≠b)/\∀p∈X.pn++a8,p.1≠b):Inv X a8 σ H' s':=by
 obtain⟨i,g',d',t',f⟩:=s';have e:f=s.os:=h;subst e;exact I.call (g':=g') (t':=t') (d':=d') u a g d
end
abbrev XK:=_k->_r _d->Hp->Prop
abbrev St:=_a<|_r V
abbrev VK:=V->Hp->Prop
abbrev TE:=St->Hp->VK->Prop
variable{X:Cx}{σ:St}{te ta:TE}
abbrev TT:=St->Hp->(_O->Hp->Prop)->Prop
abbrev TA:=St->Hp->(_a V->Hp->Prop)->Prop
structure Ends where
 nx:St->Hp->Prop
 rt:VK
 bk:St->Hp->Prop:=λ_ _=>Α
 ct:St->Hp->Prop:=λ_ _=>Α
abbrev TS:=Ends->St->Hp->Prop
inductive EP(X:Cx)(a8:_a<|_d×Þ)(σ:St)(Q:VK)(u:_k)(s':_C):Prop
|mk(v H':_)(_:Inv X a8 σ H' s')(_:RelV v u)(_:Q v H')
inductive TP(X:Cx)(a8:_a<|_d×Þ)(σ:St)(Q:_O->Hp->Prop)(b:_O)(s':_C):Prop
|mk(H':_)(_:Inv X a8 σ H' s')(_:Q b H')
inductive AP(X:Cx)(a8:_a<|_d×Þ)(σ:St)(Q:_a V->Hp->Prop)(us:_a _k)(s':_C):Prop
|mk(vs H':_)(_:Inv X a8 σ H' s')(_:Vals vs us)(_:Q vs H')
def SP(X:Cx)(a8:_a<|_d×Þ)(D:Ends)(f:Flow)(s':_C):Prop :=
 match f with
 |.next=>∃σ' H',Inv X a8 σ' H' s'/\D.nx σ' H'
 |.brk=>∃σ' H',Inv X a8 σ' H' s'/\D.bk σ' H'
 |.cont=>∃σ' H',Inv X a8 σ' H' s'/\D.ct σ' H'
 |.ret u=>∃v σ' H',Inv X a8 σ' H' s'/\RelV v u/\D.rt v H'
def PE(X:Cx)(e:Expr)(t:TE):Prop :=
 ∀(a8:_a<|_d × Þ)(s:_C)(σ:St)(H:Hp)(Q:VK),Inv X a8 σ H s->t σ H Q->wpAny (_D X.prog X.w) X.A (eval e X.env) (EP X a8 σ Q) X.xe s
def PT(X:Cx)(e:Expr)(t:TT):Prop :=
 ∀(a8:_a<|_d × Þ)(s:_C)(σ:St)(H:Hp)(Q:_O->Hp->Prop),Inv X a8 σ H s->t σ H Q->wpAny (_D X.prog X.w) X.A (isTrue e X.env<|eval e X.env) (TP X a8 σ Q) X.xe s
def PW(X:Cx)(e:Expr)(t:TT):Prop :=
 ∀(r8:ũ _k)(a8:_a<|_d × Þ)(s:_C)(σ:St)(H:Hp)(Q:_O->Hp->Prop),Inv X a8 σ H s->t σ H Q->wpAny (_D X.prog X.w) X.A (isTrue e X.env r8) (TP X a8 σ Q) X.xe s
theorem PW.pt{e:Expr}{t:TT}(h:PW X e t):PT X e t:=h _
def PA(X:Cx)(es:_a Expr)(t:TA):Prop :=
 ∀(pos:ī)(a8:_a<|_d × Þ)(s:_C)(σ:St)(H:Hp)(Q:_a V->Hp->Prop),Inv X a8 σ H s->t σ H Q->wpAny (_D X.prog X.w) X.A (spliced<|backTo pos<|starEach es X.env) (AP X a8 σ Q) X.xe s
def PS(X:Cx)(st:Ú)(t:TS):Prop :=
 ∀(a8:_a<|_d × Þ)(s:_C)(σ:St)(H:Hp)(D:Ends),Inv X a8 σ H s->t D σ H->wpAny (_D X.prog X.w) X.A (exec st X.env) (SP X a8 D) X.xe s
def RJ(X:Cx)(st:_a Ú)(t:TS):Prop :=
 ∀(a8:_a<|_d × Þ)(s:_C)(σ:St)(H:Hp)(D:Ends),Inv X a8 σ H s->t D σ H->wpAny (_D X.prog X.w) X.A (execs st X.env) (SP X a8 D) X.xe s
theorem CN{α:Type}{t:ũ α}{Q b:α->_C->Prop}{M:z5}(h:wpAny M A t Q E s)(c:∀a s,Q a s->b a s):wpAny M A t b E s:=ζ h c λ_ _ x=>x
section
abbrev Jw(p:_d->Hp->Prop)(x:V)(H:Hp):Prop:=match x with | .ref a=>p a H | _=>Α
abbrev Np(p:_j->Hp->Prop)(x:V)(H:Hp):Prop:=match x with | .int i=>p i H | _=>Α
abbrev R8(p:_O->Hp->Prop)(x:V)(H:Hp):Prop:=match x with | .bl c=>p c H | _=>Α
abbrev asV(p:V->Hp->Prop)(vs:_a V)(H:Hp):Prop:=match vs with | [y]=>p y H | _=>Α
theorem asV.e{p:V->Hp->Prop}(h:asV p vs H):∃y,vs=[y]/\p y H:=match vs,h with | [_],h=>⟨_,U,h⟩
theorem Jw.e{p:_d->Hp->Prop}{x:V}(h:Jw p x H):∃a,x=.ref a/\p a H:=by cases x <;> first | exact⟨_,rfl,h⟩ | cases h
theorem Np.e{p:_j->Hp->Prop}{x:V}(h:Np p x H):∃i,x=.int i/\p i H:=by cases x <;> first | exact⟨_,rfl,h⟩ | cases h
theorem R8.e{p:_O->Hp->Prop}{x:V}(h:R8 p x H):∃c,x=.bl c/\p c H:=by cases x <;> first | exact⟨_,rfl,h⟩ | cases h
abbrev Nf(i:_c)(σ:St)(H:Hp)(Q:VK):Prop:=match σ[i]? with | some (_b v)=>Q v H | _=>Α
theorem Nf.e{Q:VK}(h:Nf i σ H Q):∃v,σ[i]? = _b (_b v)/\Q v H:=by
 unfold Nf at h;split at h
 .exact⟨_,‹_›,h⟩
 .cases h
abbrev tC(v:V):TE:=λ_ H Q=>Q v H
theorem tO{x:_m}(o:X.N[i]? = _b x)(j:Vis X.env.scope x)(d:(x == ("__debug__" : _m))=false:=by decide)(n:(x == ("__classdict__" : _m))=false:=by decide):PE X (.Name x pos)<|Nf i:=by
 intro g s σ H Q I h;obtain⟨v,e,h⟩:=Nf.e h;obtain⟨m,k,hl⟩:=I.loc;obtain⟨u,r,l⟩:=hl i x v o e j;have fin:EP X g σ Q u s:=⟨v,H,I,r,h⟩;rcases l with⟨b,p⟩ | ⟨b,c,f,a⟩
 .exact Ct (wpAny_loadName_local I.ok.kind b k p fin) d
 .rcases b with b | b
  .exact Ct (wpAny_loadName_cell I.ok.kind b f a fin) d
  .exact Ct (wpAny_loadName_free I.ok.kind b f a fin n) d
theorem Al {i j pos}:PE X (.Constant (.int i) j pos)<|tC<|.int i:=λ_ _ _ H _ I h=>wpAny_Constant_int ⟨.int i,H,I.tok _,⟨_,U⟩,h⟩
theorem JN {b j pos}:PE X (.Constant (.bool b) j pos)<|tC<|.bl b:=λ_ _ _ H _ I h=>Constant_bool ⟨.bl b,H,I,U,h⟩
theorem Er {j pos}:PE X (.Constant .none j pos)<|tC .non:=λ_ _ _ H _ I h=>Constant_none ⟨.non,H,I,U,h⟩
theorem Aw {x j pos}:PE X (.Constant (.str x) j pos)<|tC<|.str x:=λ_ _ _ H _ I h=>Calls.Constant_str ⟨.str x,H,I.tok _,⟨_,U⟩,h⟩
def Gl(X:Cx)(x:_m):Prop:=X.env.kindOf x=_b .globalImplicit
theorem Ku{x:_m}(I:Inv X a8 σ H s)(c:Gl X x)(a:X.mg x=_b u)(h:Q u s)
  (b:(x == ("__debug__" : _m))=false:=by decide):wpAny (_D X.prog X.w) X.A (eval (.Name x pos) X.env) Q E s :=
 Ŏ I.ok.kind c (Calls.loadGlobal_global (by rw[I.ok.glob];exact I.mod.glob.keeps I.bk) a h) b
theorem JF{x:_m}(I:Inv X a8 σ H s)(d:Gl X x)(f:X.mg x=_o)(g:bootBuiltins x=_b u)(h:Q u s)
  (a:x≠"__name__":=by decide)(c:(x == ("__debug__" : _m))=false:=by decide):wpAny (_D X.prog X.w) X.A (eval (.Name x pos) X.env) Q E s:=by
 obtain⟨i,b,e⟩:=I.mod.blt;exact Ŏ I.ok.kind d (Calls.loadGlobal_builtin (by rw[I.ok.glob];exact I.mod.glob.keeps I.bk) f (by rw[I.ok.blt];exact b.keeps I.bk) ((e x a).trans g) h) c
theorem Cu{x:_m}{v:V}(b:Gl X x)(c:X.mg x=_b u)(r:RelV v u)(a:(x == ("__debug__" : _m))=false:=by decide):PE X (.Name x pos) (tC v) :=
 λ_ _ _ H _ I h=>Ku I b c ⟨v,H,I,r,h⟩ a
theorem Em{x:_m}{v:V}(c:Gl X x)(d:X.mg x=_o)(e:bootBuiltins x=_b u)(r:RelV v u)(a:x≠"__name__":=by decide)(b:(x == ("__debug__" : _m))=false:=by decide):PE X (.Name x pos) (tC v) :=
 λ_ _ _ H _ I h=>JF I c d e ⟨v,H,I,r,h⟩ a b
variable{a b:Expr}{tb:TE}
def PC(X:Cx)(op:Ū)(a b:Expr)(t:TE):Prop :=
 ∀(a8:_a<|_d × Þ)(s:_C)(σ:St)(H:Hp)(Q:VK),Inv X a8 σ H s->t σ H Q ->
  wpAny (_D X.prog X.w) X.A (eval a X.env) (λv s₁=>wpAny (_D X.prog X.w) X.A (eval b X.env) (λu s₂=>wpAny (_D X.prog X.w) X.A (compareOp op v u) (EP X a8 σ Q) X.xe s₂) X.xe s₁) X.xe s
abbrev tB(t:TE):TT:=λσ H Q=>t σ H<|R8 Q
theorem bO{c:Ū}{t:TE}(h:PC X c a b t)(d:behindInMarks c b=false:=by first | exact nobehind _ (by decide) (by decide) | rfl):PE X (.Compare a [c] [b] pos) t:=λf s σ H Q I e=>LM (h f s σ H Q I e) d
theorem PP{f:Ū}{t:TE}(h:PC X f a b t)(e:behindInMarks f b=false:=by first | exact nobehind _ (by decide) (by decide) | rfl):PT X (.Compare a [f] [b] pos)<|tB t:=by
 intro i s σ H Q I g;refine zi (CN (h i s σ H _ I g) λv r e=>CN e λu o l=>CN l λc p ⟨x,j,k,n,m⟩=>?_) e;obtain⟨d,rfl,q⟩:=R8.e m
 cases n;exact _Y ⟨j,k,q⟩
theorem Di{e:Expr}{t:TE}(h:PE X e t)(c:∀r8,isTrue e X.env r8=(do let v <-r8;standAt e.pos;holding [v] (truthy v)):=by intro _;rfl):PT X e<|tB t:=by
 intro b s σ H Q I a;refine QO (CN (h b s σ H _ I a) λv k ⟨x,f,g,j,i⟩=>?_)<|c _
 obtain⟨d,rfl,q⟩:=R8.e i
 cases j;exact _Y ⟨f,g,q⟩
variable{tA IB:TT}{rest:_a Expr}
abbrev tAnd(t u:TT):TT:=λσ H Q=>t σ H λc H1=>if c=_g then u σ H1 Q else Q _p H1
abbrev tOr(t u:TT):TT:=λσ H Q=>t σ H λc H1=>if c=_g then Q _g H1 else u σ H1 Q
abbrev tNot(t:TT):TT:=λσ H Q=>t σ H λc H1=>Q (!c) H1
theorem Fg(b:PT X a tA):PW X (.BoolOp .And [a] pos) tA:=by
 intro g d s σ H Q I h;refine isTrue_and<|CN (b d s σ H Q I h) λc f e=>?_
 cases c with
 |true=>exact isTrue_and_nil e
 |false=>exact e
theorem Eu(b:PT X a tA):PW X (.BoolOp .Or [a] pos) tA:=by
 intro g d s σ H Q I h;refine isTrue_or<|CN (b d s σ H Q I h) λc f e=>?_
 cases c with
 |false=>exact isTrue_or_nil e
 |true=>exact e
theorem HB(l:PT X a tA)(m:PW X (.BoolOp .And (b::rest) pos) IB):PW X (.BoolOp .And (a::b::rest) pos)<|tAnd tA IB:=by
 intro k g s σ H Q I h;refine isTrue_and<|CN (l g s σ H _ I h) λc j i=>?_
 obtain⟨e,d,f⟩:=i
 cases c with
 |true=>exact m k g j σ e Q d f
 |false=>exact⟨e,d,f⟩
theorem Fy(l:PT X a tA)(m:PW X (.BoolOp .Or (b::rest) pos) IB):PW X (.BoolOp .Or (a::b::rest) pos)<|tOr tA IB:=by
 intro k g s σ H Q I h;refine isTrue_or<|CN (l g s σ H _ I h) λc j i=>?_
 obtain⟨e,d,f⟩:=i
 cases c with
 |true=>exact⟨e,d,f⟩
 |false=>exact m k g j σ e Q d f
theorem DP(e:PT X a tA):PT X (.UnaryOp .Not a pos)<|tNot tA:=by
 intro f s σ H Q I h;exact isTrue_not<|CN (e f s σ H (λc b=>Q (!c) b) I h) λc i ⟨b,d,g⟩=>⟨b,d,g⟩
abbrev wZ(ta tb:TE):TE:=λσ H Q=>ta σ H (R8 λc H1=>if c=_g then tb σ H1 Q else Q (.bl _p) H1)
abbrev tOrV(ta tb:TE):TE:=λσ H Q=>ta σ H (R8 λc H1=>if c=_g then Q (.bl _g) H1 else tb σ H1 Q)
abbrev yP(ta:TE):TE:=λσ H Q=>ta σ H<|R8 λc=>Q<|.bl<|!c
theorem Dh {op} {t:TE} (h:PE X a t):PE X (.BoolOp op [a] pos) t:=λc s σ H Q I b=>BoolOp_one<|h c s σ H Q I b
theorem Dl(i:PE X a ta)(j:PE X (.BoolOp .And (b::rest) pos) tb):PE X (.BoolOp .And (a::b::rest) pos)<|wZ ta tb:=by
 intro e s σ H Q I h;refine BoolOp_and<|CN (i e s σ H _ I h) λv l k=>?_
 obtain⟨x,f,g,m,d⟩:=k;obtain⟨c,rfl,d⟩:=R8.e d
 cases m;refine _Y ?_
 cases c with
 |true=>exact j e l σ f Q g d
 |false=>exact⟨.bl _p,f,g,U,d⟩
theorem wH(i:PE X a ta)(j:PE X (.BoolOp .Or (b::rest) pos) tb):PE X (.BoolOp .Or (a::b::rest) pos)<|tOrV ta tb:=by
 intro e s σ H Q I h;refine BoolOp_or<|CN (i e s σ H _ I h) λv l k=>?_
 obtain⟨x,f,g,m,d⟩:=k;obtain⟨c,rfl,d⟩:=R8.e d
 cases m;refine _Y ?_
 cases c with
 |false=>exact j e l σ f Q g d
 |true=>exact⟨.bl _g,f,g,U,d⟩
theorem Vu(d:PE X a ta):PE X (.UnaryOp .Not a pos)<|yP ta:=by
 intro e s σ H Q I h;refine UnaryOp_<|CN (d e s σ H _ I h) λv k g=>?_
 obtain⟨x,f,i,j,b⟩:=g;obtain⟨c,rfl,b⟩:=R8.e b
 cases j;exact not_of<|_Y ⟨.bl<|!c,f,i,U,b⟩
abbrev tIf(t:TT)(ta tb:TE):TE:=λσ H Q=>t σ H λc H1=>if c=_g then ta σ H1 Q else tb σ H1 Q
theorem K4{c:Expr}(m:PT X c tA)(l:PE X a ta)(n:PE X b tb):PE X (.IfExp c a b pos)<|tIf tA ta tb:=by
 intro e s σ H Q I h;refine wpAny_IfExp<|CN (m e s σ H _ I h) λd f k=>?_
 obtain⟨i,g,j⟩:=k
 cases d with
 |true=>exact l e f σ i Q g j
 |false=>exact n e f σ i Q g j
end
variable{tt:TT}{D:Ends}{tb:TS}
def Dd(K:_q)(H:Hp)(a:_d)(xs:_a V):Prop :=
 Rd H a (.lst xs) \/
  ∃(o:Þ)(its:_E _k)(n:_c),K.lookup a=_b o/\o.cls=.type "list" /\ o.dict=_o/\o.data=.seq its n/\its.size<=sizeLine/\Vals xs its.toList
def JD(K:_q)(H:Hp)(a:_d)(xs:_a V):Prop :=
 Rd H a (.tup xs) \/
  ∃(o:Þ)(its:_E _k)(n:_c),K.lookup a=_b o/\o.cls=.type "tuple" /\ o.data=.seq its n/\its.size<=sizeLine/\Vals xs its.toList
noncomputable def absV:_k->_r V
 |.none=>_b .non
 |.bool b=>_b<|.bl b
 |.int i _=>_b<|.int i
 |.str x _=>_b<|.str x
 |.bytes b _=>_b<|.byt b
 |.float b _=>_b<|.flt b
 |.ref a=>_b<|.ref a
 |.type n=>_b<|.ty n
 |_=>_o
theorem RelV.abs{x:V}(r:RelV x u):absV u=_b x:=by
 cases x with
 |non=>cases r;rfl
 |bl _=>cases r;rfl
 |int _=>obtain⟨t,rfl⟩:=r;rfl
 |str _=>obtain⟨t,rfl⟩:=r;rfl
 |byt _=>obtain⟨t,rfl⟩:=r;rfl
 |flt _=>obtain⟨t,rfl⟩:=r;rfl
 |ref _=>cases r;rfl
 |ty _=>cases r;rfl
theorem RelV.inj{x y:V}(r:RelV x u)(q:RelV y u):x=y:=_h<|r.abs.symm.trans q.abs
theorem Vals.inj:∀{xs ys:_a V}{us:_a _k},Vals xs us->Vals ys us->xs=ys
 |_,_,_,.nil,.nil=>rfl
 |_,_,_,.cons r t,.cons b a=>by rw[r.inj b,Vals.inj t a]
theorem Inv.list(I:Inv X a8 σ H s)(h:Dd X.K H a xs):∃its:_a _k,Vals xs its/\PlainL s.heap a its.toArray/\xs.length<=sizeLine:=by
 rcases h with h | ⟨o,its,n,c,f,b,d,g,r⟩
 .obtain⟨z,its,n,r,e⟩:=h.ok I.hok;exact⟨its,r,⟨_,n,e,U,U,U⟩,z⟩
 .refine⟨its.toList,r,⟨o,n,I.Ig a o c,f,b,by simpa using d⟩,?_⟩;have e:=r.length;simp only[_G] at e;exact e.symm▸g
theorem Inv.tuple(I:Inv X a8 σ H s)(h:JD X.K H a xs):∃its:_a _k,Vals xs its/\LF s.heap a its.toArray/\xs.length<=sizeLine:=by
 rcases h with h | ⟨o,its,n,d,b,c,f,r⟩
 .obtain⟨z,its,r,p⟩:=h.ok I.hok;exact⟨its,r,p,z⟩
 .refine⟨its.toList,r,⟨o,I.Ig a o d,b,n,by simpa using c⟩,?_⟩;have e:=r.length;simp only[_G] at e;exact e.symm▸f
theorem Inv.U5(I:Inv X a8 σ H s)(h:Dd X.K H a xs)(h':Dd X.K H a ys):xs=ys:=by
 obtain⟨c,r,⟨o,n,e,_,_,d⟩,_⟩:=I.list h;obtain⟨b,i,⟨j,k,g,_,_,f⟩,_⟩:=I.list h';rw[e] at g;cases g;rw[d] at f;injection f with d1 _
 have:c=b:=by simpa using congrArg ű d1
 subst this;exact r.inj i
theorem Inv.Ml(I:Inv X a8 σ H s)(h:JD X.K H a xs)(h':JD X.K H a ys):xs=ys:=by
 obtain⟨c,r,⟨o,e,_,n,d⟩,_⟩:=I.tuple h;obtain⟨b,i,⟨j,g,_,k,f⟩,_⟩:=I.tuple h';rw[e] at g;cases g;rw[d] at f;injection f with d1 _
 have:c=b:=by simpa using congrArg ű d1
 subst this;exact r.inj i
noncomputable abbrev Cx.wish(X:Cx)(E:vSP):Cx:={ X with xe:=E }
noncomputable abbrev Cx.yx(X:Cx):Cx:=X.wish λ_ _=>Α
theorem Cx.Ok.wish(ok:X.Ok)(E:vSP):(X.wish E).Ok :=
 ⟨ok.mod,ok.kind,ok.glob,ok.blt,ok.above,ok.inj,ok.has,ok.cab,ok.hd,ok.frames,ok.stk,ok.exf,ok.bs,ok.bsz,ok.noex,ok.exfs,ok.Mh,ok.frf⟩
theorem Cx.Ok.JK(ok:(X.wish E).Ok):X.Ok :=
 ⟨ok.mod,ok.kind,ok.glob,ok.blt,ok.above,ok.inj,ok.has,ok.cab,ok.hd,ok.frames,ok.stk,ok.exf,ok.bs,ok.bsz,ok.noex,ok.exfs,ok.Mh,ok.frf⟩
theorem Inv.wish(I:Inv X a8 σ H s)(E:vSP):Inv (X.wish E) a8 σ H s:=⟨I.ok.wish E,I.os,I.bare,I.base,I.loc,I.cell,I.free,I.freeC,I.pin,I.hok,I.len⟩
theorem Inv.JK(I:Inv (X.wish E) a8 σ H s):Inv X a8 σ H s:=⟨I.ok.JK,I.os,I.bare,I.base,I.loc,I.cell,I.free,I.freeC,I.pin,I.hok,I.len⟩
theorem SP.JK{f:Flow}{s':_C}(h:SP (X.wish E) a8 D f s'):SP X a8 D f s':=by
 cases f with
 |next=>obtain⟨a,b,I,q⟩:=h;exact⟨a,b,I.JK,q⟩
 |brk=>obtain⟨a,b,I,q⟩:=h;exact⟨a,b,I.JK,q⟩
 |cont=>obtain⟨a,b,I,q⟩:=h;exact⟨a,b,I.JK,q⟩
 |ret u=>obtain⟨v,a,b,I,r,q⟩:=h;exact⟨v,a,b,I.JK,r,q⟩
theorem RJ.yx{st:_a Ú}{t:TS}(h:RJ X.yx st t):RJ X st t:=λb s σ H D I a =>
 ζ (h b s σ H D (I.wish _) a) (λ_ _ q=>q.JK) λ_ _ z=>ς z
section
variable{st:Ú}{rest:_a Ú}{t u:TS}{e:Expr}
abbrev xr:TS:=λD σ H=>D.nx σ H
abbrev jr(t u:TS):TS:=λD σ H=>t { D with nx:=u D } σ H
theorem BR:RJ X [] xr:=λ_ _ σ H _ I h=>ç ⟨σ,H,I,h⟩
theorem Ac(b:PS X st t)(g:RJ X rest u):RJ X (st::rest)<|jr t u:=by
 intro a s σ H D I h;refine Ş<|CN (b a s σ H { D with nx:=u D } I h) λf c q=>?_
 cases f with
 |next =>
  obtain⟨d,i,e,q⟩:=q;exact g a c d i D e q
 |ret v=>exact q
 |brk=>exact q
 |cont=>exact q
theorem Af(a:PS X st t):RJ X [st] t:=by
 intro b s σ H D I h;refine Ş<|CN (a b s σ H D I h) λf c q=>?_
 cases f with
 |next=>exact ç q
 |ret v=>exact q
 |brk=>exact q
 |cont=>exact q
abbrev tH:TS:=λD σ H=>D.bk σ H
theorem Z3:PS X (.Break pos) tH:=λ_ _ σ H _ I h=>wpAny_Break ⟨σ,H,I,h⟩
theorem Inv.quiet(I:Inv X a8 σ H s):interactive X.env=false:=by simp[interactive,I.ok.kind]
abbrev mX(te:TE):TS:=λD σ H=>te σ H λ_ H1=>D.nx σ H1
theorem Bq(f:PE X e te)(d:swapsWith e _o pos.line X.env=pure false:=by rfl):PS X (.Expr e pos)<|mX te:=by
 intro c s σ H D I h;exact LP (CN (f c s σ H _ I h) λv i ⟨x,g,a,j,b⟩=>⟨σ,g,a,b⟩) I.quiet d
abbrev tRet(te:TE):TS:=λD σ H=>te σ H D.rt
theorem Aq(d:PE X e te):PS X (.Return (_b e) pos)<|tRet te:=by
 intro c s σ H D I h;exact wpAny_Return_some<|CN (d c s σ H _ I h) λv i ⟨x,f,a,g,b⟩=>⟨x,σ,f,a,g,b⟩
abbrev gV(c:TT)(t u:TS):TS:=λD σ H=>c σ H λb H1=>if b=_g then t D σ H1 else u D σ H1
theorem Bg{c:Expr}{a b:_a Ú}{j:TT}(m:PT X c j)(l:RJ X a t)(n:RJ X b u):PS X (.If c a b pos)<|gV j t u:=by
 intro e s σ H D I h;refine wpAny_If<|CN (m e s σ H _ I h) λd i o=>?_
 obtain⟨g,k,f⟩:=o
 cases d with
 |true=>exact l e i σ g D k f
 |false=>exact n e i σ g D k f
abbrev ut:TS:=λ_ _ _=>Α
theorem JG:PS X st ut:=λ_ _ _ _ _ _ h=>h.elim
end
abbrev TG:=V->St->Hp->(St->Hp->Prop)->Prop
abbrev qP:=_a V->St->Hp->(St->Hp->Prop)->Prop
def PG(X:Cx)(BO:Expr)(t:TG):Prop :=
 ∀(a8:_a<|_d × Þ)(s:_C)(σ:St)(H:Hp)(v:V)(u:_k)(Q:St->Hp->Prop),Inv X a8 σ H s->RelV v u->t v σ H Q ->
  wpAny (_D X.prog X.w) X.A (assign BO X.env u) (λ_ s'=>∃σ' H',Inv X a8 σ' H' s'/\Q σ' H') X.xe s
def PGs(X:Cx)(ts:_a Expr)(t:qP):Prop :=
 ∀(a8:_a<|_d × Þ)(s:_C)(σ:St)(H:Hp)(vs:_a V)(us:_a _k)(Q:St->Hp->Prop),Inv X a8 σ H s->Vals vs us->t vs σ H Q ->
  wpAny (_D X.prog X.w) X.A (assignInOrder ((assignEach ts X.env).map (·.2)) us) (λ_ s'=>∃σ' H',Inv X a8 σ' H' s'/\Q σ' H') X.xe s
abbrev rD:=V->V->V->Hp->(Hp->Prop)->Prop
def AAa(X:Cx)(t:rD):Prop :=
 ∀(a8:_a<|_d × Þ)(s:_C)(σ:St)(H:Hp)(o i v:V)(ov iv u:_k)(Q:Hp->Prop),Inv X a8 σ H s->RelV o ov->RelV i iv->RelV v u->t o i v H Q ->
  wpAny (_D X.prog X.w) X.A (setItem ov iv u) (λ_ s'=>∃H',Inv X a8 σ H' s'/\Q H') X.xe s
abbrev Df(i:_c):TG:=λv σ H Q=>Q (σ.set i<|some v) H
theorem Bh{x:_m}(c:X.N.Nodup)(hi:X.N[i]? = _b x)(b:Loc X.env.scope x)(d:X.fn x=_g \/ X.env.scope.names.lookup x=_b .local:=by first | exact .inl rfl | exact .inr rfl | assumption):PG X (.Name x pos)<|Df i:=by
 intro e s σ H v u Q I r h;exact EF<|Ug I c hi b r (λf a=>⟨_,H,a,h⟩) d
abbrev Tf:qP:=λvs σ H Q=>vs=[]/\Q σ H
abbrev GX(t:TG)(u:qP)(vs:_a V)(σ:St)(H:Hp)(Q:St->Hp->Prop):Prop:=match vs with | v::r=>t v σ H λσ' H'=>u r σ' H' Q | _=>Α
theorem Ez:PGs X [] Tf:=by
 intro c s σ H b a Q I r h;obtain⟨e,h⟩:=h;subst e
 cases r;exact assignInOrder_nil ⟨σ,H,I,h⟩
theorem Bv{e:Expr}{t:TG}{u:qP}(b:PG X e t)(k:PGs X es u)
  (m:(assignEach (e::es) X.env).map (·.2)=assign e X.env::(assignEach es X.env).map (·.2):=by rfl):PGs X (e::es)<|GX t u:=by
 intro a s σ H o n Q I r h
 cases r with
 |nil=>cases h
 |cons r l =>
  rw[m];refine assignInOrder_cons<|CN (b a s σ H _ _ _ I r h) λ_ g f=>?_
  obtain⟨j,d,i,c⟩:=f;exact k a g j d _ _ Q i l c
inductive lZ(K:_q)(n:_c)(t:qP)(a:_d)(σ:St)(H:Hp)(Q:St->Hp->Prop):Prop
|mk(xs:_)(_:JD K H a xs)(_:xs.length=n)(_:t xs σ H Q)
abbrev Tr(K:_q)(n:_c)(t:qP):TG:=λv σ H Q=>Jw (λa H=>lZ K n t a σ H Q) v H
theorem Gf{k:_c}{t:qP}(m:X.calm=_g)(h:PGs X es t)
  (p:(assignEach es X.env).length=n:=by rfl)(d:(assignEach es X.env).findIdx? (·.1)=none:=by rfl):PG X (.Tuple es k pos)<|Tr X.K n t:=by
 intro f s σ H v u Q I r c;obtain⟨a,rfl,j,x,hl,c⟩:=Jw.e c
 cases r;obtain⟨y,g,w,z⟩:=I.tuple x;refine assign_Tuple_tuple (I.ok.hd m) w (by simp[p,<-hl,g.length]) d λi l=>?_;have q:Inv X f σ H { s with heap:=i }:=I.kept (t':=s.toks) λb o e=>l b o (db<|_B e) e;exact h f _ σ H j _ Q q (by simpa using g) c
abbrev gSub(to ti:TE)(t:rD):TG:=λv σ H Q=>to σ H λo H1=>ti σ H1 λi H2=>t o i v H2 λH3=>Q σ H3
theorem cL{o i:Expr}{d c:TE}{t:rD}(l:PE X o d)(hi:PE X i c)(m:AAa X t)
  (g:∀v,assign (.Subscript o i pos) X.env v=(do
   let ov <-holding [v] (eval o X.env);let iv <-holding [v,ov] (eval i X.env)
   standAt pos
   holding [v,ov,iv] (setItem ov iv v)
   release [v,ov,iv] []):=by intro _;rfl):PG X (.Subscript o i pos)<|gSub d c t:=by
 intro b s σ H v u Q I r h;rw[g];refine _e<|Ν<|CN (l b s σ H _ I h) λov z a=>?_
 obtain⟨x,q,A,p,D⟩:=a;refine _e<|Ν<|CN (hi b z σ q _ A D) λiv e a=>?_
 obtain⟨y,k,w,f,C⟩:=a;refine _e<|sM<|_e<|Ν<|CN (m b e σ k x y v ov iv u _ w p f r C) λ_ E a=>?_
 obtain⟨j,n,B⟩:=a;exact wpAny_release ⟨σ,j,n,B⟩
abbrev V_(te:TE)(g:TG):TS:=λD σ H=>te σ H λx H1=>g x σ H1 D.nx
theorem Ph{e:Expr}{g:TG}(d:PE X e te)(k:PG X tg g)(l:swapsWithSole [tg] e pos.line X.env=pure false:=by rfl)(c:swappedStores [tg] e X.env=pure none:=by rfl)
  (b:(assignEach [tg] X.env).map (·.2)=[assign tg X.env]:=by rfl):PS X (.Assign [tg] e pos)<|V_ te g:=by
 intro a s σ H D I h;refine wpAny_Assign_stores (CN (d a s σ H _ I h) λv i ⟨x,f,j,n,m⟩=>?_) l c;rw[b];exact CN (k a i σ f x v _ j n m) λ_ o q=>q
theorem BZ{x:_m}{e:Expr}{a:ī}(k:X.N.Nodup)(hi:X.N[i]? = _b x)(b:Loc X.env.scope x)(d:PE X e te)(m:swapsWith e (_b<|.Name x a) pos.line X.env=pure false:=by rfl)(l:X.fn x=_g \/ X.env.scope.names.lookup x=_b .local:=by first | exact .inl rfl | exact .inr rfl | assumption) :
  PS X (.Assign [.Name x a] e pos) (V_ te<|Df i):=by
 intro c s σ H D I h;refine wpAny_Assign_Name (CN (d c s σ H _ I h) λv q ⟨y,f,j,o,n⟩=>?_) m;exact Ug j k hi b o (λp g=>⟨_,f,g,n⟩) l
abbrev RT(c:TT)(tb:TS):TS:=λD σ H=>∃W:_c->St->Hp->Prop,(∃m,W m σ H)/\∀m σ H,W m σ H ->
 c σ H λb H1=>if b=_g then ∃N:St->Hp->Prop,(∀σ' H',N σ' H'->∃m',m'<m/\W m' σ' H')/\tb { D with nx:=N,ct:=N,bk:=D.nx } σ H1 else D.nx σ H1
theorem Uh{c:Expr}{a:_a Ú}{t:TT}(r:PassesOwn (_D X.prog X.w) X.A X.env X.xe)(K:PT X c t)(C:RJ X a tb):PS X (.While c a [] pos)<|RT t tb:=by
 intro k s σ H D I h;obtain⟨W,⟨J,F⟩,P⟩:=h;refine wpAny_While<|codeAny_whileLoop (λn O=>∃y w,Inv X k y w O/\W n y w) ?_ J ⟨σ,H,I,F⟩
 rintro n L ⟨g,z,M,G⟩;refine Ð r<|CN (K k L g z _ M<|P n g z G) λb B E=>?_
 obtain⟨x,A,j⟩:=E
 cases b with
 |true =>
  obtain⟨N,u,j⟩:=j;rw[_n U];refine Ð r<|CN (C k B g x _ A j) λf Q i=>?_
  cases f with
  |next =>
   obtain⟨d,e,m,p⟩:=i;obtain⟨o,l,q⟩:=u d e p;exact⟨o,l,d,e,m,q⟩
  |cont =>
   obtain⟨d,e,m,p⟩:=i;obtain⟨o,l,q⟩:=u d e p;exact⟨o,l,d,e,m,q⟩
  |brk=>exact i
  |ret v=>exact i
 |false =>
  rw[_l eI];exact ç ⟨g,x,A,j⟩
structure It where
 go:_c->Hp->Prop
 yld:_c->Hp->V->Hp->Prop
 stop:_c->Hp->Prop
def Lp(X:Cx)(a8:_a<|_d×Þ)(H:Hp)(b:_d):Prop :=
 H b=_o/\b≠X.env.locals/\b ∉ X.fs/\(b∈X.ex \/ X.s₀.heap.objs.size<=b)/\(∀x c,X.env.cells.lookup x=_b c->c≠b)/\∀p∈X.pn++a8,p.1≠b
theorem Inv.P0(I:Inv X a8 σ H s)(a:s.heap.objs.size<=b)(d:H' b=_o):Lp X a8 H' b:=by
 refine⟨d,iA<|bq I.lt a,I.nofs a,.inr<|cq I.sz a,λx c e z=>?_,λp f z=>?_⟩
 .obtain⟨v,q⟩:=I.cell x c e;exact _z (bq q.lt<|by rw[z];exact a)<|gS _
 .exact _z (bq (_B (I.pin p f).1)<|by rw[z];exact a)<|gS _
structure Turn(P:Γ)(w:_P)(K:_q)(tg:Expr)(J:It)(fp:_a _d)(it:_d)(tn:_c->χ->Prop):Prop where
 mem:it∈fp
 obj:∀i h,tn i h->∀b∈fp,∃o,h.get? b=_b o/\∀v,o.data≠.cell v
 keep:∀i h h',tn i h->(∀b∈fp,∀o,h.get? b=_b o->h'.get? b=_b o)->tn i h'
 item:∀(X:Cx),X.prog=P->X.w=w->X.K=K->X.calm=_g->∀(i:_c)(a8:_a<|_d × Þ)(s:_C)(σ:St)(H:Hp)(E:vSP),Inv X a8 σ H s->(∀b∈fp,Lp X a8 H b)->tn i s.heap->J.go i H ->
  wpAny (_D P w) X.A (pyNext<|.ref it) (λr s1=>∃u,r=_b u /\
   wpAny (_D P w) X.A (letOwnedTupleGo tg (.ref it) u) (λ_ s2=>∃x H',Inv X a8 σ H' s2/\RelV x u/\J.yld i H x H'/\tn (i+1) s2.heap/\∀b∈fp,H' b=_o) E s1) E s
 done:∀(X:Cx),X.prog=P->X.w=w->X.K=K->X.calm=_g->∀(i:_c)(a8:_a<|_d × Þ)(s:_C)(σ:St)(H:Hp)(E:vSP),Inv X a8 σ H s->(∀b∈fp,Lp X a8 H b)->tn i s.heap->J.stop i H ->
  wpAny (_D P w) X.A (pyNext<|.ref it) (λr s1=>r=_o/\Inv X a8 σ H s1) E s
 self:∀(A:ì)(i:_c)(s:_C)(Q:vSP)(E:vSP),tn i s.heap->Q (.ref it) s->wpAny (_D P w) A (pyIter<|.ref it) Q E s
abbrev TI:=St->Hp->(It->Hp->Prop)->Prop
inductive PIE(X:Cx)(a8:_a<|_d×Þ)(σ:St)(tg:Expr)(R:It->Hp->Prop)(Ev:_k)(s2:_C):Prop
|mk(it:_d)(fp:_a _d)(tn:_c->χ->Prop)(J:It)(H':Hp)(_:Ev=.ref it)(_:Inv X a8 σ H' s2)(_:Turn X.prog X.w X.K tg J fp it tn)(_:tn 0 s2.heap)(_:∀b∈fp,Lp X a8 H' b)(_:R J H')
def PI(X:Cx)(tg iter:Expr)(wi:TI):Prop :=
 ∀(a8:_a<|_d × Þ)(s:_C)(σ:St)(H:Hp)(R:It->Hp->Prop),Inv X a8 σ H s->wi σ H R ->
  wpAny (_D X.prog X.w) X.A (eval iter X.env) (λv s1=>wpAny (_D X.prog X.w) X.A (pyIter v) (PIE X a8 σ tg R) X.xe s1) X.xe s
theorem Qy{M:z5}{b:_d}{o:Þ}{n:ã}{vs:_E _k}{Q:Cn->_C->Prop}(e:s.heap.get? b=_b o)(f:o.cls=.type n)(d:o.data=.fields vs)
  (c:["enumerate","zip","dict_itemiterator","dict_reverseitemiterator","odict_iterator","itertools.zip_longest","itertools.pairwise"].contains n=_p)(a:Q () s):wpAny M A (letOwnedTupleGo tg (.ref b) u) Q E s:=by
 unfold letOwnedTupleGo
 cases tg <;> first
  | exact _v a
  | (cases u <;> first
    | exact _v a
    | (refine _e (wpAny_load e ?_)
       rw[f,d];show wpAny M A (if (["enumerate","zip","dict_itemiterator","dict_reverseitemiterator","odict_iterator","itertools.zip_longest","itertools.pairwise"].contains n && vs[0]? == _b (rawInt _))=_g then _ else _) Q E s;rw[_l (by intro h;rw[c,hV] at h;cases h)];exact _v a))
def jb(K:_q)(a:_d):It :=
 ⟨λi H=>∃xs x,Dd K H a xs/\xs[i]? = _b x,λi H x H'=>H'=H/\∀xs,Dd K H a xs->xs[i]? = _b x,λi H=>∃xs,Dd K H a xs/\xs.length<=i⟩
def Itt(K:_q)(a:_d):It :=
 ⟨λi H=>∃xs x,JD K H a xs/\xs[i]? = _b x,λi H x H'=>H'=H/\∀xs,JD K H a xs->xs[i]? = _b x,λi H=>∃xs,JD K H a xs/\xs.length<=i⟩
def kJ(lo:_j)(n:_c):It:=⟨λi _=>i<n,λi H x H'=>H'=H/\x=.int (lo+i),λi _=>n<=i⟩
theorem Yj{w:_P}{K:_q}(a g:_d):Turn P w K tg (jb K a) [g] g (λi h=>h.IsListIter g a i) where
 mem:=by simp
 obj:=λi h st b f=>by
  have e:b=g:=by simpa using f
  subst e;obtain⟨o,e,c,d⟩:=st;exact⟨o,e,λv z=>by rw[d] at z;cases z⟩
 keep:=λi h j st k=>st.at λo e=>k g (by simp) o e
 item:=by
  intro X C n t M i L s σ H E I m st A;subst C n t;obtain⟨O,x,l,r⟩:=A;obtain⟨J,y,p,Y⟩:=I.list l;obtain⟨u,V,R⟩:=y.get r;obtain⟨q,F,f2,D,G,B⟩:=m g<|by simp
  refine wpAny_pyNext_list_item st p.isList (x:=u) (by simpa using V) λj N S=>?_;have Z:Inv X L σ H { s with heap:=j }:=I.turned (t':=s.toks) (λb o f e=>(S.2 b f).trans e) q F D G B;obtain⟨o,e,c,d⟩:=id N;exact⟨u,U,Qy (s:={ s with heap:=j }) e c d (by decide) ⟨x,H,Z,R,⟨U,λys T=>by rw[I.U5 T l];exact r⟩,N,λb f=>(m b f).1⟩⟩
 done:=by
  intro X C n t M i L s σ H E I m st A;subst C n t;obtain⟨O,l,r⟩:=A;obtain⟨J,y,p,Y⟩:=I.list l;obtain⟨q,F,f2,D,G,B⟩:=m g<|by simp
  have hl:=y.length;exact wpAny_pyNext_list_end (I.ok.hd M) st p.isList (by simp;exact hl▸r) λj Q=>⟨U,I.turned (t':=s.toks) (λb o f e=>Q b o f e) q F D G B⟩
 self:=λ_ _ _ _ _ st h=>wpAny_pyIter_listiter st h
theorem WN{w:_P}{K:_q}(a j:_d):Turn P w K tg (Itt K a) [j] j (λi h=>h.IsTupleIter j a i) where
 mem:=by simp
 obj:=λi h st b f=>by
  have e:b=j:=by simpa using f
  subst e;obtain⟨o,e,c,d⟩:=st;exact⟨o,e,λv z=>by rw[d] at z;cases z⟩
 keep:=λi h l st k=>st.at λo e=>k j (by simp) o e
 item:=by
  intro X D q y M i L s σ H E I n st B;subst D q y;obtain⟨O,x,m,t⟩:=B;obtain⟨g,A,p,Y⟩:=I.tuple m;obtain⟨u,V,R⟩:=A.get t;obtain⟨r,G,f2,F,J,C⟩:=n j<|by simp
  refine wpAny_pyNext_tuple_item st (show s.heap.IsTuple a g.toArray from p) (x:=u) (by simpa using V) λl N S=>?_;have Z:Inv X L σ H { s with heap:=l }:=I.turned (t':=s.toks) (λb o f e=>(S.2 b f).trans e) r G F J C;obtain⟨o,e,c,d⟩:=id N;exact⟨u,U,Qy (s:={ s with heap:=l }) e c d (by decide) ⟨x,H,Z,R,⟨U,λys T=>by rw[I.Ml T m];exact t⟩,N,λb f=>(n b f).1⟩⟩
 done:=by
  intro X D q y M i L s σ H E I n st B;subst D q y;obtain⟨O,m,t⟩:=B;obtain⟨g,A,p,Y⟩:=I.tuple m;obtain⟨r,G,f2,F,J,C⟩:=n j<|by simp
  have hl:=A.length;exact wpAny_pyNext_tuple_end (I.ok.hd M) st (show s.heap.IsTuple a g.toArray from p) (by simp;exact hl▸t) λl Q=>⟨U,I.turned (t':=s.toks) (λb o f e=>Q b o f e) r G F J C⟩
 self:=λ_ _ _ _ _ st h=>wpAny_pyIter_tupleiter st h
theorem Vz{w:_P}{K:_q}(a:_d)(lo:_j)(n:_c):Turn P w K tg (kJ lo n) [a] a (λi h=>SY h a (lo+(i:_c) * 1) ((n:_j) - (i:_c)) 1) where
 mem:=by simp
 obj:=λi h st b c=>by
  have e:b=a:=by simpa using c
  subst e;exact⟨_,st,λv z=>by
   have L:Ň _=ĩ v:=z
   cases L⟩
 keep:=λi h d st k=>k a (by simp) _ st
 item:=by
  intro X q g l r i A s σ H E I f st m;subst q g l;obtain⟨j,x,M,u,y,p⟩:=f a<|by simp
  have W:=Walks.range (prog:=X.prog) (w:=X.w) (I.ok.hd r) a lo 1 n;refine W.item i s _ _ m st λv d B G C F=>?_;obtain⟨t,rfl⟩:=G;have J:Inv X A σ H { s with heap:=d,toks:=B }:=I.turned (λb o c e=>F b o (by simpa using c) e) j x u y p;refine⟨_,U,Qy (s:={ s with heap:=d,toks:=B }) (n:="range_iterator") C U U (by decide) ⟨.int<|lo+i,H,J,⟨t,?_⟩,⟨U,U⟩,C,λb c=>(f b c).1⟩⟩;rw[oI]
 done:=by
  intro X q g l r i A s σ H E I f st m;subst q g l;obtain⟨j,x,M,u,y,p⟩:=f a<|by simp
  exact wpAny_pyNext_range_end (I.ok.hd r) st (by have:n<=i:=m;lia) λd D=>⟨U,I.turned (t':=s.toks) (λb o c e=>D b o c e) j x u y p⟩
 self:=λ_ _ _ _ _ st h=>wpAny_pyIter_rangeiter st h
abbrev yM(K:_q)(tl:TE):TI:=λσ H R=>tl σ H<|Jw λa H1=>(∃xs,Dd K H1 a xs)/\R (jb K a) H1
abbrev iTup(K:_q)(tl:TE):TI:=λσ H R=>tl σ H<|Jw λa H1=>(∃xs,JD K H1 a xs)/\R (Itt K a) H1
theorem Bl{l:Expr}{f:TE}(hl:PE X l f):PI X tg l<|yM X.K f:=by
 intro g s σ H R I h;refine CN (hl g s σ H _ I h) λv c m=>?_;obtain⟨x,j,d,t,i⟩:=m;obtain⟨a,e,⟨u,n⟩,q⟩:=Jw.e i;subst e
 cases t;obtain⟨r,w,p,y⟩:=d.list n;refine Ę p.isList ?_;refine⟨c.heap.objs.size,[c.heap.objs.size],_,_,j,U,d.kept (t':=c.toks) λb o e=>_f _ e,Yj a _,⟨_,_A _ U,U,U⟩,λb k=>?_,q⟩;have e:b=c.heap.objs.size:=by simpa using k
 subst e;exact d.P0 (al _)<|d.hok.fresh<|al _
theorem VH{l:Expr}{g:TE}(hl:PE X l g):PI X tg l<|iTup X.K g:=by
 intro i s σ H R I h;refine CN (hl i s σ H _ I h) λv c n=>?_;obtain⟨x,k,d,t,j⟩:=n;obtain⟨a,e,⟨u,r⟩,q⟩:=Jw.e j;subst e
 cases t;obtain⟨f,w,p,y⟩:=d.tuple r;refine Ď (show c.heap.IsTuple a f.toArray from p) ?_;refine⟨c.heap.objs.size,[c.heap.objs.size],_,_,k,U,d.kept (t':=c.toks) λb o e=>_f _ e,WN a _,⟨_,_A _ U,U,U⟩,λb m=>?_,q⟩;have e:b=c.heap.objs.size:=by simpa using m
 subst e;exact d.P0 (al _)<|d.hok.fresh<|al _
theorem TY{R:It->Hp->Prop}{lo hi:_j}{t u v:y9}{c:_c}(I:Inv X a8 σ H s)(d : -(2 ^ 62)<=lo)(i:lo<2 ^ 62)(j : -(2 ^ 62)<=hi)(f:hi<2 ^ 62)
  (q:R (kJ lo (hi - lo).toNat) H):wpAny (_D X.prog X.w) X.A (pyIter<|.ref s.heap.objs.size) (PIE X a8 σ tg R) E { s with heap:=s.heap.push { cls:=.type "range",data:=.fields #[.int lo t,.int hi u,.int 1 v] },toks:=c }:=by
 refine wpAny_pyIter_range (IsRange.new ..) (small_one d i j f) ?_;have a:Inv X a8 σ H { s with heap:=s.heap.push { cls:=.type "range",data:=.fields #[.int lo t,.int hi u,.int 1 v] },toks:=c }:=I.kept λb o e=>_f _ e;refine⟨(s.heap.push { cls:=.type "range",data:=.fields #[.int lo t,.int hi u,.int 1 v] }).objs.size,[(s.heap.push { cls:=.type "range",data:=.fields #[.int lo t,.int hi u,.int 1 v] }).objs.size],_,_,H,U,
  a.kept (t':=c) λb o e=>_f _ e,Vz _ lo (hi - lo).toNat,?_,λb h=>?_,q⟩
 .have g:lo+((0:_c):_j) * 1=lo:=by simp
  have k:(((hi - lo).toNat:_c):_j) - ((0:_c):_j)=Builtin.Range.rangeSize lo hi 1:=by rw[rangeSize_one];split <;> lia
  show SY _ _ (lo+((0:_c):_j) * 1) ((((hi - lo).toNat:_c):_j) - ((0:_c):_j)) 1;rw[g,k];exact _A _ U
 .have e:b=(s.heap.push { cls:=.type "range",data:=.fields #[.int lo t,.int hi u,.int 1 v] }).objs.size:=by simpa using h
  subst e;exact a.P0 (al _)<|a.hok.fresh<|al _
inductive aL(R:It->Hp->Prop)(vs:_a V)(H1:Hp):Prop
|mk(j:_j)(_:vs=[.int j])(_:-(2 ^ 62)<=j)(_:j<2 ^ 62)(_:R (kJ 0 j.toNat) H1)
abbrev zY(ta:TA):TI:=λσ H R=>ta σ H λvs H1=>aL R vs H1
inductive ak(R:It->Hp->Prop)(vs:_a V)(H1:Hp):Prop
|mk(i j:_j)(_:vs=[.int i,.int j])(_:-(2 ^ 62)<=i/\i<2 ^ 62 /\ -(2 ^ 62)<=j/\j<2 ^ 62)(_:R (kJ i (j - i).toNat) H1)
abbrev wY(ta:TA):TI:=λσ H R=>ta σ H λvs H1=>ak R vs H1
theorem Dk{a:Expr}{c:TA}{p:ī}(i:Gl X "range")(k:X.mg "range" = _o)(d:PA X [a] c)(n:starEach [a] X.env=[(_p,eval a X.env)]:=by rfl):PI X tg (.Call (.Name "range" p) [a] [] pos)<|zY c:=by
 intro f s σ H R I h;refine LV<|JF I i k boot_range<|ο (CN (d pos f s σ H _ I h) λu x ⟨v,w,g,o,b⟩=>?_) n U
 obtain⟨j,e,b,l,q⟩:=b;subst e
 cases o with
 |cons r m =>
  cases m;obtain⟨t,rfl⟩:=r;exact call_range_1<|TY g (by decide) (by decide) b l<|by simpa using q
theorem ZD{a b:Expr}{g:TA}{p:ī}(u:Gl X "range")(w:X.mg "range" = _o)(k:PA X [a,b] g)(y:starEach [a,b] X.env=[(_p,eval a X.env),(_p,eval b X.env)]:=by rfl)(f:starEach [b] X.env=[(_p,eval b X.env)]:=by rfl) :
  PI X tg (.Call (.Name "range" p) [a,b] [] pos) (wY g):=by
 intro m s σ H R I h;refine LV<|JF I u w boot_range<|ο (CN (k pos m s σ H _ I h) λA E ⟨C,D,o,z,d⟩=>?_) (by rw[y,f])<|by rw[f];rfl
 obtain⟨i,j,e,⟨d,x,v,l⟩,q⟩:=d;subst e
 cases z with
 |cons r c =>
  cases c with
  |cons n c =>
   cases c;obtain⟨t,rfl⟩:=r;obtain⟨B,rfl⟩:=n;exact call_range_2<|TY o d x v l q
abbrev tFor(wi:TI)(g:TG)(tb:TS):TS:=λD σ H=>wi σ H λJ H1=>∃W:_c->_c->St->Hp->Prop,(∃m,W 0 m σ H1)/\∀i m σ H,W i m σ H ->
 (J.stop i H/\D.nx σ H) \/ (J.go i H/\∃N:St->Hp->Prop,(∀σ' H',N σ' H'->∃m',m'<m/\W (i+1) m' σ' H')/\∀x H',J.yld i H x H'->g x σ H' λσ2 H2=>tb { D with nx:=N,ct:=N,bk:=D.nx } σ2 H2)
def O_(fp:_a _d)(h:χ):_a<|_d×Obj:=fp.filterMap λb=>(h.get? b).map λo=>(b,o)
theorem Ia{o:Þ}(a:b∈fp)(e:h.get? b=_b o):(b,o)∈O_ fp h:=iX.mpr ⟨b,a,by rw[e];rfl⟩
theorem Yq{p:_d×Þ}(c:p∈O_ fp h):p.1∈fp/\h.get? p.1=_b p.2:=by
 obtain⟨b,d,e⟩:=iX.mp c
 cases q:h.get? b with
 |none=>rw[q] at e;cases e
 |some o =>
  rw[q] at e;have a:(b,o)=p:=_h e;subst a;exact⟨d,q⟩
theorem Inv.pinned(I:Inv X a8 σ H s)(g:∀b∈fp,Lp X a8 H b)(k:∀b∈fp,∃o,s.heap.get? b=_b o/\∀v,o.data≠.cell v):Inv X (a8++O_ fp s.heap) σ H s :=
 I.Xg λp f=>(aT.mp f).elim (λz=>I.pin p<|dc _ z) λz=>by
  obtain⟨c,e⟩:=Yq z;obtain⟨i,h,j,_⟩:=g p.1 c;obtain⟨o,a,d⟩:=k p.1 c;rw[e] at a;cases a;exact⟨e,i,h,j,d⟩
theorem Inv.K5{pl:_a (_d×Þ)}(I:Inv X (a8++pl) σ H s):Inv X a8 σ H s:=I.Xg λp a=>I.pin p<|dc _<|bE _ a
theorem DQ{q:_a Ú}{S:TI}{g:TG}(z:PassesOwn (_D X.prog X.w) X.A X.env X.xe)(hc:X.calm=_g)(hi:PI X tg iter S)(hg:PG X tg g)(k:RJ X q tb)
  (hs:∀x,foldedSetIterable iter X.env x=pure x:=by intro _;rfl):PS X (.For tg iter q [] pos)<|tFor S g tb:=by
 intro w s σ H D I h;refine wpAny_For (CN (hi w s σ H _ I h) λv s1 h1=>CN h1 λEv s2 h2=>?_) hs;obtain⟨it,E,tn,J,H2,e,I2,T,Q,Y,W,⟨m0,w0⟩,vw⟩:=h2;subst e;have c:∀{p:Hp},(∀b∈E,p b=_o)->∀b∈E,Lp X w p b:=λhn b k=>⟨hn b k,(Y b k).2⟩;refine codeAny_forLoop_any (λn s'=>∃i A p,Inv X w A p s'/\tn i s'.heap/\(∀b∈E,p b=_o)/\W i n A p) ?_ m0 ⟨0,σ,H2,I2,Q,λb k=>(Y b k).1,w0⟩;rintro n V ⟨i,C,F,I3,B,R,w3⟩;rcases vw i n C F w3 with⟨stop,qn⟩ | ⟨go,N,hN,step⟩
 .refine Ð z<|CN (T.done X U U U hc i w V C F X.xe I3 (c R) B stop) λr s4 ⟨K,I4⟩=>?_
  subst K;exact ç ⟨C,F,I4,qn⟩
 .refine Ð z<|CN (T.item X U U U hc i w V C F X.xe I3 (c R) B go) λr s4 ⟨u,K,h4⟩=>?_
  subst K;refine Ð z<|CN h4 λ_ Z M=>?_
  obtain⟨x,H5,I5,r5,y5,P,O⟩:=M;have G:=I5.pinned (c O)<|T.obj _ _ P
  refine Ð z<|CN (hg _ Z C H5 x u _ G r5<|step x H5 y5) λ_ s6 M=>?_
  obtain⟨σ6,H6,I6,q6⟩:=M;refine Ð z<|CN (k _ s6 σ6 H6 _ I6 q6) λf L t=>?_
  have again:∀{j:St}{l:Hp},Inv X (w++O_ E Z.heap) j l L->N j l->∃m,m<n/\∃i A p,Inv X w A p L/\tn i L.heap/\(∀b∈E,p b=_o)/\W i m A p:=λ{j l} a y=>by
   obtain⟨m',hm,w7⟩:=hN j l y;refine⟨m',hm,i+1,j,l,a.K5,T.keep _ _ _ P λb k o e=>(a.pin (b,o)<|dc _<|dc _<|Ia k e).1,λb k=>?_,w7⟩;obtain⟨o,e,d⟩:=T.obj _ _ P b k;exact (a.pin (b,o)<|dc _<|dc _<|Ia k e).2.1
  cases f with
  |next=>obtain⟨j,l,a,y⟩:=t;exact again a y
  |cont=>obtain⟨j,l,a,y⟩:=t;exact again a y
  |brk=>obtain⟨j,l,a,t⟩:=t;exact⟨j,l,a.K5,t⟩
  |ret v=>obtain⟨x7,j,l,a,r7,t⟩:=t;exact⟨x7,j,l,a.K5,r7,t⟩
theorem Gb{K:_q}{g:TG}(b:_c->St->Hp->Prop)(f:b 0 σ H)(hl:∀i σ H,i<=xs.length->b i σ H->Dd K H a xs)
  (k:∀i x σ H,xs[i]? = _b x->b i σ H->g x σ H λσ2 H2=>tb { D with nx:=b<|i+1,ct:=b<|i+1,bk:=D.nx } σ2 H2) (h:∀σ H,b xs.length σ H->D.nx σ H) :
  ∃W:_c->_c->St->Hp->Prop,(∃m,W 0 m σ H)/\∀i m σ H,W i m σ H ->
   ((jb K a).stop i H/\D.nx σ H) \/ ((jb K a).go i H/\∃N:St->Hp->Prop,(∀σ' H',N σ' H'->∃m',m'<m/\W (i+1) m' σ' H')/\∀x H',(jb K a).yld i H x H'->g x σ H' λσ2 H2=>tb { D with nx:=N,ct:=N,bk:=D.nx } σ2 H2):=by
 refine⟨λi m σ H=>m=xs.length - i/\i<=xs.length/\b i σ H,⟨xs.length,by simp,Ζ _,f⟩,?_⟩;rintro i m σ H ⟨rfl,j,p⟩;have q:=hl i σ H j p;by_cases c:i<xs.length
 .refine .inr ⟨⟨xs,xs[i],q,by simp[c]⟩,b<|i+1,λσ' H' d=>⟨xs.length - (i+1),by lia,U,c,d⟩,λx H' y=>?_⟩;obtain⟨e,y⟩:=y;subst e;exact k i x σ _ (y xs q) p
 .have e:i=xs.length:=Fr j (me c)
  subst e;exact .inl ⟨⟨xs,q,al _⟩,h σ H p⟩
theorem Ys{lo:_j}{g:TG}(b:_c->St->Hp->Prop)(d:b 0 σ H)
  (h:∀i σ H,i<n->b i σ H->g (.int<|lo+i) σ H λσ2 H2=>tb { D with nx:=b<|i+1,ct:=b<|i+1,bk:=D.nx } σ2 H2) (f:∀σ H,b n σ H->D.nx σ H) :
  ∃W:_c->_c->St->Hp->Prop,(∃m,W 0 m σ H)/\∀i m σ H,W i m σ H ->
   ((kJ lo n).stop i H/\D.nx σ H) \/ ((kJ lo n).go i H/\∃N:St->Hp->Prop,(∀σ' H',N σ' H'->∃m',m'<m/\W (i+1) m' σ' H')/\∀x H',(kJ lo n).yld i H x H'->g x σ H' λσ2 H2=>tb { D with nx:=N,ct:=N,bk:=D.nx } σ2 H2):=by
 refine⟨λi m σ H=>m=n - i/\i<=n/\b i σ H,⟨n,by simp,Ζ _,d⟩,?_⟩;rintro i m σ H ⟨rfl,j,p⟩;by_cases a:i<n
 .refine .inr ⟨a,b<|i+1,λσ' H' c=>⟨n - (i+1),by lia,U,a,c⟩,λx H' y=>?_⟩;obtain⟨e,y⟩:=y;subst e y;exact h i σ _ a p
 .have e:i=n:=Fr j (me a)
  subst e;exact .inl ⟨al _,f σ H p⟩
theorem R4{c:TT}(a:St->Hp->Prop)(μ:St->Hp->_c)(e:a σ H)
  (f:∀σ H,a σ H->c σ H λb H1=>if b=_g then tb { D with nx:=λσ' H'=>a σ' H'/\μ σ' H'<μ σ H,ct:=λσ' H'=>a σ' H'/\μ σ' H'<μ σ H,bk:=D.nx } σ H1 else D.nx σ H1)
  (mono:∀σ H Q Q',(∀b H1,Q b H1->Q' b H1)->c σ H Q->c σ H Q'):RT c tb D σ H:=by
 refine⟨λm σ H=>m=μ σ H/\a σ H,⟨_,U,e⟩,?_⟩;rintro m σ H ⟨rfl,p⟩;refine mono σ H _ _ (λb H1 q=>?_)<|f σ H p
 cases b with
 |true=>exact⟨_,λσ' H' ⟨d,l⟩=>⟨_,l,U,d⟩,q⟩
 |false=>exact q
abbrev R2:=V->V->Hp->VK->Prop
def HW(X:Cx)(f:_k->_k->ũ _k)(r:R2):Prop :=
 ∀(a8:_a<|_d × Þ)(s:_C)(σ:St)(H:Hp)(x y:V)(v u:_k)(Q:VK),Inv X a8 σ H s->RelV x v->RelV y u->r x y H Q ->
  wpAny (_D X.prog X.w) X.A (f v u) (EP X a8 σ Q) X.xe s
def UnR(X:Cx)(f:_k->ũ _k)(r:V->Hp->VK->Prop):Prop :=
 ∀(a8:_a<|_d × Þ)(s:_C)(σ:St)(H:Hp)(x:V)(v:_k)(Q:VK),Inv X a8 σ H s->RelV x v->r x H Q ->
  wpAny (_D X.prog X.w) X.A (f v) (EP X a8 σ Q) X.xe s
def Fw(X:Cx)(f:_k)(r:_a V->Hp->VK->Prop):Prop :=
 ∀(a8:_a<|_d × Þ)(s:_C)(σ:St)(H:Hp)(xs:_a V)(us:_a _k)(Q:VK),Inv X a8 σ H s->Vals xs us->r xs H Q ->
  wpAny (_D X.prog X.w) X.A (call f us) (EP X a8 σ Q) X.xe s
def TruR(X:Cx)(r:V->Hp->(_O->Hp->Prop)->Prop):Prop :=
 ∀(a8:_a<|_d × Þ)(s:_C)(σ:St)(H:Hp)(x:V)(v:_k)(Q:_O->Hp->Prop),Inv X a8 σ H s->RelV x v->r x H Q ->
  wpAny (_D X.prog X.w) X.A (truthy v) (TP X a8 σ Q) X.xe s
abbrev Zk(r:R2)(ta tb:TE):TE:=λσ H Q=>ta σ H λx H1=>tb σ H1 λy H2=>r x y H2 Q
abbrev tUn(r:V->Hp->VK->Prop)(ta:TE):TE:=λσ H Q=>ta σ H λx H1=>r x H1 Q
def rI(C:_j->_j->Prop)(g:_j->_j->V)(x y:V)(H:Hp)(Q:VK):Prop:=Np (λi=>Np (λj H=>C i j/\Q (g i j) H) y) x H
abbrev XS(g:_j->_j->V)(x y:V)(H:Hp)(Q:VK):Prop:=Np (λi=>Np (λj=>Q<|g i j) y) x H
abbrev rU(g:_j->V)(x:V)(H:Hp)(Q:VK):Prop:=Np (λi=>Q<|g i) x H
section
variable{a b c:Expr}{tb tc:TE}
theorem uo(e:PE X a ta)(g:PE X b tb){R:V->V->Hp->Prop}(I:Inv X a8 σ H s)
  (h:ta σ H λx H1=>tb σ H1 λy H2=>R x y H2){f:_k->_k->ũ _k}
  (m:∀v u s2 x y H2,Inv X a8 σ H2 s2->RelV x v->RelV y u->R x y H2->wpAny (_D X.prog X.w) X.A (f v u) Q X.xe s2) :
  wpAny (_D X.prog X.w) X.A (eval a X.env) (λv s₁=>wpAny (_D X.prog X.w) X.A (eval b X.env) (λu s₂=>wpAny (_D X.prog X.w) X.A (f v u) Q X.xe s₂) X.xe s₁) X.xe s:=by
 refine CN (e a8 s σ H _ I h) λv k c=>?_;obtain⟨x,H1,l,o,i⟩:=c;refine CN (g a8 k σ H1 _ l i) λu s2 c=>?_;obtain⟨y,H2,j,d,n⟩:=c;exact m v u s2 x y H2 j o d n
theorem BK{c:Operator}{r:R2}(m:HW X (binaryOp c) r)(f:PE X a ta)(i:PE X b tb):PE X (.BinOp a c b pos)<|Zk r ta tb:=by
 intro g s σ H Q I h;exact wpAny_BinOp<|uo f i I h λv u d x y l k e j q=>m g d σ l x y v u Q k e j q
theorem Km{b:UnaryOp}{r:V->Hp->VK->Prop}(g:UnR X (unaryOp b) r)(f:PE X a ta):PE X (.UnaryOp b a pos)<|tUn r ta:=by
 intro c s σ H Q I h;exact UnaryOp_<|CN (f c s σ H _ I h) λv d ⟨x,j,e,k,i⟩=>g c d σ j x v Q e k i
theorem vH{f:_k->_k->ũ _k}{C:_j->_j->Prop}{g:_j->_j->_j}
  (rule:∀(i j:_j)(t u:y9)(s:_C)(Q:vSP)(E:vSP),C i j->Q (.int (g i j) s.toks) { s with toks:=s.toks+1 }->wpAny (_D X.prog X.w) X.A (f (.int i t)<|.int j u) Q E s) :
  HW X f (rI C λi j=>.int<|g i j):=by
 intro k s σ H x y v u Q I b c h;obtain⟨i,rfl,e⟩:=Np.e h;obtain⟨j,rfl,d,q⟩:=Np.e e;obtain⟨t,rfl⟩:=b;obtain⟨a,rfl⟩:=c;exact rule i j t a s _ _ d ⟨.int<|g i j,H,I.tok _,⟨_,U⟩,q⟩
theorem iu{f:_k->_k->ũ _k}{g:_j->_j->_j}
  (rule:∀(i j:_j)(t u:y9)(s:_C)(Q:vSP)(E:vSP),Q (.int (g i j) s.toks) { s with toks:=s.toks+1 }->wpAny (_D X.prog X.w) X.A (f (.int i t)<|.int j u) Q E s) :
  HW X f (XS λi j=>.int<|g i j):=by
 intro e s σ H x y v u Q I b c h;obtain⟨i,rfl,d⟩:=Np.e h;obtain⟨j,rfl,q⟩:=Np.e d;obtain⟨t,rfl⟩:=b;obtain⟨a,rfl⟩:=c;exact rule i j t a s _ _ ⟨.int<|g i j,H,I.tok _,⟨_,U⟩,q⟩
theorem iB{f:_k->_k->ũ _k}{g:_j->_j->_O}
  (rule:∀(i j:_j)(t u:y9)(s:_C)(Q:vSP)(E:vSP),Q (.bool<|g i j) s->wpAny (_D X.prog X.w) X.A (f (.int i t)<|.int j u) Q E s) :
  HW X f (XS λi j=>.bl<|g i j):=by
 intro e s σ H x y v u Q I b c h;obtain⟨i,rfl,d⟩:=Np.e h;obtain⟨j,rfl,q⟩:=Np.e d;obtain⟨t,rfl⟩:=b;obtain⟨a,rfl⟩:=c;exact rule i j t a s _ _ ⟨.bl<|g i j,H,I,U,q⟩
def CDiv(i j:_j):Prop:=0<j/\j<1073741824
def zK(i j:_j):Prop:=0<=j/\j<=1000000/\i.natAbs<2 ^ 64
def ph(i j:_j):Prop:=(-(2 ^ 64)<i/\i<2 ^ 64) \/ (-(2 ^ 64)<j/\j<2 ^ 64)
theorem ph.ok{i j:_j}(h:ph i j):IntMulOk i j:=by
 rcases h with⟨a,b⟩ | ⟨a,b⟩
 .exact .of_left<|ND a b
 .exact .of_right<|ND a b
theorem two_pow_nn(k:_c):(0:_j)<=2 ^ k:=by
 rw[two_pow_cast];exact ja _
theorem Bu:HW X (binaryOp .Add)<|XS λi j=>.int<|i+j:=iu λ_ _ _ _ _ _ _ q=>add_int q
theorem GZ:HW X (binaryOp .Sub)<|XS λi j=>.int<|i - j:=iu λ_ _ _ _ _ _ _ q=>sub_int q
theorem JL:HW X (binaryOp .Mult)<|rI ph λi j=>.int<|i * j:=vH λ_ _ _ _ _ _ _ a q=>mul_int q a.ok
theorem Rk:HW X (binaryOp .FloorDiv)<|rI CDiv λi j=>.int<|i / j:=vH λi j _ _ _ _ _ a q=>by
 have b:(0:_j)<j:=a.1;have c:j<1073741824:=a.2;exact floordiv_int (YP b) (by rw[ş i (ST b)];exact q)<|.inl<|PyProof.noPylong_small<|by lia
theorem FW:HW X (binaryOp .Mod)<|rI (λ_ j=>0<j) λi j=>.int<|i % j:=vH λi j _ _ _ _ _ a q=>by
 have b:(0:_j)<j:=a;exact mod_int' (YP b)<|by rw[Int.fmod_eq_emod_of_nonneg i (ST b)];exact q
theorem Vr:HW X (binaryOp .Pow)<|rI zK λi j=>.int<|i ^ j.toNat:=vH λ_ _ _ _ _ _ _ a q=>pow_int_small a.1 a.2.1 a.2.2 q
theorem fK:HW X (binaryOp .LShift)<|rI zK λi j=>.int<|i * 2 ^ j.toNat:=vH λ_ _ _ _ _ _ _ a q=>lshift_int_small a.1 a.2.1 a.2.2 q
theorem dR:HW X (binaryOp .RShift)<|rI (λ_ j=>0<=j) λi j=>.int<|i / 2 ^ j.toNat:=vH λi j _ _ _ _ _ a q =>
 rshift_int a (by rw[ş i (two_pow_nn _)];exact q)
theorem KZ:HW X (binaryOp .BitAnd)<|XS λi j=>.int<|Χ i j:=iu λ_ _ _ _ _ _ _ q=>and_int q
theorem QM:HW X (binaryOp .BitOr)<|XS λi j=>.int<|Ć i j:=iu λ_ _ _ _ _ _ _ q=>or_int q
theorem unI{f:_k->ũ _k}{g:_j->_j}
  (rule:∀(i:_j)(t:y9)(s:_C)(Q:vSP)(E:vSP),Q (.int (g i) s.toks) { s with toks:=s.toks+1 }->wpAny (_D X.prog X.w) X.A (f<|.int i t) Q E s) :
  UnR X f (rU λi=>.int<|g i):=by
 intro b s σ H x v Q I a h;obtain⟨i,rfl,q⟩:=Np.e h;obtain⟨t,rfl⟩:=a;exact rule i t s _ _ ⟨.int<|g i,H,I.tok _,⟨_,U⟩,q⟩
theorem O8:UnR X (unaryOp .USub)<|rU λi=>.int<|-i:=unI λ_ _ _ _ _ q=>neg_int q
theorem Q_:UnR X (unaryOp .Invert)<|rU λi=>.int<|_S i:=unI λ_ _ _ _ _ q=>invert_int q
end
noncomputable def uM:V->V->_O
 |.non,.non=>_g | .non,.int _=>_g | .int _,.non=>_g | .non,.bl _=>_g | .bl _,.non=>_g | .non,.str _=>_g | .str _,.non=>_g
 |.int _,.int _=>_g | .bl _,.bl _=>_g | .str _,.str _=>_g | .byt _,.byt _=>_g
 |.int _,.str _=>_g | .str _,.int _=>_g | .bl _,.str _=>_g | .str _,.bl _=>_g
 |_,_=>_p
def rEq:R2:=λx y H Q=>uM x y=_g/\Q (.bl (decide (x=y))) H
def rNe:R2:=λx y H Q=>uM x y=_g/\Q (.bl (!decide (x=y))) H
theorem W4{i j:_j}:decide (V.int i=V.int j)=(i == j):=by
 rw[fh];simp
theorem bx{i j:_O}:decide (V.bl i=V.bl j)=(i == j):=by
 rw[fh];simp
theorem Je{i j:_m}:decide (V.str i=V.str j)=(i == j):=by
 rw[fh];simp
theorem YM{i j:_E UInt8}:decide (V.byt i=V.byt j)=(i.toList == j.toList):=by
 rw[fh]
 cases i
 cases j;simp
section
variable{a b c:Expr}{tb tc:TE}
theorem Bx{Q:VK}{k a:_O}(I:Inv X a8 σ H s)(q:Q (.bl k) H)(e:k=a):EP X a8 σ Q (.bool a) s:=by
 subst e;exact⟨.bl k,H,I,U,q⟩
theorem Bt:HW X (compareOp .Eq) rEq:=by
 intro e s σ H x y v u Q I d a h;obtain⟨c,q⟩:=h
 cases x with
 |non =>
  cases d
  cases y with
  |non=>cases a;exact PySem.EqNone.eq_none_none<|Bx I q<|by simp
  |bl j=>cases a;exact PySem.EqNone.eq_none_bool<|Bx I q<|by simp
  |int j=>obtain⟨b,rfl⟩:=a;exact PySem.EqNone.eq_none_int<|Bx I q<|by simp
  |str j=>obtain⟨b,rfl⟩:=a;exact PySem.EqNone.eq_none_str<|Bx I q<|by simp
  |_=>exact _z (show _p=_g from c) _Q
 |bl i =>
  cases d
  cases y with
  |non=>cases a;exact PySem.EqNone.eq_bool_none<|Bx I q<|by simp
  |bl j=>cases a;exact eq_bool<|Bx I q bx
  |str j=>obtain⟨b,rfl⟩:=a;exact PySem.EqMixed.eq_bool_str<|Bx I q<|by simp
  |_=>exact _z (show _p=_g from c) _Q
 |int i =>
  obtain⟨t,rfl⟩:=d
  cases y with
  |non=>cases a;exact PySem.EqNone.eq_int_none<|Bx I q<|by simp
  |int j=>obtain⟨b,rfl⟩:=a;exact eq_int<|Bx I q W4
  |str j=>obtain⟨b,rfl⟩:=a;exact PySem.EqMixed.eq_int_str<|Bx I q<|by simp
  |_=>exact _z (show _p=_g from c) _Q
 |str i =>
  obtain⟨t,rfl⟩:=d
  cases y with
  |non=>cases a;exact PySem.EqNone.eq_str_none<|Bx I q<|by simp
  |bl j=>cases a;exact PySem.EqMixed.eq_str_bool<|Bx I q<|by simp
  |int j=>obtain⟨b,rfl⟩:=a;exact PySem.EqMixed.eq_str_int<|Bx I q<|by simp
  |str j=>obtain⟨b,rfl⟩:=a;exact eq_str<|Bx I q Je
  |_=>exact _z (show _p=_g from c) _Q
 |byt i =>
  obtain⟨t,rfl⟩:=d
  cases y with
  |byt j=>obtain⟨b,rfl⟩:=a;exact W.eq_bytes<|Bx I q YM
  |_=>exact _z (show _p=_g from c) _Q
 |_=>cases y <;> exact _z (show _p=_g from c) _Q
theorem PB:HW X (compareOp .NotEq) rNe:=by
 intro e s σ H x y v u Q I d a h;obtain⟨c,q⟩:=h
 cases x with
 |non =>
  cases d
  cases y with
  |non=>cases a;exact PySem.EqNone.ne_none_none<|Bx I q<|by simp
  |bl j=>cases a;exact PySem.EqNone.ne_none_bool<|Bx I q<|by simp
  |int j=>obtain⟨b,rfl⟩:=a;exact PySem.EqNone.ne_none_int<|Bx I q<|by simp
  |str j=>obtain⟨b,rfl⟩:=a;exact PySem.EqNone.ne_none_str<|Bx I q<|by simp
  |_=>exact _z (show _p=_g from c) _Q
 |bl i =>
  cases d
  cases y with
  |non=>cases a;exact PySem.EqNone.ne_bool_none<|Bx I q<|by simp
  |bl j=>cases a;exact ne_bool<|Bx I q<|congrArg not bx
  |str j=>obtain⟨b,rfl⟩:=a;exact PySem.EqMixed.ne_bool_str<|Bx I q<|by simp
  |_=>exact _z (show _p=_g from c) _Q
 |int i =>
  obtain⟨t,rfl⟩:=d
  cases y with
  |non=>cases a;exact PySem.EqNone.ne_int_none<|Bx I q<|by simp
  |int j=>obtain⟨b,rfl⟩:=a;exact ne_int<|Bx I q<|congrArg not W4
  |str j=>obtain⟨b,rfl⟩:=a;exact PySem.EqMixed.ne_int_str<|Bx I q<|by simp
  |_=>exact _z (show _p=_g from c) _Q
 |str i =>
  obtain⟨t,rfl⟩:=d
  cases y with
  |non=>cases a;exact PySem.EqNone.ne_str_none<|Bx I q<|by simp
  |bl j=>cases a;exact PySem.EqMixed.ne_str_bool<|Bx I q<|by simp
  |int j=>obtain⟨b,rfl⟩:=a;exact PySem.EqMixed.ne_str_int<|Bx I q<|by simp
  |str j=>obtain⟨b,rfl⟩:=a;exact ne_str<|Bx I q<|congrArg not Je
  |_=>exact _z (show _p=_g from c) _Q
 |byt i =>
  obtain⟨t,rfl⟩:=d
  cases y with
  |byt j=>obtain⟨b,rfl⟩:=a;exact W.ne_bytes<|Bx I q<|congrArg not YM
  |_=>exact _z (show _p=_g from c) _Q
 |_=>cases y <;> exact _z (show _p=_g from c) _Q
theorem Gw:HW X (compareOp .Lt)<|XS λi j=>.bl (decide (i<j)):=iB λ_ _ _ _ _ _ _ q=>lt_int q
theorem Ei:HW X (compareOp .LtE)<|XS λi j=>.bl (decide (i<=j)):=iB λ_ _ _ _ _ _ _ q=>le_int q
theorem R3:HW X (compareOp .Gt)<|XS λi j=>.bl (decide (j<i)):=iB λ_ _ _ _ _ _ _ q=>gt_int q
theorem nH:HW X (compareOp .GtE)<|XS λi j=>.bl (decide (j<=i)):=iB λ_ _ _ _ _ _ _ q=>ge_int q
theorem QC:HW X (compareOp .In) (λx y H Q=>∃i j,x=.str i/\y=.str j/\Q (.bl<|!(Builtin.Str.occurrences j i 0 j.length 1).isEmpty) H):=by
 intro d s σ H x y v u Q I a b h;obtain⟨i,j,rfl,rfl,q⟩:=h;obtain⟨t,rfl⟩:=a;obtain⟨c,rfl⟩:=b;exact in_str<|Bx I q U
theorem VD:HW X (compareOp .Is)<|λx y H Q=>y=.non/\Q (.bl (decide (x=.non))) H:=by
 intro c s σ H x y v u Q I a b h;obtain⟨rfl,q⟩:=h
 cases b;refine is_none_gen<|Bx I q ?_
 cases x <;> first
  | (cases a;rfl)
  | (obtain⟨t,rfl⟩:=a;rfl)
theorem RZ:HW X (compareOp .IsNot)<|λx y H Q=>y=.non/\Q (.bl (!decide (x=.non))) H:=by
 intro c s σ H x y v u Q I a b h;obtain⟨rfl,q⟩:=h
 cases b;refine isnot_none_gen<|Bx I q ?_
 cases x <;> first
  | (cases a;rfl)
  | (obtain⟨t,rfl⟩:=a;rfl)
theorem Et(b:Expr){a:Ū}(h:a≠.In:=by decide)(c:a≠.NotIn:=by decide):behindInMarks a b=false:=by
 have d:(a == Ū.In)=false:=by cases a <;> first | rfl | exact _z rfl h
 have e:(a == CmpOp.NotIn)=false:=by cases a <;> first | rfl | exact _z rfl c
 cases b <;> simp[behindInMarks,d,e]
theorem DX{c:Ū}{r:R2}(n:HW X (compareOp c) r)(f:PE X a ta)(i:PE X b tb)(l:behindInMarks c b=_p):PE X (.Compare a [c] [b] pos)<|Zk r ta tb:=by
 intro g s σ H Q I h;exact LM (uo f i I h λv u d x y m k e j q=>n g d σ m x y v u Q k e j q) l
abbrev Uc(t:TE):TT:=λσ H Q=>t σ H<|R8 Q
theorem Jl{f:Ū}{r:R2}(C:HW X (compareOp f) r)(j:PE X a ta)(m:PE X b tb)(t:behindInMarks f b=_p):PT X (.Compare a [f] [b] pos)<|Uc<|Zk r ta tb:=by
 intro d s σ H Q I h;refine zi (CN (j d s σ H _ I h) λv o ⟨x,l,q,F,D⟩=>CN (m d o σ l _ q D) λu g ⟨y,A,n,i,w⟩ =>
  CN (C d g σ A x y v u _ n F i w) λc G ⟨z,B,E,p,e⟩=>?_) t
 obtain⟨k,rfl,e⟩:=R8.e e
 cases p;exact _Y ⟨B,E,e⟩
abbrev eG(r r':R2)(ta tb tc:TE):TE:=λσ H Q=>ta σ H λx H1=>tb σ H1 λy H2=>r x y H2 (R8 λk H3=>if k=_g then tc σ H3 λw' H4=>r' y w' H4 Q else Q (.bl _p) H3)
theorem HN{g i:Ū}{r l:R2}(E:HW X (compareOp g) r)(D:HW X (compareOp i) l)(p:PE X a ta)(t:PE X b tb)(N:PE X c tc)
  (B:lastMarks [g,i] [b,c]=false:=by with_unfolding_all rfl):PE X (.Compare a [g,i] [b,c] pos)<|eG r l ta tb tc:=by
 intro e s σ H Q I h;refine Compare_chain (CN (p e s σ H _ I h) λv P ⟨x,M,R,F,W⟩=>chain_link (CN (t e P σ M _ R W) λu o ⟨y,C,O,j,T⟩ =>
  CN (E e o σ C x y v u _ O F j T) λd K ⟨z,m,n,w,f⟩=>?_)) B
 obtain⟨k,rfl,f⟩:=R8.e f
 cases w;refine _Y ?_
 cases k with
 |false=>exact ite_ff ⟨.bl _p,m,n,U,f⟩
 |true=>exact ite_tt<|chain_last<|CN (N e K σ m _ n f) λJ V ⟨S,A,L,G,q⟩=>D e V σ A y S u J Q L j G q
theorem Fv{g i:Ū}{r m:R2}(J:HW X (compareOp g) r)(G:HW X (compareOp i) m)(t:PE X a ta)(A:PE X b tb)(S:PE X c tc)
  (E:lastMarks [g,i] [b,c]=false:=by with_unfolding_all rfl):PT X (.Compare a [g,i] [b,c] pos)<|Uc<|eG r m ta tb tc:=by
 intro e s σ H Q I h;refine isTrue_chain (CN (t e s σ H _ I h) λv V ⟨x,R,Y,K,q1⟩=>test_link (CN (A e V σ R _ Y q1) λu q ⟨y,F,T,l,q2⟩ =>
  CN (J e q σ F x y v u _ T K l q2) λd O ⟨z,n,o,C,f⟩=>?_)) E
 obtain⟨k,rfl,f⟩:=R8.e f
 cases C;refine _Y ?_
 cases k with
 |false =>
  exact ite_ff ⟨n,o,f⟩
 |true =>
  refine ite_tt<|test_last<|CN (S e O σ n _ o f) λM s4 ⟨Z,D,P,L,w⟩=>CN (G e s4 σ D y Z u M _ P l L w) λd' s5 B=>?_
  obtain⟨z2,N,p,W,j⟩:=B;obtain⟨k2,rfl,j⟩:=R8.e j
  cases W;exact _Y ⟨N,p,j⟩
def yI(K:_q)(x:V)(H:Hp)(k:_O):Prop :=
 match x with
 |.non=>k=_p
 |.bl b=>k=b
 |.int i=>k=(i != 0)
 |.str y=>y.length<=sizeLine/\k=((y.length:_j) != 0)
 |.byt y=>y.size<=sizeLine/\k=((y.size:_j) != 0)
 |.ref p=>(∃xs,Dd K H p xs/\k = !xs.isEmpty) \/ (∃xs,JD K H p xs/\k = !xs.isEmpty) \/ ∃kvs,H p=_b (.dK kvs)/\k = !kvs.isEmpty
 |_=>Α
theorem Vm{κ:Type}{kvs:_a (κ×V)}{vs:_a (κ×_k)}(r:KV kvs vs):(!vs.isEmpty) = !kvs.isEmpty:=by
 cases r <;> rfl
theorem O7{its:_a _k}(r:Vals xs its):(!its.toArray.isEmpty) = !xs.isEmpty:=by
 cases r <;> simp
theorem Ke:(sizeLine:_c)<2 ^ 63:=by rw[ū];decide
theorem qL:TruR X (λx H Q=>∃k,yI X.K x H k/\Q k H):=by
 intro A s σ H x v Q I g h;obtain⟨k,e,q⟩:=h;have hl:=Ke;have B:sizeLine=16777216:=ū
 cases x with
 |non =>
  cases g;have a:k=false:=e;subst a;exact truthy_none ⟨H,I,q⟩
 |bl b =>
  cases g;have a:k=b:=e;subst a;exact _Y ⟨H,I,q⟩
 |int i =>
  obtain⟨t,rfl⟩:=g;have a:k=(i != 0):=e;subst a;exact PySem.P.truthy_int ⟨H,I,q⟩
 |str y =>
  obtain⟨t,rfl⟩:=g;obtain⟨w,a⟩:y.length<=sizeLine/\k=((y.length:_j) != 0):=e;subst a;exact PySem.P.truthy_str (by lia) ⟨H,I.tok _,q⟩
 |byt y =>
  obtain⟨t,rfl⟩:=g;obtain⟨w,a⟩:y.size<=sizeLine/\k=((y.size:_j) != 0):=e;subst a;exact W.truthy_bytes (rx w (by decide)) ⟨H,I.tok _,q⟩
 |ref p =>
  cases g;have a:(∃f,Dd X.K H p f/\k = !f.isEmpty) \/ (∃f,JD X.K H p f/\k = !f.isEmpty) \/ ∃c,H p=_b (.dK c)/\k = !c.isEmpty:=e;rcases a with⟨f,j,a⟩ | ⟨f,j,a⟩ | ⟨c,j,a⟩
  .subst a;obtain⟨o,r,n,u⟩:=I.list j;have d:=r.length;exact wpAny_truthy_list n.isList (by simp only[_R];lia) ⟨H,I.tok _,by rw[O7 r];exact q⟩
  .subst a;obtain⟨o,r,n,u⟩:=I.tuple j;have d:=r.length;exact truthy_tuple n (by simp only[_R];lia) ⟨H,I.tok _,by rw[O7 r];exact q⟩
  .subst a;obtain⟨u,z,l,r,m⟩:c.length<=sizeLine/\(p == sysModules)=_p/\∃l,KV c l/\s.heap.DictOf (Bm X.prog X.w) p l:=I.hok p _ j;have d:c.length=l.length:=Paired.length r;exact wpAny_truthy_dict z m (by lia) ⟨H,I.tok _,by rw[Vm r];exact q⟩
 |_=>exact (show Α from e).elim
theorem O5(c:PE X a ta)(d:∀r8,isTrue a X.env r8=(do let v <-r8;standAt a.pos;holding [v] (truthy v))) :
  PT X a (λσ H Q=>ta σ H λx H'=>∃k,yI X.K x H' k/\Q k H'):=by
 intro b s σ H Q I h;exact QO (CN (c b s σ H _ I h) λv f ⟨x,e,g,j,i⟩=>qL b f σ e x v Q g j i)<|d _
theorem vals1{x:V}{us:_a _k}(r:Vals [x] us):∃u,us=[u]/\RelV x u:=by
 cases r with
 |cons b a=>cases a;exact⟨_,U,b⟩
theorem vals2{x y:V}{us:_a _k}(r:Vals [x,y] us):∃u w',us=[u,w']/\RelV x u/\RelV y w':=by
 cases r with
 |cons d b =>
  cases b with
  |cons a c=>cases c;exact⟨_,_,U,d,a⟩
theorem QS(b:X.calm=_g):Fw X (.builtin "max") (λxs H Q=>∃i j,xs=[.int i,.int j]/\Q (.int (if j > i then j else i)) H):=by
 intro g s σ H xs d Q I r h;obtain⟨i,j,rfl,q⟩:=h;obtain⟨u,e,rfl,⟨t,rfl⟩,⟨f,rfl⟩⟩:=vals2 r;refine max_two_ints (I.ok.hd b) λc l k=>⟨_,H,I.kept k,?_,q⟩;by_cases a:j > i
 .rw[_n a,_n a];exact⟨_,U⟩
 .rw[_l a,_l a];exact⟨_,U⟩
theorem Mf(b:X.calm=_g):Fw X (.builtin "min") (λxs H Q=>∃i j,xs=[.int i,.int j]/\Q (.int (if j<i then j else i)) H):=by
 intro g s σ H xs d Q I r h;obtain⟨i,j,rfl,q⟩:=h;obtain⟨u,e,rfl,⟨t,rfl⟩,⟨f,rfl⟩⟩:=vals2 r;refine min_two_ints (I.ok.hd b) λc l k=>⟨_,H,I.kept k,?_,q⟩;by_cases a:j<i
 .rw[_n a,_n a];exact⟨_,U⟩
 .rw[_l a,_l a];exact⟨_,U⟩
theorem HJ:Fw X (.type "int") (λxs H Q=>(∃i,xs=[.int i]/\Q (.int i) H) \/ ∃k,xs=[.bl k]/\Q (.int (if k then 1 else 0)) H):=by
 intro c s σ H xs b Q I r h;rcases h with⟨i,rfl,q⟩ | ⟨k,rfl,q⟩
 .obtain⟨u,rfl,t,rfl⟩:=vals1 r;exact call_int_int ⟨.int i,H,I,⟨_,U⟩,q⟩
 .obtain⟨u,rfl,a⟩:=vals1 r
  cases a;exact call_int_bool ⟨.int (if k then 1 else 0),H,I.tok _,⟨_,U⟩,q⟩
end
structure VN(h:χ)(x dx C:_d)(mA:_m->_r _k):Prop where
 obj:h.get? x=_b (Ċ C dx)
 ns:h.Ns1 dx mA
 ne:dx≠x
theorem Y0{d:_m->_r _k}(n:h.Ns1 dx d):∃od,h.get? dx=_b od/\∀name,xB name od=_b (d name):=by
 obtain⟨o,c,m,i,f,l,_,g⟩:=n;refine⟨o,i,λname=>?_⟩;have e:=g name;unfold nsFind findBy at e;rw[<-Array.find?_toList] at e;unfold xB;rw[f];dsimp only;split
 .rename_i y q;rw[q] at e;exact congrArg _b e
 .rename_i q;rw[q] at e;have a:c.toList.any (·.refKey)=false:=by
   rw[List.any_eq_false];intro y j;obtain⟨z,t,b⟩:=l y<|Array.mem_toList_iff.mp j;simp[DictEntry.refKey,b]
  have k:¬ c.toList.any (·.refKey)=true:=by rw[a];exact eI
  rw[_l k];exact congrArg _b e
theorem VN.look{a:_m->_r _k}(I:VN h x dx C a):∃od,W.InstAt h x (Ċ C dx) C (_b od)/\∀name,xB name od=_b (a name) :=
 let ⟨od,b,hl⟩:=Y0 I.ns
 ⟨od,⟨I.obj,U,U,b⟩,hl⟩
section
variable{w:_P}{K:_q}{mA:_m->_r _k}{name:_m}{v:_k}
theorem ig{c:_O}(X:K.In s.heap)(I:VN s.heap x dx C mA)(b:Ų K C name=_g)(a:İ K C=_g)
  (d:Ξ K (.ref C) name=_b _o) (f:mA name=_b v) (e:Rl v=_g) (h:Q v { s with toks:=s.toks+1 }) :
  wpAny (_D prog w) A (getAttr (.ref x) name c) Q E s:=by
 obtain⟨g,J,hl⟩:=I.look;exact W.get_value X J (Ž b).1 (W.findObj_own a d U<|by rw[hl,f]) e h
theorem bI{pl:ũ _O}{Q:_k×_a _k->_C->Prop}(X:K.In s.heap)(I:VN s.heap x dx C mA)(a:Ų K C name=_g)
  (b:Ξ K (.ref C) name=_b (_b<|.ref f)) (c:RH K (.ref f)=_g) (e:mA name=_o) (h:Q (.ref f,[.ref x]) s) :
  wpAny (_D prog w) A (getMethod (.ref x) name pl) Q E s:=by
 obtain⟨d,J,hl⟩:=I.look;exact W.method_fn X J (Ž a).1 (Ž a).2 b (_F.mp c) (by show (xB name d).map (·.isSome)=_b _p;rw[hl,e];rfl) h
theorem gM{Q:Cn->_C->Prop}(X:K.In s.heap)(I:VN s.heap x dx C mA)
  (t:Ξ K (.ref C) "__setattr__" = _b (_b<|.builtin "object.__setattr__"))(n:NG K C=_g)(q:CB K C name=_b _o)(i:İ K C=_g)
  (j:PySem.Within mA ns)(hsz:ns.length<=sizeLine)
  (h:∀h',VN h' x dx C (λy=>if y=name then _b v else mA y)->Å dx s.heap h'->Q () { s with heap:=h',toks:=s.toks+2 }) :
  wpAny (_D prog w) A (setAttr (.ref x) name v) Q E s:=by
 obtain⟨B,J,hl⟩:=I.look;refine W.set_plain X J t<|W.osa_open (s:={ s with toks:=s.toks+1 }) (r:=_o) X J n q λb=>?_
 obtain⟨z,m,o⟩:=W.any_some i;have l:s.heap.get? x=_b ⟨.ref C,_b dx,.plain,#[]⟩:=I.obj;refine _e<|_v<|_e<|_e<|wpAny_loadPart l<|_e<|W.Looks.here (s:={ s with toks:=s.toks+1 }) (W.looks_clsIn X m) ?_
 rw[o];refine _v (a:=_b dx)<|_e<|_v<|_e ?_
 refine wpAny_nsSet1 (s:={ s with toks:=s.toks+1 }) I.ns λh' c g=>?_;obtain⟨u,k,p,e,d,f⟩:=c.count<|PySem.Within.cons name v j;refine _e<|wpAny_lookBehind e (by rw[d];exact pastItsLine_dict<|cq f<|by rw[bi];exact md hsz) ?_
 exact _v<|h _ ⟨(g.2 _<|_J I.ne).trans I.obj,c,I.ne⟩ g
theorem Zm{R:CD->_C->Prop}{vs:_a _k}{b:_a (_m×_k)}(X:K.In s.heap)(e:S1 K C=_g)
  (hi:Ξ K (.ref C) "__init__" = _b (_b<|.ref f))(c:W.typeIn K (.ref f)=_b (.type "function"))
  (h:codeAny (_D prog w) (A.under<|.builtin "type.__call__" ⟨.ref C::vs,b⟩) (.call (.ref f) ⟨.ref (s.heap.objs.size+1)::vs,b⟩) (W.InitBack (s.heap.objs.size+1) R)
   { s with heap:=(s.heap.push è).push (Ċ C s.heap.objs.size) }) :
  codeAny (_D prog w) A (.call (.ref C) ⟨vs,b⟩) R s:=by
 obtain⟨i,g,d,t,os⟩:=s;exact W.make_core (W.makes_of X e) (W.looks_findIn X hi) (λa=>W.bind_fn X a c) (.inl U) h
end
noncomputable def Bj(f:_m)(v:V):_a (_m×V)->_a (_m×V)
 |[]=>[(f,v)]
 |(g,x)::r=>if g=f then (g,v)::r else (g,x)::Bj f v r
theorem BW(f g:_m)(v:V):∀fs:_a<|_m×V,(Bj f v fs).lookup g=if g=f then _b v else fs.lookup g
 |[]=>by
  show Á g [(f,v)]=_;by_cases h:g=f
  .have a:(g == f)=true:=_F.mpr h;simp only[Á,a,_n h]
  .have a:(g == f)=false:=Ã.mpr h;simp only[Á,a,_l h]
 |(k,x)::r=>by
  have c:=BW f g v r;rw[show Bj f v ((k,x)::r)=(if k=f then (k,v)::r else (k,x)::Bj f v r) from rfl];by_cases b:k=f
  .rw[_n b];by_cases h:g=k
   .have a:(g == k)=true:=_F.mpr h;simp only[Á,a,_n<|h.trans b]
   .have a:(g == k)=false:=Ã.mpr h;simp only[Á,a,_l (λe:g=f=>h<|e.trans b.symm)]
  .rw[_l b];by_cases h:g=k
   .have a:(g == k)=true:=_F.mpr h;simp only[Á,a,_l (λe:g=f=>b<|h.symm.trans e)]
   .have a:(g == k)=false:=Ã.mpr h;simp only[Á,a];exact c
theorem Mj(f:_m)(v:V):∀fs:_a<|_m×V,f∈(Bj f v fs).map (·.1)/\∀g,g∈fs.map (·.1)->g∈(Bj f v fs).map (·.1)
 |[]=>⟨by simp[Bj],λg h=>by simp at h⟩
 |(k,x)::r=>by
  obtain⟨b,c⟩:=Mj f v r;rw[show Bj f v ((k,x)::r)=(if k=f then (k,v)::r else (k,x)::Bj f v r) from rfl];by_cases a:k=f
  .rw[_n a];subst a;exact⟨by simp,λg h=>by simpa using h⟩
  .rw[_l a];refine⟨?_,λg h=>?_⟩
   .rw[ee];exact bg _ b
   .rw[ee] at h |-;rcases ce.mp h with e | e
    .exact ce.mpr<|.inl e
    .exact bg _<|c g e
theorem M5(f:_m)(v:V):∀fs:_a<|_m×V,(Bj f v fs).length<=fs.length+1
 |[]=>by simp[Bj]
 |(k,x)::r=>by
  have b:=M5 f v r;rw[show Bj f v ((k,x)::r)=(if k=f then (k,v)::r else (k,x)::Bj f v r) from rfl];by_cases a:k=f
  .rw[_n a,bi,bi];exact zor _ _
  .rw[_l a,bi,bi];exact md b
theorem Iw.some_of{v:V}{o:_r _k}(r:Iw (_b v) o):∃u,o=_b u/\RelV v u:=by
 cases o with
 |none=>exact (show Α from r).elim
 |some u=>exact⟨u,U,r⟩
theorem Iw.none_of{o:_r _k}(r:Iw _o o):o=none:=by
 cases o with
 |none=>rfl
 |some u=>exact (show Α from r).elim
theorem ZX{v:V}(r:RelV v u):Rl u=true:=by
 cases v with
 |non=>cases (show u=_N from r);rfl
 |bl b=>cases (show u=Ō b from r);rfl
 |int i=>obtain⟨t,e⟩:=(show ∃t,u=Ŀ i t from r);cases e;rfl
 |str x=>obtain⟨t,e⟩:=(show ∃t,u=ĥ x t from r);cases e;rfl
 |byt b=>obtain⟨t,e⟩:=(show ∃t,u=EC b t from r);cases e;rfl
 |flt b=>obtain⟨t,e⟩:=(show ∃t,u=ż b t from r);cases e;rfl
 |ref a=>cases (show u=_K a from r);rfl
 |ty n=>cases (show u=ō n from r);rfl
section
variable{w:_P}{fs rp:_a (_m×V)}
theorem Ng(b:Gg P w H h)(e:H a=_b (.ins C dx fs)):∃mA,VN h a dx C mA/\(∀f,Iw (fs.lookup f)<|mA f)/\PySem.Within mA (fs.map (·.1))/\fs.length<=1000/\H dx=_b (.own a):=by
 obtain⟨d,z,ne,c,mA,n,r,q⟩:=(show CG P w H h a (.ins C dx fs) from b a _ e);exact⟨mA,⟨c,n,ne⟩,r,q,z,d⟩
end
structure Py(K:_q)(C:_d):Prop where
 pg:Ų K C Str.empty=_g
 hd:İ K C=_g
 po:NG K C=_g
 sa:Ξ K (.ref C) "__setattr__" = _b (_b<|.builtin "object.__setattr__")
theorem Py.get{K:_q}(c:Py K C)(f:_m):Ų K C f=true:=c.pg
def CT(K:_q)(C:_d)(f:_m):Prop:=Ξ K (.ref C) f=_b _o
theorem CT.taker{K:_q}{f:_m}(n:CT K C f):CB K C f=_b none:=by
 unfold CB;rw[show Ξ K (.ref C) f=_b _o from n];rfl
structure sJ(K:_q)(C:_d)(f:_m)(v:V)(u:_k):Prop where
 at_:Ξ K (.ref C) f=_b (_b u)
 rel:RelV v u
 get:ı K u "__get__" = _b _o
 cp:W.copiedNames.contains f=_p
structure Meth(K:_q)(C:_d)(m:_m)(f:_d):Prop where
 at_:Ξ K (.ref C) m=_b (_b<|.ref f)
 fn:RH K (.ref f)=_g
 kp:Ö K (.ref f)=_g
section
variable{fs:_a (_m×V)}{f:_m}{v:V}
theorem Vy{b:_O}(I:Inv X a8 σ H s)(e:H a=_b (.ins C dx fs))(c:Py X.K C)(n:CT X.K C f)(l:fs.lookup f=_b v)
  (h:∀u s',Inv X a8 σ H s'->RelV v u->Q u s'):wpAny (_D X.prog X.w) A (getAttr (.ref a) f b) Q E s:=by
 obtain⟨i,O,r,_,_,_⟩:=Ng I.hok e;obtain⟨u,g,d⟩:=Iw.some_of (v:=v) (o:=i f)<|by rw[<-l];exact r f
 exact ig I.Ig O (c.get f) c.hd n g (ZX d)<|h u _ (I.tok _) d
theorem Ge{m:_m}{g:_d}{pl:ũ _O}{Q:_k×_a _k->_C->Prop}(I:Inv X a8 σ H s)(e:H a=_b (.ins C dx fs))(c:Py X.K C)(k:Meth X.K C m g)(l:fs.lookup m=_o)
  (h:Q (.ref g,[.ref a]) s):wpAny (_D X.prog X.w) A (getMethod (.ref a) m pl) Q E s:=by
 obtain⟨d,O,r,_,_,_⟩:=Ng I.hok e;have b:d m=none:=Iw.none_of<|by rw[<-l];exact r m
 exact bI I.Ig O (c.get m) k.at_ k.fn b h
theorem WR{y:V}{Q:Cn->_C->Prop}(I:Inv X a8 σ H s)(e:H a=_b (.ins C dx fs))(c:Py X.K C)(n:CT X.K C f)(hl:fs.length<1000)(p:RelV y u)
  (h:∀s',Inv X a8 σ (upd H a<|.ins C dx<|Bj f y fs) s'->Q () s'):wpAny (_D X.prog X.w) A (setAttr (.ref a) f u) Q E s:=by
 obtain⟨j,O,r,k,_,i⟩:=Ng I.hok e;have v:(fs.map (·.1)).length<=sizeLine:=by rw[ah,ū];exact fR (bq hl (by decide))
 refine gM I.Ig O c.sa c.po n.taker c.hd k v λl d D=>h _ ?_;have w:∃o,l.get? dx=_b o:=let ⟨o,_,_,t,_⟩:=d.ns;⟨o,t⟩;refine I.write (x:=a) (e:=dx) (by rw[e];exact Κ) (.inr i) (λb q m z=>(D.2 b m).trans z) w ?_;refine⟨by rw[Ak O.ne];exact i,?_,O.ne,d.obj,_,d.ns,λg=>?_,λg B=>?_⟩
 .have:=M5 f y fs;exact rx this hl
 .show Iw ((Bj f y fs).lookup g) (if g=f then _b u else j g);rw[BW];by_cases q:g=f
  .rw[_n q,_n q];exact p
  .rw[_l q,_l q];exact r g
 .by_cases q:g=f
  .rw[q];exact (Mj f y fs).1
  .refine (Mj f y fs).2 g<|k g λz=>B ?_
   show (if g=f then _b u else j g)=_o;rw[_l q];exact z
theorem Inv.made(I:Inv X a8 σ H s):Inv X a8 σ (upd (upd H s.heap.objs.size<|.own<|s.heap.objs.size+1) (s.heap.objs.size+1)<|.ins C s.heap.objs.size [])
  { s with heap:=(s.heap.push è).push (Ċ C s.heap.objs.size) }:=by
 have c:(s.heap.push è).get? s.heap.objs.size=_b W.emptyDict:=_A s.heap U;have i:((s.heap.push è).push<|Ċ C s.heap.objs.size).get? (s.heap.objs.size+1)=_b (Ċ C s.heap.objs.size):=by
  have:=_A (s.heap.push è) (o:=Ċ C s.heap.objs.size) U;rwa [ε] at this
 have f:(s.heap.push è).Ns s.heap.objs.size<|λ_=>none:=⟨è,#[],_,c,U,(λe h=>_z h<|by simp),λ_=>rfl⟩
 have d:=I.laid (a:=s.heap.objs.size) (o:=.own<|s.heap.objs.size+1) (h':=s.heap.push è) (t':=s.toks) (λb u q=>_f _ q) (al _) ⟨_,c⟩;refine d.laid (a:=s.heap.objs.size+1) (o:=.ins C s.heap.objs.size []) (t':=s.toks) (λb u q=>_f _ q) (Ĝ<|ε _ _) ?_;have ne:s.heap.objs.size≠s.heap.objs.size+1:=db<|gx _
 refine⟨by rw[Ak ne,Ah],eK _,ne,i,λ_=>_o,(Heap.Ns1.of_empty f).at λo q=>_f _ q,λ_=>Κ,λy g=>_z U g⟩
theorem iD{w:_P}{a:ŀ}{e:Expr}{f:_m}(b:attributeBase e f a (eval e a)=eval e a)
  (h:wpAny (_D prog w) A (eval e a) (λo s₁=>wpAny (_D prog w) A (getAttr o f _g) Q E s₁) E s):wpAny (_D prog w) A (eval (.Attribute e f pos) a) Q E s :=
 Attribute_any_ h (by rw[arm_eval_Attribute,b])
end
inductive lN(K:_q)(f:_m)(Q:VK)(a:_d)(H1:Hp):Prop
|mk(C dx fs v:_)(_:H1 a=_b (.ins C dx fs))(_:Py K C)(_:CT K C f)(_:fs.lookup f=_b v)(_:Q v H1)
abbrev yW(K:_q)(ta:TE)(f:_m):TE:=λσ H Q=>ta σ H<|Jw λa H1=>lN K f Q a H1
inductive nY(K:_q)(f:_m)(D:Ends)(σ:St)(y:V)(a:_d)(H2:Hp):Prop
|mk(C dx fs:_)(_:H2 a=_b (.ins C dx fs))(_:Py K C)(_:CT K C f)(_:fs.length<1000)(_:D.nx σ (upd H2 a (.ins C dx (Bj f y fs))))
abbrev sFld(K:_q)(ta tv:TE)(f:_m):TS:=λD σ H=>tv σ H λy H1=>ta σ H1<|Jw λa H2=>nY K f D σ y a H2
section
variable{o e value:Expr}{f:_m}{rV qo:ī}{tv:TE}
theorem BX(g:PE X e ta)(j:attributeBase e f X.env (eval e X.env)=eval e X.env):PE X (.Attribute e f pos)<|yW X.K ta f:=by
 intro d s σ H Q I h;refine iD j<|CN (g d s σ H _ I h) λu y k=>?_
 obtain⟨x,i,o,b,r⟩:=k;obtain⟨a,rfl,C,A,fs,v,p,c,n,l,q⟩:=Jw.e r;obtain rfl:u=_K a:=b;exact Vy o p c n l λz w m t=>⟨v,i,m,t,q⟩
theorem DG(e:PE X o ta)(i:PE X value tv)(z:swapsWith value (_b<|.Attribute o f rV) pos.line X.env=pure _p):PS X (.Assign [.Attribute o f rV] value pos)<|sFld X.K ta tv f:=by
 intro b s σ H D I h;refine plainObj_wpAny_Assign_Attribute (CN (i b s σ H _ I h) λu m ⟨y,g,p,j,q⟩=>CN (e b m σ g _ p q) λr B ⟨x,F,k,d,w⟩=>?_) z;obtain⟨a,rfl,C,G,fs,t,c,n,l,v⟩:=Jw.e w;obtain rfl:r=_K a:=d;exact WR k t c n l j λE A=>⟨σ,_,A,v⟩
end
section
variable{c:_k}{b:_O}
inductive K7(K:_q)(H:Hp):V->_k->Prop where
 | non:K7 K H .non (.type "NoneType")
 | bl(x:_O):K7 K H (.bl x) (.type "bool")
 | int(i:_j):K7 K H (.int i) (.type "int")
 | str(x:_m):K7 K H (.str x) (.type "str")
 | flt(x:UInt64):K7 K H (.flt x) (.type "float")
 | lst{a:_d}{xs:_a V}(e:H a=_b (.lst xs)):K7 K H (.ref a) (.type "list")
 | frz{a:_d}{o:Þ}{xs:_a V}(e:H a=_b (.frz o (.lst xs))):K7 K H (.ref a) (.type "list")
 | tup{a:_d}{xs:_a V}(e:H a=_b (.tup xs)):K7 K H (.ref a) (.type "tuple")
 | dK{a:_d}{kvs:_a (Key×V)}(e:H a=_b (.dK kvs)):K7 K H (.ref a) (.type "dict")
 | dT{a:_d}{kvs:_a (_a Key×V)}(e:H a=_b (.dT kvs)):K7 K H (.ref a) (.type "dict")
 | ins{a C dx:_d}{fs:_a (_m×V)}(e:H a=_b (.ins C dx fs))(cl:Py K C)(ha:Ξ K (.ref C) "__class__" = _b (_b (.builtin "object.__class__")))
   (hn:ı K (.builtin "object.__class__") "__get__" = _b (_b<|.builtin "getset_descriptor.__get__")) (QA:CF K (.builtin "object.__class__")=_b _g)
   (hm:ć K C (.type "object")=_b _g):K7 K H (.ref a)<|.ref C
theorem YW{x:V}{t:_k}(I:Inv X a8 σ H s)(f:RelV x u)(G:K7 X.K H x t)(e:ξ X.K t c=_b b)(h:∀tk,Q (.bool b) { s with toks:=tk }) :
  wpAny (_D X.prog X.w) A (call (.builtin "isinstance") [u,c]) Q E s:=by
 cases G with
 |non=>cases (show u=_N from f);exact Û W.kitx_none I.Ig Κ e (λz=>nomatch z) h
 |bl y=>cases (show u=Ō y from f);exact Û W.kitx_bool I.Ig Κ e (λz=>nomatch z) h
 |int i=>obtain⟨t,q⟩:=(show ∃t,u=Ŀ i t from f);cases q;exact Û W.kitx_int I.Ig Κ e (λz=>nomatch z) h
 |str y=>obtain⟨t,q⟩:=(show ∃t,u=ĥ y t from f);cases q;exact Û W.kitx_str I.Ig Κ e (λz=>nomatch z) h
 |flt y=>obtain⟨t,q⟩:=(show ∃t,u=ż y t from f);cases q;exact Û W.kitx_float I.Ig Κ e (λz=>nomatch z) h
 | @lst a k d =>
  cases (show u=_K a from f);obtain⟨_,_,n,_,g⟩:=(show CG X.prog X.w H s.heap a (.lst k) from I.hok a _ d);exact Û NI I.Ig ⟨_,g,U⟩ e (λz=>nomatch z) h
 | @frz a w k d =>
  cases (show u=_K a from f);obtain⟨_,_,_,n,_,g⟩:=(show CG X.prog X.w H s.heap a (.frz w<|.lst k) from I.hok a _ d);exact Û NI I.Ig ⟨_,g,U⟩ e (λz=>nomatch z) h
 | @tup a k d =>
  cases (show u=_K a from f);obtain⟨_,_,_,p⟩:=(show CG X.prog X.w H s.heap a (.tup k) from I.hok a _ d);obtain⟨o,g,l,_⟩:=p;exact Û W.kitx_tuple I.Ig ⟨o,g,l⟩ e (λz=>nomatch z) h
 | @dK a j d =>
  cases (show u=_K a from f);obtain⟨_,_,M,_,p⟩:=(show CG X.prog X.w H s.heap a (.dK j) from I.hok a _ d);obtain⟨o,D,v,g,l,_⟩:=p;exact Û NO I.Ig ⟨o,g,l.1⟩ e (λz=>nomatch z) h
 | @dT a j d =>
  cases (show u=_K a from f);obtain⟨_,_,k,_,o,D,v,g,l,_⟩:=(show CG X.prog X.w H s.heap a (.dT j) from I.hok a _ d);exact Û NO I.Ig ⟨o,g,l.1⟩ e (λz=>nomatch z) h
 | @ins a C L fs d m r F K B =>
  cases (show u=_K a from f);obtain⟨P,O,_⟩:=Ng I.hok d;obtain⟨N,J,_⟩:=O.look;exact Û (W.kitx_own (m.get _) m.hd r F K B) I.Ig J e (λz=>nomatch z) h
end
structure DN(k:_c)(A:ì):Prop where
 hd:A.handled=_o
 dp:A.depth+3 * k+5<recursionLimit
 un:A.units+16 * k+200<cLine
theorem DN.mono{k:_c}(r:DN k A)(h:j<=k):DN j A:=⟨r.hd,by have:=r.dp;lia,by have:=r.un;lia⟩
theorem ae{k:_c}(r:DN k A)(h:j<=k:=by decide):DN j A:=r.mono h
theorem DN.deeper{k:_c}(r:DN (k+1) A)(a:ŀ):DN k (A.deeper a) :=
 ⟨r.hd,by have:=r.dp;show A.depth+1+3 * k+5<_;lia,by have:=r.un;show A.units+3+16 * k+200<_;lia⟩
theorem Vo{us:_a _k}{a:_a (_m×_k)}:(A.under<|.builtin "type.__call__" ⟨.ref C::us,a⟩).depth=A.depth+1:=by
 first | rfl | simp[Ŭ,Code.weight,Code.isCreation,Code.isGuard,Code.isCaller,Code.frames,Code.isFrame,guardIds]
theorem Vg{us:_a _k}{a:_a (_m×_k)}:(A.under<|.builtin "type.__call__" ⟨.ref C::us,a⟩).units=A.units+1:=by
 first | rfl | simp[Ŭ,Code.cUnits,Code.frames,Code.isFrame]
theorem DN.make{k:_c}(r:DN (k+1) A)(C:_d)(us:_a _k)(a:_a<|_m×_k):DN k (A.under<|.builtin "type.__call__" ⟨.ref C::us,a⟩) :=
 ⟨r.hd,by have:=r.dp;rw[Vo];lia,by have:=r.un;rw[Vg];lia⟩
theorem DN.depth{k:_c}(r:DN k A):A.depth<recursionLimit:=by have:=r.dp;lia
theorem DN.units{k:_c}(r:DN k A):A.units+64<cLine:=by have:=r.un;lia
theorem DN.qX{k:_c}(r:DN k A):A.units<cLine:=by have:=r.un;lia
abbrev rY:TA:=λ_ H Q=>Q [] H
abbrev nJ(ta:TE)(tr:TA):TA:=λσ H Q=>ta σ H λx H1=>tr σ H1 λxs H2=>Q (x::xs) H2
section
variable{e:Expr}{t:TA}
theorem Ab:PA X [] rY:=λ_ _ _ _ H Q I h=>ċ ⟨[],H,I,.nil,h⟩
theorem Aa(g:PE X e te)(c:PA X es t)(q:starEach (e::es) X.env=(_p,eval e X.env)::starEach es X.env:=by rfl):PA X (e::es)<|nJ te t:=by
 intro a b s σ H Q I h;rw[q];show wpAny _ _ (spliced<|(_p,eval e X.env)::backTo a (starEach es X.env)) _ _ s;refine Â<|CN (g b s σ H _ I h) λu m k=>?_
 obtain⟨x,j,n,r,i⟩:=k;exact CN (c a b m σ j _ n i) λw v ⟨d,p,l,f,o⟩=>⟨x::d,p,l,.cons r f,o⟩
abbrev tTup(t:TA):TE:=λσ H Q=>t σ H λxs H1=>xs.length<=sizeLine/\∀p,H1 p=_o->Q (.ref p) (upd H1 p<|.tup xs)
abbrev tLst(t:TA):TE:=λσ H Q=>t σ H λxs H1=>xs.length<=sizeLine/\∀p,H1 p=_o->Q (.ref p) (upd H1 p<|.lst xs)
theorem CQ {x1} (h:PA X es t):PE X (.Tuple es x1 pos)<|tTup t:=by
 intro i s σ H Q I k;refine wpAny_Tuple_spliced<|CN (h pos i s σ H _ I k) λf a ⟨g,c,d,r,z,q⟩=>⟨by rw[<-r.length];exact z,?_⟩
 have j:c a.heap.objs.size=none:=d.hok.fresh<|al _
 refine⟨.ref a.heap.objs.size,upd c a.heap.objs.size<|.tup g,d.laid (t':=a.toks) (λb u e=>_f _ e) (al _) ?_,U,q _ j⟩;exact⟨z,f,r,⟨_,_A _ U,U,_,U⟩⟩
theorem Cm(h:PA X es t):PE X (.List es pos)<|tLst t:=by
 intro i s σ H Q I k;refine wpAny_List_spliced<|CN (h pos i s σ H _ I k) λf a ⟨g,c,d,r,z,q⟩=>⟨by rw[<-r.length];exact z,?_⟩
 have j:c a.heap.objs.size=none:=d.hok.fresh<|al _
 refine⟨.ref a.heap.objs.size,upd c a.heap.objs.size<|.lst g,d.laid (t':=a.toks) (λb u e=>_f _ e) (al _) ?_,U,q _ j⟩;exact⟨z,f,0,r,_A _ U⟩
end
abbrev Sp:=_a V->Hp->VK->XK->Prop
abbrev V1:=_a ŀ->Hp->_C->XK->_k->_C->Prop
structure V3(P:Γ)(w:_P)(K:_q)(mg:_m->_r _k)(base:χ)(A:ì)(outer:_a ŀ)(s:_C)(H:Hp):Prop where
 frames:A.frames=_b outer
 mod:Mod K mg base
 bs:∀b o,base.get? b=_b o->s.heap.get? b=_b o/\H b=_o
 bsz:base.objs.size<=s.heap.objs.size
 Mh:s.heap.FunFrames base outer
 frf:∀b∈frs outer,H b=_o
 hok:Gg P w H s.heap
 bare:ė s.gens
inductive CE(outer:_a ŀ)(P:Γ)(w:_P)(H:Hp)(s:_C)(Q:VK)(u:_k)(s':_C):Prop
|mk(v H':_)(_:s'.os=s.os)(_:ė s'.gens)(_:Un (frs outer) [] H H' s.heap s'.heap)(_:Gg P w H' s'.heap)(_:RelV v u)(_:Q v H')
def CR(CX:V1)(outer:_a ŀ)(P:Γ)(w:_P)(H:Hp)(s:_C)(Q:VK)(E:XK)(r:CD)(s':_C):Prop :=
 match r with
 |.ok (.ret u)=>CE outer P w H s Q u s'
 |.ok _=>Α
 |.error e=>CX outer H s E e s'
structure GJ(P:Γ)(w:_P)(K:_q)(mg:_m->_r _k)(base:χ)(CX:V1)(k:_c)(f:_d)(fd:ä)(ps:_a _m)(sp:Sp):Prop where
 len:∀vs H Q E,sp vs H Q E->vs.length=ps.length
 run:∀(A:ì)(outer:_a ŀ)(s:_C)(H:Hp)(args:Args)(us:_a _k)(vs:_a V)(Q:VK)(E:XK),DN k A->V3 P w K mg base A outer s H->ŏ s fd args (ps.zip us)->Vals vs us->sp vs H Q E ->
  codeAny (_D P w) A (.call (.ref f) args) (CR CX outer P w H s Q E) s
theorem V3.make{w:_P}{K:_q}{a:_a ŀ}(e:V3 P w K mg base A a s H)(C:_d)(us:_a _k)(b:_a<|_m×_k) :
  V3 P w K mg base (A.under<|.builtin "type.__call__" ⟨.ref C::us,b⟩) a s H:=⟨by first | exact e.frames | (simpa [Ŭ,Code.envs,Code.isFrame,pushEnvs] using e.frames),e.mod,e.bs,e.bsz,e.Mh,e.frf,e.hok,e.bare⟩
section
variable{s':_C}
theorem Inv.env0(I:Inv X a8 σ H s):V3 X.prog X.w X.K X.mg X.base X.A X.stack s H :=
 ⟨I.ok.frames,I.ok.mod,I.bs,cq I.ok.bsz I.sz,I.stack,I.Kp,I.hok,I.bare⟩
theorem Inv.after{Q:VK}(I:Inv X a8 σ H s)(h:CE X.stack X.prog X.w H s Q u s'):EP X a8 σ Q u s':=by
 obtain⟨v,i,os,a,un,c,r,q⟩:=h;obtain⟨f,g,d,t,e⟩:=s';obtain rfl:e=s.os:=os;exact⟨v,i,I.call (h':=f) (g':=g) (d':=d) (t':=t) (ch:=[]) un c a (λb z=>_z z<|by simp),r,q⟩
end
abbrev cT(sp:Sp)(pe:_a V)(E:XK)(t:TA):TE:=λσ H Q=>t σ H λvs H1=>sp (vs++pe) H1 Q E
inductive cN(C:_d)(m:_m)(sp:Sp)(pe:_a V)(E:XK)(t:TA)(σ:St)(Q:VK)(a:_d)(H1:Hp):Prop
|mk(dx fs:_)(_:H1 a=_b (.ins C dx fs))(_:fs.lookup m=_o)(_:t σ H1 λvs H2=>sp (.ref a::(vs++pe)) H2 Q E)
abbrev Tj(C:_d)(m:_m)(sp:Sp)(pe:_a V)(E:XK)(ta:TE)(t:TA):TE:=λσ H Q=>ta σ H<|Jw λa H1=>cN C m sp pe E t σ Q a H1
abbrev vh(C:_d)(sp:Sp)(pe:_a V)(E:XK)(t:TA):TE:=λσ H Q=>t σ H λvs H1=>∀x dx,H1 x=_o->H1 dx=_o->dx≠x ->
 sp (.ref x::(vs++pe)) (upd (upd H1 dx<|.own x) x<|.ins C dx []) (λv H2=>v=.non/\Q (.ref x) H2) E
def Binds(K:_q)(fd:ä)(ps:_a _m)(ds:_a _k):Prop :=
 ∀(s:_C)(us:_a _k),K.In s.heap->(us++ds).length=ps.length->ŏ s fd ⟨us,[]⟩ (ps.zip<|us++ds)
theorem Binds.all{K:_q}(h:∀us:_a _k,us.length=ps.length->bindArgs fd ⟨us,[]⟩=pure (ps.zip us)):Binds K fd ps []:=λs us _ hl=>by
 rw[cy] at hl |-;exact .of_eq<|h us hl
def FZ(CX:V1)(X:Cx)(E:XK):Prop:=∀(a8:_a<|_d × Þ)(σ:St)(H:Hp)(s:_C)(e:_k)(s':_C),Inv X a8 σ H s->CX X.stack H s E e s'->X.xe e s'
section
variable{CX:V1}{k:_c}{sp:Sp}{pe:_a V}{ds:_a _k}{E:XK}{x m:_m}{p:ī}{e o:Expr}{t:TA}
theorem Mz{Q:VK}{us:_a _k}(F:GJ X.prog X.w X.K X.mg X.base CX k f fd ps sp)(c:DN k X.A)(j:Binds X.K fd ps ds)(d:Vals pe ds)(i:FZ CX X E)
  (I:Inv X a8 σ H s)(r:Vals vs us)(h:sp (vs++pe) H Q E):wpAny (_D X.prog X.w) X.A (call (.ref f) us) (EP X a8 σ Q) X.xe s:=by
 have b:Vals (vs++pe)<|us++ds:=r.append d
 have hl:(us++ds).length=ps.length:=by rw[<-b.length];exact F.len _ _ _ _ h
 refine ž<|ö (F.run X.A X.stack s H ⟨us,[]⟩ (us++ds) (vs++pe) Q E c I.env0 (j s us I.Ig hl) b h) λr g a=>?_
 cases r with
 |error e=>exact i a8 σ H s e g I a
 |ok fl =>
  cases fl with
  |ret u=>exact I.after a
  |next=>exact ς a
  |brk=>exact ς a
  |cont=>exact ς a
theorem gU(F:GJ X.prog X.w X.K X.mg X.base CX k f fd ps sp)(c:DN k X.A)(o:Gl X x)(u:X.mg x=_b (.ref f))(v:Ö X.K (.ref f)=_g)(m:Binds X.K fd ps ds)(n:Vals pe ds)(d:FZ CX X E)
  (g:PA X (e::es) t) (i:(x == ("__debug__" : _m))=false:=by decide) (l:starEach (e::es) X.env=(_p,eval e X.env)::starEach es X.env:=by rfl) (a:(backTo pos<|starEach es X.env).any (·.1)=false:=by rfl) :
  PE X (.Call (.Name x p) (e::es) [] pos) (cT sp pe E t):=by
 intro j s σ H Q I h;refine ď<|Ku I o u ?_ i
 refine ñ (h₀:=X.base) I.ok.mod.kin v (CN (g pos j s σ H _ I h) λw A ⟨y,z,b,r,q⟩=>⟨b.Ig,?_⟩) l a;exact Mz F c m n d b r q
theorem XH{pl:ũ _O}(G:PE X o ta)(c:Py X.K C)(i:Meth X.K C m f)(F:GJ X.prog X.w X.K X.mg X.base CX k f fd ps sp)(p:DN k X.A)(y:Binds X.K fd ps ds)(z:Vals pe ds)(v:FZ CX X E)(w:PA X (e::es) t)
  (b:starEach (e::es) X.env=(_p,eval e X.env)::starEach es X.env:=by rfl)(d:(backTo pos<|starEach es X.env).any (·.1)=false:=by rfl)
  (B:eval (.Call (.Attribute o m i5) (e::es) [] pos) X.env=(do
   let ov <-eval o X.env
   standAt i5.atName
   let (f,first) <-holding [ov] (getMethod ov m pl)
   callWith pos f first (backTo pos<|starEach (e::es) X.env) (backToKw pos<|keywordEach [] X.env)):=by rfl) :
  PE X (.Call (.Attribute o m i5) (e::es) [] pos) (Tj C m sp pe E ta t):=by
 intro g s σ H Q I h;refine ā (pl:=pl) (CN (G g s σ H _ I h) λu K ⟨x,J,n,D,M⟩=>?_) B;obtain⟨a,rfl,P,fs,A,l,q⟩:=Jw.e M;obtain rfl:u=_K a:=D;refine Ge n A c i l ?_;refine ñ (first:=[.ref a]) (h₀:=X.base) I.ok.mod.kin i.kp (CN (w pos g K σ J _ n q) λus N ⟨vs,O,j,r,L⟩=>⟨j.Ig,?_⟩) b d;exact Mz (us:=.ref a::us) (vs:=.ref a::vs) F p y z v j (.cons U r) L
theorem Zi{pl:ũ _O}(n:PE X o ta)(c:Py X.K C)(d:Meth X.K C m f)(F:GJ X.prog X.w X.K X.mg X.base CX k f fd ps sp)(e:DN k X.A)(p:Binds X.K fd ps ds)(r:Vals pe ds)(i:FZ CX X E)
  (v:eval (.Call (.Attribute o m i5) [] [] pos) X.env=(do
   let ov <-eval o X.env
   standAt i5.atName
   let (f,first) <-holding [ov] (getMethod ov m pl)
   callWith pos f first (backTo pos<|starEach [] X.env) (backToKw pos<|keywordEach [] X.env)):=by rfl) :
  PE X (.Call (.Attribute o m i5) [] [] pos) (Tj C m sp pe E ta rY):=by
 intro j s σ H Q I h;refine ā (pl:=pl) (CN (n j s σ H _ I h) λu z ⟨x,y,b,g,w⟩=>?_) v;obtain⟨a,rfl,A,fs,t,l,q⟩:=Jw.e w;obtain rfl:u=_K a:=g;refine Ge b t c d l ?_;exact W.callWith_K0 (first:=[.ref a]) b.Ig d.kp<|Mz (us:=[.ref a]) (vs:=[.ref a]) F e p r i b (.cons U .nil) q
structure Mk(K:_q)(C f:_d):Prop where
 makes:S1 K C=_g
 init:Ξ K (.ref C) "__init__" = _b (_b<|.ref f)
 fn:RH K (.ref f)=_g
 kp:Ö K (.ref C)=_g
theorem cR{Q:VK}{us:_a _k}(M:Mk X.K C f)(F:GJ X.prog X.w X.K X.mg X.base CX k f fd ps sp)(g:DN (k+1) X.A)(l:Binds X.K fd ps ds)(n:Vals pe ds)
  (i:FZ CX X E)(I:Inv X a8 σ H s)(r:Vals vs us)
  (h:∀x dx,H x=_o->H dx=_o->dx≠x->sp (.ref x::(vs++pe)) (upd (upd H dx<|.own x) x<|.ins C dx []) (λv H2=>v=.non/\Q (.ref x) H2) E) :
  wpAny (_D X.prog X.w) X.A (call (.ref C) us) (EP X a8 σ Q) X.xe s:=by
 have d:=h (s.heap.objs.size+1) s.heap.objs.size (I.hok.fresh<|kA _) (I.hok.fresh<|al _)<|db<|gx _
 have b:=Inv.made (C:=C) I;have c:Vals (V.ref (s.heap.objs.size+1)::(vs++pe))<|_K (s.heap.objs.size+1)::(us++ds):=.cons U<|r.append n
 have hl:(_K (s.heap.objs.size+1)::us++ds).length=ps.length:=by
  have e:=c.length;rw[F.len _ _ _ _ d] at e;exact e.symm
 refine ž (Zm (f:=f) I.Ig M.makes M.init (_F.mp M.fn) (ö (F.run _ X.stack _ _ ⟨_K (s.heap.objs.size+1)::us,[]⟩ (_K (s.heap.objs.size+1)::(us++ds)) _ _ E (g.make C us [])
  (b.env0.make C us []) (l _ (_K (s.heap.objs.size+1)::us) b.Ig hl) c d) λr o a=>?_))
 cases r with
 |error e=>exact i a8 σ _ _ e o b a
 |ok fl =>
  cases fl with
  |ret u =>
   obtain⟨v,q,t,m,j,p⟩:=b.after a;subst j;exact⟨m,⟨V.ref<|s.heap.objs.size+1,q,t,U,p⟩⟩
  |next=>exact ς a
  |brk=>exact ς a
  |cont=>exact ς a
theorem Kr(M:Mk X.K C f)(F:GJ X.prog X.w X.K X.mg X.base CX k f fd ps sp)(c:DN (k+1) X.A)(o:Gl X x)(u:X.mg x=_b (.ref C))(m:Binds X.K fd ps ds)(n:Vals pe ds)(d:FZ CX X E)
  (g:PA X (e::es) t) (i:(x == ("__debug__" : _m))=false:=by decide) (l:starEach (e::es) X.env=(_p,eval e X.env)::starEach es X.env:=by rfl) (a:(backTo pos<|starEach es X.env).any (·.1)=false:=by rfl) :
  PE X (.Call (.Name x p) (e::es) [] pos) (vh C sp pe E t):=by
 intro j s σ H Q I h;refine ď<|Ku I o u ?_ i
 refine ñ (h₀:=X.base) I.ok.mod.kin M.kp (CN (g pos j s σ H _ I h) λv z ⟨w,y,b,r,q⟩=>⟨b.Ig,?_⟩) l a;exact cR M F c m n d b r q
end
structure Am(N P:_a _m)(sc:Scope):Prop where
 kind:sc.kind=.function
 co:sc.isCoroutine=_p
 gen:sc.isGenerator=_p
 nd:N.Nodup
 pre:N.take P.length=P
 par:∀x∈P,sc.names.lookup x=_b .local \/ sc.names.lookup x=_b .cell
 nofree:∀y∈sc.names,y.2≠.free
theorem Bc{N P:_a _m}{h:Scope}(a:h.kind=.function:=by rfl)(b:h.isCoroutine=false:=by rfl)(c:h.isGenerator=false:=by rfl)(d:N.Nodup:=by decide)(e:N.take P.length=P:=by rfl)(f:∀x∈P,h.names.lookup x=_b .local \/ h.names.lookup x=_b .cell:=by decide)(g:∀y∈h.names,y.2≠.free:=by decide):Am N P h:=⟨a,b,c,d,e,f,g⟩
theorem Qz{kindOf:_m->_r ø}{x:_m}:∀{tI:_a (_m × _k)}{m:_m->_r _k},(∀v,(x,v) ∉ tI)->bindL kindOf tI m x=m x
 |[],_,_=>rfl
 |(n,v)::r,m,h=>by
  unfold bindL;rw[Qz λw a=>h w<|bg _ a];split
  .have:x≠n:=by rintro rfl;exact h v br
   simp[this]
  .rfl
theorem QW{kindOf:_m->_r ø}{x:_m}:∀{tI:_a (_m × _k)}{m:_m->_r _k},(∀v,(x,v) ∉ tI)->bindC kindOf tI m x=m x
 |[],_,_=>rfl
 |(n,v)::r,m,h=>by
  unfold bindC;rw[QW λw a=>h w<|bg _ a];split
  .rfl
  .have:x≠n:=by rintro rfl;exact h v br
   simp[this]
theorem QK{kindOf:_m->_r ø}{x:_m}{v:_k}:∀{P:_a _m}{vs:_a _k}{i:_c}{m:_m->_r _k},P.Nodup->P[i]? = _b x->vs[i]? = _b v->kindOf x=_b .local ->
  bindL kindOf (P.zip vs) m x=_b v
 |[],_,_,_,_,h,_,_=>by simp at h
 |_::_,[],_,_,_,_,h,_=>by simp at h
 |p::P,w::vs,0,m,c,a,b,d=>by
  simp at a b;subst a;subst b;show bindL kindOf ((p,w)::P.zip vs) m p=_;unfold bindL;rw[Qz λv e=>(fm.mp c).1 (ĝ e).1,_n d];simp
 |p::P,w::vs,i+1,m,c,a,b,d=>by
  show bindL kindOf ((p,w)::P.zip vs) m x=_;unfold bindL;exact QK (i:=i) (z8.mp c).2 (by simpa using a) (by simpa using b) d
theorem QD{kindOf:_m->_r ø}{x:_m}{v:_k}:∀{P:_a _m}{vs:_a _k}{i:_c}{m:_m->_r _k},P.Nodup->P[i]? = _b x->vs[i]? = _b v->kindOf x≠_b .local ->
  bindC kindOf (P.zip vs) m x=_b v
 |[],_,_,_,_,h,_,_=>by simp at h
 |_::_,[],_,_,_,_,h,_=>by simp at h
 |p::P,w::vs,0,m,c,a,b,d=>by
  simp at a b;subst a;subst b;show bindC kindOf ((p,w)::P.zip vs) m p=_;unfold bindC;rw[QW λv e=>(fm.mp c).1 (ĝ e).1,_l d];simp
 |p::P,w::vs,i+1,m,c,a,b,d=>by
  show bindC kindOf ((p,w)::P.zip vs) m x=_;unfold bindC;exact QD (i:=i) (z8.mp c).2 (by simpa using a) (by simpa using b) d
noncomputable def start(N:_a _m)(vs:_a V):St:=vs.map _b++Λ (N.length - vs.length) _o
noncomputable def Mp(CX:V1)(P:Γ)(w:_P)(K:_q)(mg:_m->_r _k)(base:χ)(N:_a _m)(qual:_m)(scope:Scope)(f:_d)(cd:_k)(A:ì)(outer:_a ŀ)(s:_C)(H:Hp)(E:XK):Cx where
 prog:=P
 w:=w
 K:=K
 mg:=mg
 base:=base
 A:=A.deeper<|envOfC qual scope s.heap.objs.size f cd
 N:=N
 s₀:=s
 H₀:=H
 env:=envOfC qual scope s.heap.objs.size f cd
 outer:=outer
 stack:=envOfC qual scope s.heap.objs.size f cd::outer
 ex:=[]
 calm:=_g
 fn:=λ_=>_g
 pn:=[]
 xe:=λe s'=>wpAny (_D P w) (A.deeper<|envOfC qual scope s.heap.objs.size f cd) (leaving (envOfC qual scope s.heap.objs.size f cd) e) (λ_ A5=>CX outer H s E e A5) (λe' A5=>CX outer H s E e' A5) s'
theorem UJ{a:Scope}{x:_m}(h:a.names.lookup x=_b .cell):∃c,(cellsFrom n a.names []).lookup x=_b c:=by
 have q:=C0 a.names n [] (.inl h);exact io.mp q
theorem Ye{CX:V1}{w:_P}{K:_q}{N:_a _m}{C:_k}{d:_a ŀ}{G:_C}{E:XK}{us:_a _k}
  (S:Am N ps scope)(O:A.handled=_o)(j:V3 P w K mg base A d s H)(hl:vs.length=ps.length)(r:Vals vs us)
  (x:InCallC s s.heap.objs.size (bindL (envOfC qual scope s.heap.objs.size f C).kindOf (ps.zip us) λ_=>_o) (cellsFrom (s.heap.objs.size+1) scope.names []) (bindC (envOfC qual scope s.heap.objs.size f C).kindOf (ps.zip us) λ_=>_o) G) :
  Inv (Mp CX P w K mg base N qual scope f C A d s H E) [] (start N vs) H G:=by
 have J:ps.length<=N.length:=by have:=congrArg Ε S.pre;rw[cm] at this;lia
 obtain⟨B,Q,rfl,I⟩:=x.done;have m:∀b:_d,b ∉ (Mp CX P w K mg base N qual scope f C A d s H E).ex:=λb z=>_z (show b∈([]:_a _d) from z)<|by simp
 refine⟨⟨j.mod,S.kind,U,U,al _,λy z c B g=>?_,λy l=>?_,λy c _ h=>?_,λ_=>O,Around.frames_deeper j.frames,.inr ⟨U,U⟩,λb z=>_z z<|m b,j.bs,j.bsz,λb _ _=>m b,λb z=>_z z<|m b,j.Mh,j.frf⟩,
  rfl,j.bare,Un.kept I,⟨_,x.toInCall.ns,λi y v B g R=>?_⟩,λy c h=>⟨_,x.cell y c h⟩,j.hok.fresh<|Η _,λy c h=>?_,λp o=>_z (show p∈([]:_a<|_d×Þ) from o) (by simp),j.hok.kept I,?_⟩
 .exact name_of_addr x.apart (PySem.mem_of_lookup B)<|PySem.mem_of_lookup g
 .have l:scope.names.lookup y=_b .cell \/ scope.names.lookup y=_b .free:=l;rcases l with l | l
  .exact UJ l
  .exact _z U<|S.nofree _<|PySem.mem_of_lookup l
 .exact fR<|x.above y c<|PySem.mem_of_lookup h
 .have D:i<vs.length:=by
   unfold start at g;by_cases D:i<vs.length
   .exact D
   .rw[ŕ (by simpa using D)] at g;rw[ų] at g;split at g <;> cases g
  have L:vs[i]? = _b v:=by
   unfold start at g;rw[Ø (by simpa using D),é] at g
   cases e:vs[i]? with
   |none=>rw[e] at g;cases g
   |some a=>rw[e] at g;cases g;rfl
  obtain⟨u,F,M⟩:=r.get L;have o:ps[i]? = _b y:=by
   rw[<-S.pre,List.getElem?_take_of_lt<|wT D hl];exact B
  have t:ps.Nodup:=by rw[<-S.pre];exact S.nd.sublist<|om _ _
  refine⟨u,M,?_⟩;rcases S.par y (ai o) with k | k
  .exact .inl ⟨k,QK t o F k⟩
  .obtain⟨c,e⟩:=UJ (n:=s.heap.objs.size+1) k;refine .inr ⟨.inl k,c,e,?_⟩;have q:=x.cell y c e;rw[QD t o F (by show scope.names.lookup y≠_;rw[k];decide)] at q;exact q
 .exact j.hok.fresh<|fR<|x.above y c<|PySem.mem_of_lookup h
 .unfold start;show _=N.length;rw[am,ah,lc];lia
theorem dO{CX:V1}{w:_P}{K:_q}{k:_c}{name:_m}{c:Arguments}{d:_a Ú}{D kV M C g ct oc:_k}{L od:_r _d}
  {T:_E (_r _k)}{N:_a _m}{sp:Sp}(lk:K.lookup f=_b ⟨oc,od,.func<|ò name qual c d scope D kV M C L g ct,T⟩)(wc:Ĳ K g qual=_g)(S:Am N ps scope)
  (len:∀vs H Q E,sp vs H Q E->vs.length=ps.length)
  (l8:∀(A:ì)(a:_a ŀ)(s:_C)(H:Hp)(vs:_a V)(Q:VK)(E:XK),DN k (A.deeper<|envOfC qual scope s.heap.objs.size f g)->sp vs H Q E ->
   ∃t,RJ (Mp CX P w K mg base N qual scope f g A a s H E) d t/\t { nx:=λ_ H'=>Q .non H',rt:=Q } (start N vs) H) :
  GJ P w K mg base CX (k+1) f (ò name qual c d scope D kV M C L g ct) ps sp:=by
 refine⟨len,λA a s H args R vs Q E m j X r F=>?_⟩;have hl:=len _ _ _ _ F;have G:K.In s.heap:=j.mod.kin.keeps λb o e=>(j.bs b o e).1;have z:s.heap.NoLimit:=j.mod.nolimit.keeps λb o e=>(j.bs b o e).1;have h:∀y∈ps.zip R,scope.names.lookup y.1=_b .local \/ (scope.names.lookup y.1=_b .cell/\((cellsFrom (s.heap.objs.size+1) scope.names []).lookup y.1).isSome=_g):=λ⟨n,v⟩ hy=>by
  rcases S.par n (ĝ hy).1 with q | q
  .exact .inl q
  .exact .inr ⟨q,C0 _ _ _<|.inl q⟩
 refine codeAny_call_function m.depth (G _ _ lk) U S.co S.gen U (W.codeRec_of G wc)<|X _ _ _ _ ?_
 refine wpAny_newFunctionEnv_cells S.kind h λY he O x=>?_;subst he;refine⟨z.keeps x.toInCall.keep,codeAny_func ?_⟩;obtain⟨t,Z,hq⟩:=l8 A a s H vs Q E (m.deeper _) F;have I:Inv (Mp CX P w K mg base N qual scope f g A a s H E) [] (start N vs) H O:=Ye S m.hd j hl r x;refine ζ (Z [] O (start N vs) H _ I hq) (λfl B i=>?_) λe B i=>i;have fin:∀{l:St}{H':Hp}{v:V}{u:_k},Inv (Mp CX P w K mg base N qual scope f g A a s H E) [] l H' B->RelV v u->Q v H'->CE a P w H s Q u B :=
  λ{l H' v u} J p q=>⟨v,H',J.os,J.bare,J.base,J.hok,p,q⟩
 cases fl with
 |ret u =>
  obtain⟨v,l,H',J,p,q⟩:=i;exact fin J p q
 |next =>
  obtain⟨l,H',J,q⟩:=i;exact fin (v:=V.non) (u:=_N) J U q
 |brk =>
  obtain⟨_,_,_,q⟩:=i;exact ς q
 |cont =>
  obtain⟨_,_,_,q⟩:=i;exact ς q
section
variable{x:_m}{p:ī}{e:Expr}{t:TA}{id T:ã}{r:_a V->Hp->VK->Prop}
abbrev tCB(r:_a V->Hp->VK->Prop)(t:TA):TE:=λσ H Q=>t σ H λvs H1=>r vs H1 Q
theorem Ay(l:Fw X (.builtin id) r)(q:Gl X x)(u:X.mg x=_o)(k:bootBuiltins x=_b (.builtin id))(f:PA X (e::es) t)(m:x≠"__name__":=by decide)(g:(x == ("__debug__" : _m))=false:=by decide)
  (i:starEach (e::es) X.env=(_p,eval e X.env)::starEach es X.env:=by rfl)(a:(backTo pos<|starEach es X.env).any (·.1)=false:=by rfl):PE X (.Call (.Name x p) (e::es) [] pos)<|tCB r t:=by
 intro b s σ H Q I h;refine ď<|JF I q u k ?_ m g
 exact IF (CN (f pos b s σ H _ I h) λc n ⟨d,j,o,w,v⟩=>l b n σ j d c Q o w v) i a
theorem Ci(l:Fw X (.type T) r)(q:Gl X x)(u:X.mg x=_o)(k:bootBuiltins x=_b (.type T))(f:PA X (e::es) t)(m:x≠"__name__":=by decide)(g:(x == ("__debug__" : _m))=false:=by decide)
  (i:starEach (e::es) X.env=(_p,eval e X.env)::starEach es X.env:=by rfl)(a:(backTo pos<|starEach es X.env).any (·.1)=false:=by rfl):PE X (.Call (.Name x p) (e::es) [] pos)<|tCB r t:=by
 intro b s σ H Q I h;refine ď<|JF I q u k ?_ m g
 exact ο (CN (f pos b s σ H _ I h) λc n ⟨d,j,o,w,v⟩=>l b n σ j d c Q o w v) i a
end
section
variable{κ:Type}[Ŧ κ]
noncomputable def CW(kvs:_a<|κ×V)(k:κ):_r V:=(kvs.find? λkv=>decide (kv.1=k)).map (·.2)
noncomputable def putK(kvs:_a<|κ×V)(k:κ)(v:V):_a (κ×V) :=
 if (kvs.any λkv=>decide (kv.1=k))=_g then kvs.map (λkv=>if kv.1=k then (kv.1,v) else kv) else kvs++[(k,v)]
theorem fM{k:κ}:CW ([]:_a<|κ×V) k=none:=rfl
theorem D_{p:κ×V}{r:_a (κ×V)}{k:κ}(e:p.1=k):CW (p::r) k=_b p.2:=by simp[CW,Ë,e]
theorem Du{p:κ×V}{r:_a (κ×V)}{k:κ}(e:¬ p.1=k):CW (p::r) k=CW r k:=by simp[CW,Ë,e]
theorem Hl(k:κ):∀kvs:_a<|κ×V,(kvs.any λkv=>decide (kv.1=k))=(CW kvs k).isSome
 |[]=>rfl
 |p::r=>by
  rw[mI];by_cases e:p.1=k
  .simp only[D_ e,_i e,EL,Option.isSome_some]
  .rw[Du e,_t e,C5];exact Hl k r
theorem T_(k j:κ)(y:V):∀kvs:_a<|κ×V,CW (kvs.map λkv=>if kv.1=k then (kv.1,y) else kv) j=(CW kvs j).map λx=>if j=k then y else x
 |[]=>rfl
 |p::r=>by
  have a:=T_ k j y r;rw[ee];by_cases h:p.1=k
  .rw[_n h];by_cases e:p.1=j
   .rw[D_ (p:=(p.1,y)) e,D_ e,nc,_n<|e.symm.trans h]
   .rw[Du (p:=(p.1,y)) e,Du e,a]
  .rw[_l h];by_cases e:p.1=j
   .rw[D_ (p:=p) e,D_ e,nc,_l<|λz=>h<|e.trans z]
   .rw[Du (p:=p) e,Du e,a]
theorem Jh(k j:κ)(y:V):∀kvs:_a<|κ×V,CW kvs k=_o->CW (kvs++[(k,y)]) j=if j=k then _b y else CW kvs j
 |[],_=>by
  by_cases e:k=j
  .rw[_n e.symm];exact D_ (p:=(k,y)) e
  .rw[_l (λz=>e z.symm)];exact Du (p:=(k,y)) e
 |p::r,a=>by
  rw[List.cons_append];have b:¬ p.1=k:=λz=>by rw[D_ z] at a;cases a
  rw[Du b] at a;have c:=Jh k j y r a;by_cases e:p.1=j
  .rw[D_ e,D_ e,_l<|λz=>b<|e.trans z]
  .rw[Du e,Du e,c]
theorem Ht(kvs:_a<|κ×V)(k j:κ)(y:V):CW (putK kvs k y) j=if j=k then _b y else CW kvs j:=by
 unfold putK;by_cases a:(kvs.any λc=>decide (c.1=k))=_g
 .rw[_n a,T_];rw[Hl] at a;by_cases e:j=k
  .obtain⟨x,b⟩:=io.mp a;rw[_n e,e,b,nc,_n U]
  .rw[_l e]
   cases CW kvs j with
   |none=>rfl
   |some x=>rw[nc,_l e]
 .rw[_l a];refine Jh k j y kvs ?_;rw[Hl] at a
  cases q:CW kvs k with
  |none=>rfl
  |some x=>rw[q] at a;exact (a U).elim
theorem Gm(kvs:_a<|κ×V)(k:κ)(v:V):(putK kvs k v).length<=kvs.length+1:=by
 unfold putK;split
 .rw[ah];exact zor _ _
 .rw[am,bi,kF];exact Η _
theorem bT{kvs:_a (κ×V)}{k:κ}(v:V)(h:CW kvs k=_o):putK kvs k v=kvs++[(k,v)]:=by
 unfold putK;rw[Hl,h];exact _l<|by decide
theorem Iw.HQ{o:_r V}{u:_r _k}(r:Iw o u):o.isSome=u.isSome:=by
 cases o with
 |none=>cases u with
  |none=>rfl
  |some _=>exact (show Α from r).elim
 |some _=>cases u with
  |none=>exact (show Α from r).elim
  |some _=>rfl
theorem Iw.getD{o:_r V}{u:_r _k}{d:V}{d':_k}(r:Iw o u)(a:RelV d d'):RelV (o.getD d)<|u.getD d':=by
 cases o with
 |none=>cases u with
  |none=>exact a
  |some _=>exact (show Α from r).elim
 |some _=>cases u with
  |none=>exact (show Α from r).elim
  |some _=>exact r
theorem KV.val{kvs:_a (κ×V)}{vs:_a (κ×_k)}(r:KV kvs vs)(k:κ):Iw (CW kvs k)<|valueAt vs k:=by
 unfold KV at r
 induction r with
 |nil=>exact Κ
 | @cons p q i c h t g =>
  obtain⟨d,f⟩:=h;by_cases e:p.1=k
  .have a:q.1=k:=d.symm.trans e;have b:valueAt (q::c) k=_b q.2:=by simp[valueAt,Ë,a]
   rw[D_ e,b];exact f
  .have a:¬ q.1=k:=λz=>e<|d.trans z
   have b:valueAt (q::c) k=valueAt c k:=by simp[valueAt,Ë,a]
   rw[Du e,b];exact g
theorem KV.any{kvs:_a (κ×V)}{vs:_a (κ×_k)}(r:KV kvs vs)(k:κ):(kvs.any λkv=>decide (kv.1=k))=vs.any λkv=>decide (kv.1=k):=by
 unfold KV at r
 induction r with
 |nil=>rfl
 |cons h t a=>rw[mI,mI,a,h.1]
theorem KV.repl{kvs:_a (κ×V)}{vs:_a (κ×_k)}(r:KV kvs vs)(k:κ){y:V}(d:RelV y u) :
  KV (kvs.map λkv=>if kv.1=k then (kv.1,y) else kv) (vs.map λkv=>if kv.1=k then (kv.1,u) else kv):=by
 unfold KV at r |-
 induction r with
 |nil=>exact .nil
 | @cons p q g f h t c =>
  rw[ee,ee];refine .cons ?_ c;obtain⟨a,b⟩:=h;by_cases e:p.1=k
  .rw[_n e,_n<|a.symm.trans e];exact⟨a,d⟩
  .rw[_l e,_l<|λz=>e<|a.trans z];exact⟨a,b⟩
theorem KV.put{kvs:_a (κ×V)}{vs:_a (κ×_k)}(r:KV kvs vs)(k:κ){y:V}(a:RelV y u):KV (putK kvs k y)<|stored vs k u:=by
 unfold putK stored;rw[r.any k];by_cases e:(vs.any λb=>decide (b.1=k))=_g
 .rw[_n e,_n e];exact r.repl k a
 .rw[_l e,_l e];exact Paired.snoc r ⟨U,a⟩
theorem KV.length{kvs:_a (κ×V)}{vs:_a (κ×_k)}(r:KV kvs vs):kvs.length=vs.length:=Paired.length r
end
theorem NB{w:_P}{k:Key}(r:RelV (kV k) u):(Bm P w).is k u=true:=by
 cases k with
 |inl i=>obtain⟨t,e⟩:=(show ∃t,u=Ŀ i t from r);subst e;exact U6 P w i t
 |inr x=>obtain⟨t,e⟩:=(show ∃t,u=ĥ x t from r);subst e;exact TX P w x t
 |no=>cases (show u=_N from r);rfl
theorem Qq{w:_P}:∀{ks:_a Key}{us:_a _k},Vals (ks.map kV) us->ItemsAre (Bm P w) ks us
 |[],_,r=>by rw[nS] at r;cases r;exact .nil
 |k::ks,_,r=>by
  rw[ee] at r
  cases r with
  |cons h t=>exact .cons (NB h)<|Qq t
abbrev KT(H:Hp):_a (_a Key×V)->_a (_a Key×_d×_k)->Prop:=Paired λp q=>p.1=q.1/\H q.2.1=_b (.tup<|p.1.map kV)/\RelV p.2 q.2.2
theorem KT.val{kvs:_a (_a Key×V)}{xs:_a (_a Key×_d×_k)}(r:KT H kvs xs)(k:_a Key):Iw (CW kvs k) ((atKey xs k).map (·.2)):=by
 induction r with
 |nil=>exact Κ
 | @cons p q i c h t g =>
  obtain⟨d,_,f⟩:=h;by_cases e:p.1=k
  .have a:q.1=k:=d.symm.trans e;have b:atKey (q::c) k=_b q.2:=by simp[atKey,Ë,a]
   rw[D_ e,b];exact f
  .have a:¬ q.1=k:=λz=>e<|d.trans z
   have b:atKey (q::c) k=atKey c k:=by simp[atKey,Ë,a]
   rw[Du e,b];exact g
theorem KT.repl{kvs:_a (_a Key×V)}{xs:_a (_a Key×_d×_k)}(r:KT H kvs xs)(k:_a Key){y:V}(c:RelV y u) :
  KT H (kvs.map λkv=>if kv.1=k then (kv.1,y) else kv) (xs.map<|putAt k u):=by
 induction r with
 |nil=>exact .nil
 | @cons p q g i h t d =>
  rw[ee,ee];refine .cons ?_ d;obtain⟨a,b,f⟩:=h;unfold putAt;by_cases e:p.1=k
  .rw[_n e,_n<|a.symm.trans e];exact⟨a,b,c⟩
  .rw[_l e,_l<|λz=>e<|a.trans z];exact⟨a,b,f⟩
theorem KT.put{kvs:_a (_a Key×V)}{xs:_a (_a Key×_d×_k)}(r:KT H kvs xs)(k:_a Key){y:V}(c:H b=_b (.tup<|k.map kV))(a:RelV y u) :
  KT H (putK kvs k y) (storedH xs k b u):=by
 have e:(kvs.any λd=>decide (d.1=k))=(atKey xs k).isSome:=by
  rw[Hl,(r.val k).HQ,on]
 unfold putK storedH;rw[e];by_cases q:(atKey xs k).isSome=_g
 .rw[_n q,_n q];exact r.repl k a
 .rw[_l q,_l q];exact Paired.snoc r ⟨U,c,a⟩
theorem KT.keeps{kvs:_a (_a Key×V)}{xs:_a (_a Key×_d×_k)}(r:KT H kvs xs)(a:∀b ys,H b=_b (.tup ys)->H' b=_b (.tup ys)):KT H' kvs xs :=
 Paired.Jt r λ_ _ z=>⟨z.1,a _ _ z.2.1,z.2.2⟩
section
variable{w:_P}
theorem lM{u:HO}(ok:Gg P w H h)(e:Rd H a u):CG P w H h a u:=e.ok ok
theorem NQ(ok:Gg P w H h)(e:Rd H a<|.dK kvs):kvs.length<=sizeLine/\(a == sysModules)=_p/\∃vs,KV kvs vs/\h.DictOf (Bm P w) a vs :=
 show CG P w H h a (.dK kvs) from lM ok e
theorem n_(ok:Gg P w H h)(e:H a=_b (.dK kvs)):kvs.length<=sizeLine/\(a == sysModules)=_p/\∃vs,KV kvs vs/\h.DictOf (Bm P w) a vs:=NQ ok<|.inl e
theorem Gd{ks:_a Key}(ok:Gg P w H h)(e:H a=_b (.tup<|ks.map kV)):(tupleKind<|Bm P w).is h ks a:=by
 obtain⟨_,b,r,o,c,d,n,f⟩:=(show CG P w H h a (.tup<|ks.map kV) from ok a _ e);exact⟨o,b.toArray,n,c,d,f,by simpa using Qq r⟩
theorem NP{kvs:_a (_a Key×V)}(ok:Gg P w H h)(e:Rd H a<|.dT kvs):kvs.length<=sizeLine/\(a == sysModules)=_p /\
  ∃xs,KT H kvs xs/\h.DictOfH (tupleKind<|Bm P w) a xs:=by
 obtain⟨z,y,xs,r,o,n,i,d,j,s,f,g⟩:=(show CG P w H h a (.dT kvs) from lM ok e);refine⟨z,y,xs,r,o,n,i,d,j,s,f,λx b=>?_,g⟩;have all:∀{l:_a (_a Key × V)}{m:_a (_a Key × _d × _k)},KT H l m->∀x∈m,(tupleKind<|Bm P w).is h x.1 x.2.1:=by
  intro l m q
  induction q with
  |nil=>intro x b;exact nomatch b
  | @cons p q u v c t k =>
   intro x b;rcases ce.mp b with e | b
   .subst e;exact Gd ok<|by rw[<-c.1];exact c.2.1
   .exact k x b
 exact all r x b
theorem AAs{kvs:_a (_a Key×V)}(ok:Gg P w H h)(e:H a=_b (.dT kvs)):kvs.length<=sizeLine/\(a == sysModules)=_p /\
  ∃xs,KT H kvs xs/\h.DictOfH (tupleKind<|Bm P w) a xs:=NP ok<|.inl e
end
def Dm(H:Hp)(a:_d)(y:V)(r:_r V):Prop :=
 (∃kvs k,Rd H a (.dK kvs)/\y=kV k/\r=CW kvs k) \/ ∃kvs k b,Rd H a (.dT kvs)/\y=.ref b/\H b=_b (.tup<|k.map kV)/\r=CW kvs k
def Mr(H:Hp)(a:_d)(y v:V)(H':Hp):Prop :=
 (∃kvs k,H a=_b (.dK kvs)/\y=kV k/\kvs.length<sizeLine/\H'=upd H a (.dK<|putK kvs k v)) \/
 ∃kvs k b,H a=_b (.dT kvs)/\y=.ref b/\H b=_b (.tup<|k.map kV)/\kvs.length<sizeLine/\H'=upd H a (.dT<|putK kvs k v)
theorem Dm.k{k:Key}(e:H a=_b (.dK kvs)):Dm H a (kV k)<|CW kvs k:=.inl ⟨kvs,k,.inl e,U,U⟩
theorem Mr.k{k:Key}{v:V}(e:H a=_b (.dK kvs))(hl:kvs.length<sizeLine):Mr H a (kV k) v<|upd H a<|.dK<|putK kvs k v:=.inl ⟨kvs,k,e,U,hl,U⟩
section
variable{y v:V}{r:_k}{o:_r V}
theorem Inv.big(I:Inv X a8 σ H s):sysModules<s.heap.objs.size:=by
 have h:mainGlobals<s.heap.objs.size:=(I.mod.glob.keeps I.bk).lt;exact lh (by decide) h
theorem ZM(w:A.units+1<cLine)(I:Inv X a8 σ H s)(g:Dm H a y<|some v)(n:RelV y u)(h:∀w' s',Inv X a8 σ H s'->RelV v w'->Q w' s') :
  wpAny (_D X.prog X.w) A (getItem (.ref a) u) Q E s:=by
 rcases g with⟨m,k,e,j,l⟩ | ⟨m,k,b,e,j,C,l⟩
 .subst j;obtain⟨z,B,r,c,i⟩:=NQ I.hok e;obtain⟨w',f,d⟩:=Iw.some_of (v:=v) (o:=valueAt r k)<|by rw[l];exact c.val k
  exact F6 (NB n) i.mapOf f<|h w' _ (I.tok _) d
 .subst j
  cases (show u=_K b from n);obtain⟨z,B,q,c,i⟩:=NP I.hok e;obtain⟨w',f,d⟩:=Iw.some_of (v:=v) (o:=(atKey q k).map (·.2))<|by rw[l];exact c.val k
  obtain⟨p,x,t⟩:=aI.mp f;refine wpAny_getItem_heap (Í w) (Gd I.hok C) i x ?_;rw[t];exact h w' _ (I.tok _) d
theorem d_in(n:A.units+1<cLine)(I:Inv X a8 σ H s)(g:Dm H a y o)(m:RelV y u)(h:∀s',Inv X a8 σ H s'->Q (.bool o.isSome) s') :
  wpAny (_D X.prog X.w) A (compareOp .In u<|.ref a) Q E s:=by
 rcases g with⟨j,k,e,f,l⟩ | ⟨j,k,b,e,f,p,l⟩
 .subst f;obtain⟨z,i,t,c,d⟩:=NQ I.hok e;refine S4 (NB m) i d.mapOf ?_;rw[<-(c.val k).HQ,<-l];exact h _<|I.tok _
 .subst f
  cases (show u=_K b from m);obtain⟨z,i,r,c,d⟩:=NP I.hok e;refine wpAny_in_heap (Í n) (Gd I.hok p) i d ?_;have q:=(c.val k).HQ;rw[on] at q;rw[<-q,<-l];exact h _<|I.tok _
theorem iU(n:A.units+1<cLine)(I:Inv X a8 σ H s)(g:Dm H a y o)(m:RelV y u)(h:∀s',Inv X a8 σ H s'->Q (.bool<|!o.isSome) s') :
  wpAny (_D X.prog X.w) A (compareOp .NotIn u<|.ref a) Q E s:=by
 rcases g with⟨j,k,e,f,l⟩ | ⟨j,k,b,e,f,p,l⟩
 .subst f;obtain⟨z,i,t,c,d⟩:=NQ I.hok e;refine LZ (NB m) i d.mapOf ?_;rw[<-(c.val k).HQ,<-l];exact h _<|I.tok _
 .subst f
  cases (show u=_K b from m);obtain⟨z,i,r,c,d⟩:=NP I.hok e;refine wpAny_notIn_heap (Í n) (Gd I.hok p) i d ?_;have q:=(c.val k).HQ;rw[on] at q;rw[<-q,<-l];exact h _<|I.tok _
theorem Q7{t':_c}{c:HO}(I:Inv X a8 σ H s)(d:yt<|H a)(f:Å a s.heap h')(g:∃q,h'.get? a=_b q)(new:CG X.prog X.w (upd H a c) h' a c) :
  Inv X a8 σ (upd H a c) { s with heap:=h',toks:=t' } :=
 I.write (x:=a) (e:=a) d (.inl U) (λb q h z=>(f.2 b h).trans z) g new
theorem cU{w:_P}{vs:_a (Key×_k)}(z:kvs.length<=sizeLine)(c:(a == sysModules)=_p)(b:KV kvs vs)(dd:h'.DictOf (Bm P w) a vs) :
  CG P w H' h' a (.dK kvs):=⟨z,c,vs,b,dd⟩
theorem ZP{Q:Cn->_C->Prop}(R:A.units+1<cLine)(I:Inv X a8 σ H s)(g:Mr H a y v H')(F:RelV y u)(B:RelV v r)(h:∀s',Inv X a8 σ H' s'->Q () s') :
  wpAny (_D X.prog X.w) A (setItem (.ref a) u r) Q E s:=by
 rcases g with⟨d,k,e,m,l,w⟩ | ⟨d,k,b,e,m,D,l,w⟩
 .subst m w;obtain⟨z,n,O,f,p⟩:=n_ I.hok e;have t:O.length<=sizeLine:=by rw[<-f.length];exact z
  have hl:(putK d k v).length<=sizeLine:=by have:=Gm d k v;exact rx this l
  refine wpAny_setItem_pairs (hsz:=t) (NB F) p λx j o=>h _ ?_;have P:∃q,x.get? a=_b q:=let ⟨q,_,_,i,_⟩:=j;⟨q,i⟩;exact Q7 I (by rw[e];exact Κ) o P<|cU hl n (f.put k B) j
 .subst m w
  cases (show u=_K b from F);obtain⟨z,n,J,f,p⟩:=AAs I.hok e;have t:J.length<=sizeLine:=by rw[<-Paired.length f];exact z
  have hl:(putK d k v).length<=sizeLine:=by have:=Gm d k v;exact rx this l
  refine wpAny_setItem_heap (hsz:=t) (Í R) (Gd I.hok D) p λx j o=>h _ ?_;obtain⟨q,N,L,i,M,S,G,_,K⟩:=j;refine Q7 I (by rw[e];exact Κ) o ⟨q,i⟩ ⟨hl,n,_,(f.put k D B).keeps λc T C=>?_,q,N,L,i,M,S,G,K⟩;rw[Ak (mV C e (λz=>nomatch z))];exact C
end
def vG(i:Expr):Prop:=∀ov iv,subscripted i _p ov iv=operate [ov,iv] (getItem ov iv)
theorem Wq{w:_P}{b:ŀ}{a c:Expr}{T id:ã}
  (hl:typeLookup (.type T) "__getitem__" = pure (_b<|.builtin id))(k:vG c)
  (h:wpAny (_D prog w) A (eval a b) (λo s₁=>wpAny (_D prog w) A (eval c b) (λi s₂=>s₂.TypeIs o T/\wpAny (_D prog w) A (getItem o i) Q E s₂) E s₁) E s) :
  wpAny (_D prog w) A (eval (.Subscript a c pos) b) Q E s:=by
 refine C8<|ζ h (λo s₁ j=>ζ j (λi s₂ d=>?_) λ_ _ x=>x) λ_ _ x=>x
 obtain⟨f,d⟩:=d;unfold subscriptTail;refine _e ?_;rw[getitemInPython_of_ne f.not_modules];refine _e<|wpAny_specialOf f hl ?_
 have fin:wpAny (_D prog w) A (subscripted c _p o i) (λr e=>wpAny (_D prog w) A (letTemporaryGo a o r >>= λ_=>pure r) Q E e) E s₂:=by
  rw[k o i];exact wpAny_operating<|ζ d (λr e g=>_e<|wpAny_letTemporaryGo<|_v g) λ_ _ x=>x
 first
  | exact _v (_e fin)
  | exact _e (_v (_e fin))
  | exact _e fin
theorem Td{y:V}{o:_r V}(I:Inv X a8 σ H s)(g:Dm H a y o):s.TypeIs (.ref a) "dict":=by
 rcases g with⟨d,k,e,_,_⟩ | ⟨d,k,b,e,_,_,_⟩
 .obtain⟨_,_,h,_,c⟩:=NQ I.hok e;exact c.typeIs
 .obtain⟨_,_,f,_,c⟩:=NP I.hok e;exact c.typeIs
inductive dj(Q:VK)(a:_d)(y:V)(H2:Hp):Prop
|mk(v:_)(_:Dm H2 a y (_b v))(_:Q v H2)
abbrev AAe(td ty:TE):TE:=λσ H Q=>td σ H λx H1=>ty σ H1 λy=>Jw (λa H2=>dj Q a y H2) x
inductive mU(Q:VK)(y:V)(a:_d)(H2:Hp):Prop
|mk(o:_)(_:Dm H2 a y o)(_:Q (.bl o.isSome) H2)
abbrev tDIn(ty td:TE):TE:=λσ H Q=>ty σ H λy H1=>td σ H1<|Jw λa H2=>mU Q y a H2
inductive UT(Q:VK)(y:V)(a:_d)(H2:Hp):Prop
|mk(o:_)(_:Dm H2 a y o)(_:Q (.bl (!o.isSome)) H2)
abbrev jA(ty td:TE):TE:=λσ H Q=>ty σ H λy H1=>td σ H1<|Jw λa H2=>UT Q y a H2
inductive cW(D:Ends)(σ:St)(v:V)(a:_d)(y:V)(H3:Hp):Prop
|mk(H4:_)(_:Mr H3 a y v H4)(_:D.nx σ H4)
abbrev vf(td ty tv:TE):TS:=λD σ H=>tv σ H λv H1=>td σ H1 λx H2=>ty σ H2 λy=>Jw (λa H3=>cW D σ v a y H3) x
section
variable{o i e value:Expr}{rV qo:ī}{td ty tv:TE}
theorem DK(k:X.A.units+1<cLine)(t:PE X o td)(hi:PE X i ty)(w:vG i):PE X (.Subscript o i pos)<|AAe td ty:=by
 intro b s σ H Q I h;refine Wq kN w<|CN (t b s σ H _ I h) λu m ⟨x,f,n,e,z⟩=>CN (hi b m σ f _ n z) λC B l=>?_
 obtain⟨y,r,c,j,q⟩:=l;obtain⟨a,rfl,v,g,p⟩:=Jw.e q;obtain rfl:u=_K a:=e;exact⟨Td c g,ZM k c g j λD E A d=>⟨v,r,A,d,p⟩⟩
theorem uJ(f:X.A.units+1<cLine)(hi:PE X i ty)(t:PE X o td):PC X .In i o<|tDIn ty td:=by
 intro b s σ H Q I h;refine CN (hi b s σ H _ I h) λA k ⟨y,d,l,e,v⟩=>CN (t b k σ d _ l v) λu z j=>?_;obtain⟨x,r,m,c,q⟩:=j;obtain⟨a,rfl,n,g,p⟩:=Jw.e q;obtain rfl:u=_K a:=c;exact d_in f m g e λB w=>⟨.bl n.isSome,r,w,U,p⟩
theorem Ma(f:X.A.units+1<cLine)(hi:PE X i ty)(t:PE X o td):PC X .NotIn i o<|jA ty td:=by
 intro b s σ H Q I h;refine CN (hi b s σ H _ I h) λA k ⟨y,d,l,e,v⟩=>CN (t b k σ d _ l v) λu z j=>?_;obtain⟨x,r,m,c,q⟩:=j;obtain⟨a,rfl,n,g,p⟩:=Jw.e q;obtain rfl:u=_K a:=c;exact iU f m g e λB w=>⟨.bl<|!n.isSome,r,w,U,p⟩
theorem Gz(w:X.A.units+1<cLine)(j:PE X o td)(hi:PE X i ty)(q:PE X value tv)(k:swapsWith value (_b<|.Subscript o i rV) pos.line X.env=pure _p) :
  PS X (.Assign [.Subscript o i rV] value pos) (vf td ty tv):=by
 intro b s σ H D I h;refine wpAny_Assign_Subscript (CN (q b s σ H _ I h) λr A ⟨v,p,B,d,G⟩=>CN (j b A σ p _ B G) λu c ⟨x,f,z,m,E⟩=>CN (hi b c σ f _ z E) λK L ⟨y,J,l,t,F⟩=>?_) k;obtain⟨a,rfl,e,g,C⟩:=Jw.e F;obtain rfl:u=_K a:=m;exact ZP w l g t d λM n=>⟨σ,e,n,C⟩
end
theorem Ur{w:_P}(h:χ)(a:sysModules<h.objs.size):CG P w H (h.push { cls:=.type "dict",data:=.dict #[] }) h.objs.size (.dK []) :=
 ⟨eK _,Ã.mpr<|_J<|db a,[],.nil,Heap.DictOf.new h⟩
abbrev rR:TE:=λ_ H Q=>∀p,H p=_o->Q (.ref p) (upd H p<|.dK [])
theorem Hg:PE X (.Dict [] [] pos) rR:=λb s σ H Q I h =>
 wpAny_Dict_empty ⟨.ref s.heap.objs.size,_,I.laid (a:=s.heap.objs.size) (o:=.dK []) (t':=s.toks) (λ_ _ q=>_f _ q) (al _)<|Ur s.heap I.big,U,h _<|I.hok.fresh<|al _⟩
def Wj:_a (TE×TE)->St->Hp->(_a (V×V)->Hp->Prop)->Prop
 |[],_,H,Q=>Q [] H
 |(tk,tv)::r,σ,H,Q=>tk σ H λx H1=>tv σ H1 λy H2=>Wj r σ H2 λps H3=>Q ((x,y)::ps) H3
abbrev VV:_a (V×V)->_a (_k×_k)->Prop:=Paired λp q=>RelV p.1 q.1/\RelV p.2 q.2
def PPs(X:Cx)(pos:ī)(tP:_a<|_r Expr)(rX:_a Expr)(ze:_a<|TE×TE):Prop :=
 ∀(a8:_a<|_d × Þ)(s:_C)(σ:St)(H:Hp)(Q:_a (V × V)->Hp->Prop),Inv X a8 σ H s->Wj ze σ H Q ->
  wpAny (_D X.prog X.w) X.A (evalPairs<|pairTrees tP rX X.env pos) (λvs s'=>∃ps H',Inv X a8 σ H' s'/\VV ps vs/\Q ps H') X.xe s
theorem jQ:PPs X pos [] [] []:=λa s σ H Q I h=>pairTrees_nil_walk ⟨[],H,I,.nil,h⟩
theorem PN{X:Cx}{pos:ī}{k v:Expr}{ks:_a (_r Expr)}{vs:_a Expr}{e d:TE}{c:_a (TE×TE)}(C:PE X k e)(o:PE X v d)(f:PPs X pos ks vs c) :
  PPs X pos (_b k::ks) (v::vs) ((e,d)::c):=λa s σ H Q I h =>
 pairTrees_cons_walk (CN (C a s σ H _ I h) λu t ⟨x,p,w,n,B⟩=>CN (o a t σ p _ w B) λE g ⟨y,l,r,q,A⟩ =>
  CN (f a g σ l _ r A) λF D ⟨i,j,m,b,z⟩=>⟨(x,y)::i,j,m,.cons ⟨n,q⟩ b,z⟩)
def G3(kvs more:_a<|Key×V):_a<|Key×V:=more.foldl (λi9 kv=>putK i9 kv.1 kv.2) kvs
theorem KV.merge:∀{more:_a (Key × V)}{rs:_a (Key × _k)}{kvs:_a (Key × V)}{vs:_a (Key × _k)},KV more rs->KV kvs vs->KV (G3 kvs more) (merged vs rs):=by
 intro more rs kvs vs r;unfold KV at r
 induction r generalizing kvs vs with
 |nil=>intro q;exact q
 | @cons p q d c h t b =>
  intro a;have e:KV (putK kvs p.1 p.2)<|stored vs q.1 q.2:=by
   have:=a.put p.1 h.2;rw[<-h.1];exact this
  exact b e
theorem J8:∀(more kvs:_a<|Key × V),(G3 kvs more).length<=kvs.length+more.length
 |[],kvs=>by show kvs.length<=kvs.length+0;exact zor _ _
 |p::r,kvs=>by
  have a:=J8 r<|putK kvs p.1 p.2
  have b:=Gm kvs p.1 p.2;show (G3 (putK kvs p.1 p.2) r).length<=_;rw[bi];lia
theorem Pj{w:_P}:∀{kvs:_a (Key × V)}{ws:_a (_k × _k)},VV (kvs.map λkv=>(kV kv.1,kv.2)) ws->∃rs,Carries (Bm P w) ws rs/\KV kvs rs
 |[],_,r=>by rw[nS] at r;cases r;exact⟨[],Κ,.nil⟩
 |p::kvs,_,r=>by
  rw[ee] at r
  cases r with
  | @cons a b f bs h t =>
   obtain⟨rs,c,q⟩:=Pj (w:=w) t;obtain⟨e,d⟩:=b;exact⟨(p.1,d)::rs,⟨NB h.1,U,c⟩,.cons ⟨U,h.2⟩ q⟩
abbrev AAo(ze:_a<|TE×TE):TE:=λσ H Q=>∀p,H p=_o->Wj ze σ (upd H p<|.dK []) λps H2=>H2 p=_b (.dK [])/\∃kvs:_a<|Key×V,ps=kvs.map (λkv=>(kV kv.1,kv.2))/\kvs.length<=15/\Q (.ref p) (upd H2 p<|.dK<|G3 [] kvs)
theorem gH{X:Cx}{pos:ī}{b:_a (_r Expr)}{i:_a Expr}{j:_a (TE×TE)}(h:PPs X pos b i j)(A:b.all (·.isSome)=_g)(hl:b.length=i.length)(t:b≠[])
  (f:b.length<=15):PE X (.Dict b i pos)<|AAo j:=by
 intro p s σ H Q I q;have D:=I.hok.fresh<|al s.heap.objs.size
 have F:=I.laid (a:=s.heap.objs.size) (o:=.dK []) (h':=s.heap.push { cls:=.type "dict",data:=.dict #[] }) (t':=s.toks) (λ_ _ q=>_f _ q) (al _)<|Ur s.heap I.big
 refine wpAny_Dict_walk (knd:=Bm X.prog X.w) A hl t f<|CN (h p _ σ _ _ F<|q _ D) λR L r=>?_
 obtain⟨M,N,k,g,e,d,v,O,J⟩:=r;subst v;obtain⟨m,c,rk⟩:=Pj (P:=X.prog) (w:=X.w) g;obtain⟨z,u,K,G,C⟩:=n_ k.hok e
 cases G;refine⟨m,c,C,λh' l y=>⟨.ref s.heap.objs.size,_,?_,U,J⟩⟩;have E:(G3 [] d).length<=sizeLine:=by
  have n:=J8 d [];rw[kF] at n;rw[ū];lia
 have B:∃q,h'.get? s.heap.objs.size=_b q:=let ⟨q,_,_,x,_⟩:=l;⟨q,x⟩;exact Q7 k (by rw[e];exact Κ) y B<|cU E u (rk.merge .nil) l
structure M1(X:Cx)(o:Expr)(m:_m)(i5:ī)(e:Expr)(k6:ī):Prop where
 base:attributeBase o m X.env (eval o X.env)=eval o X.env
 few:((backTo k6<|starEach [e] X.env).all (λx=>!x.1) && (backToKw k6<|keywordEach [] X.env).all (λx=>x.1.isSome)
  && decide (([e]:_a Expr).length+([]:_a Ŷ).length+(if ([]:_a Ŷ).isEmpty then 0 else 1)<30))=_g
 line:(i5.endLine == k6.line)=_g
 trees:backTo k6 (starEach [e] X.env)=[(_p,eval e X.env)]
structure M2(X:Cx)(o:Expr)(m:_m)(i5:ī)(e f:Expr)(k6:ī):Prop where
 base:attributeBase o m X.env (eval o X.env)=eval o X.env
 few:((backTo k6<|starEach [e,f] X.env).all (λx=>!x.1) && (backToKw k6<|keywordEach [] X.env).all (λx=>x.1.isSome)
  && decide (([e,f]:_a Expr).length+([]:_a Ŷ).length+(if ([]:_a Ŷ).isEmpty then 0 else 1)<30))=_g
 line:(i5.endLine == k6.line)=_g
 trees:backTo k6 (starEach [e,f] X.env)=[(_p,eval e X.env),(_p,eval f X.env)]
def IsD(H:Hp)(a:_d):Prop:=(∃kvs,Rd H a<|.dK kvs) \/ ∃kvs,Rd H a<|.dT kvs
theorem WF(I:Inv X a8 σ H s)(d:IsD H a) :
  s.TypeIs (.ref a) "dict" /\ (∀b,_K a=.ref b->∃ob,s.heap.get? b=_b ob/\ob.dict=_o)/\(a == sysModules)=false:=by
 rcases d with⟨i,e⟩ | ⟨i,e⟩
 .obtain⟨_,g,k,_,c⟩:=NQ I.hok e;refine⟨c.typeIs,λb q=>?_,g⟩
  cases q;obtain⟨ob,_,_,f,h,_⟩:=c;exact⟨ob,f,h.2.1⟩
 .obtain⟨_,g,j,_,c⟩:=NP I.hok e;refine⟨c.typeIs,λb q=>?_,g⟩
  cases q;obtain⟨ob,_,_,f,h,_⟩:=c;exact⟨ob,f,h.2.1⟩
section
variable{y d:V}{r:_k}{o:_r V}
theorem pY(p:A.units+1<cLine)(I:Inv X a8 σ H s)(g:Dm H a y o)(m:RelV y u)(h:∀w' s',Inv X a8 σ H s'->RelV (o.getD .non) w'->Q w' s') :
  wpAny (_D X.prog X.w) A (call (.builtin "dict.get") [.ref a,u]) Q E s:=by
 rcases g with⟨j,k,e,f,l⟩ | ⟨j,k,b,e,f,q,l⟩
 .subst f;obtain⟨z,i,r,c,d⟩:=NQ I.hok e;refine Č fo d.typeIs PySem.F.entry_dict_get (PySem.F.args_dict_get_2 _ _) (meets_dict_get (Bm X.prog X.w) a (NB m) i) ⟨_,d.mapOf,h _ _ (I.tok _) ?_⟩;rw[l];exact (c.val k).getD U
 .subst f
  cases (show u=_K b from m);obtain⟨z,i,n,c,d⟩:=NP I.hok e;refine Č fo d.typeIs PySem.F.entry_dict_get (PySem.F.args_dict_get_2 _ _) (meetsH_dict_get (tupleKind<|Bm X.prog X.w) a b i) ⟨Í p,k,n,Gd I.hok q,d,h _ _ (I.tok _) ?_⟩;rw[l];exact (c.val k).getD U
theorem tY(t:A.units+1<cLine)(I:Inv X a8 σ H s)(g:Dm H a y o)(n:RelV y u)(p:RelV d r)(h:∀w' s',Inv X a8 σ H s'->RelV (o.getD d) w'->Q w' s') :
  wpAny (_D X.prog X.w) A (call (.builtin "dict.get") [.ref a,u,r]) Q E s:=by
 rcases g with⟨m,k,e,i,l⟩ | ⟨m,k,b,e,i,v,l⟩
 .subst i;obtain⟨z,j,w,c,f⟩:=NQ I.hok e;refine Č fo f.typeIs PySem.F.entry_dict_get (PySem.F.args_dict_get_3 _ _ _) (xC (Bm X.prog X.w) a (NB n) j r) ⟨_,f.mapOf,h _ _ (I.tok _) ?_⟩;rw[l];exact (c.val k).getD p
 .subst i
  cases (show u=_K b from n);obtain⟨z,j,q,c,f⟩:=NP I.hok e;refine Č fo f.typeIs PySem.F.entry_dict_get (PySem.F.args_dict_get_3 _ _ _) (meetsH_dict_get_default (tupleKind<|Bm X.prog X.w) a b j r) ⟨Í t,k,q,Gd I.hok v,f,h _ _ (I.tok _) ?_⟩;rw[l];exact (c.val k).getD p
end
inductive YK(ty:TE)(σ:St)(Q:VK)(x:V)(H1:Hp):Prop
|mk(a:_)(_:x=.ref a)(_:IsD H1 a)(_:ty σ H1 λy H2=>∃o,Dm H2 a y o/\Q (o.getD .non) H2)
abbrev o8(td ty:TE):TE:=λσ H Q=>td σ H λx H1=>YK ty σ Q x H1
inductive YF(ty tx:TE)(σ:St)(Q:VK)(x:V)(H1:Hp):Prop
|mk(a:_)(_:x=.ref a)(_:IsD H1 a)(_:ty σ H1 λy H2=>tx σ H2 λz H3=>∃o,Dm H3 a y o/\Q (o.getD z) H3)
abbrev sY(td ty tx:TE):TE:=λσ H Q=>td σ H λx H1=>YF ty tx σ Q x H1
section
variable{o e f:Expr}{k6:ī}{td ty tx:TE}
theorem SQ(w:X.A.units+1<cLine)(l:PE X o td)(r:PE X e ty)(m:M1 X o "get" i5 e k6):PE X (.Call (.Attribute o "get" i5) [e] [] k6)<|o8 td ty:=by
 intro b s σ H Q I h;refine Ő m.base m.few m.line iL fo lI<|CN (l b s σ H _ I h) λu A j=>?_
 obtain⟨x,t,c,q,a,f,d,D⟩:=j;subst f;obtain rfl:u=_K a:=q;obtain⟨i,C,_⟩:=WF c d;refine⟨i,C,?_⟩;rw[m.trees];refine Β U<|Ñ<|Â<|CN (r b A σ t _ c D) λG E ⟨y,k,z,v,F,g,B⟩=>ċ ?_
 exact pY w z g v λJ K n p=>⟨_,k,n,p,B⟩
theorem Uv(E:X.A.units+1<cLine)(r:PE X o td)(A:PE X e ty)(J:PE X f tx)(m:M2 X o "get" i5 e f k6):PE X (.Call (.Attribute o "get" i5) [e,f] [] k6)<|sY td ty tx:=by
 intro b s σ H Q I h;refine Ő m.base m.few m.line iL fo lI<|CN (r b s σ H _ I h) λu G n=>?_
 obtain⟨x,D,c,w,a,i,d,N⟩:=n;subst i;obtain rfl:u=_K a:=w;obtain⟨k,M,_⟩:=WF c d;refine⟨k,M,?_⟩;rw[m.trees];refine Β U (Ñ (Â (CN (A b G σ D _ c N) λR j ⟨y,q,F,C,L⟩ =>
  Â (CN (J b j σ q _ F L) λO T ⟨z,p,t,l,P,g,K⟩=>ċ ?_))))
 exact tY E t g C l λS V B v=>⟨_,p,B,v,K⟩
end
end L2
variable{H H' H1 Ho Hx H2:L2.Hp}{X:L2.Cx}{n i j m t' dr sh ia:_c}{s:PySem.Shared}{σ:L2.St}{a C x p f y Cy sd b B RA dx pE pA aB aP aM pd z Cp KN:PySem.Addr}{pos i5:PySem.Pos}{A:PySem.Around}{E Q:vSP}{a8:_a (PySem.Addr×PySem.Obj)}{P prog:PySem.Program}{xs vs us ys:_a L2.V}{kvs:_a (L2.Key×L2.V)}{u:PySem.Value}{te ta:L2.TE}{h h' base:PySem.Heap}{sts:_a _c}{o:L2.HO}{es pj:_a PySem.Expr}{t qual:PySem.Str}{tg iter qc:PySem.Expr}{ps ns nms:_a PySem.Str}{tt:L2.TT}{c:_j}{fd:PySem.FuncData}{scope:PySem.Scope}{D:L2.Ends}{mg:PySem.Str->_r PySem.Value}{tb:L2.TS}{led:_O}{cn:_c->PySem.Str}{fp:_a PySem.Addr}
namespace HT
open PySem PyProof.Rows
section
variable{w:_P}
theorem gn{t:_d}{vs ws:_a _k}(u:LF s.heap t vs.toArray)(r:LF s.heap b ws.toArray)(g:vs≠[])
  (q:ws=[]->Q (.ref t) s)(v:ws≠[]->Q (.ref s.heap.objs.size) { s with heap:=s.heap.push { cls:=.type "tuple",data:=.seq (vs++ws).toArray } })
  (hsz:vs.length+ws.length<=sizeLine):wpAny (_D prog w) A (binaryOp .Add (.ref t)<|.ref b) Q E s:=by
 obtain⟨⟨cls,i,data,o⟩,d,h,n,l⟩:=id u;obtain⟨⟨x,f,data2,k⟩,a,m,p,j⟩:=id r;simp only at h l m j;subst h l m j;have e:vs.toArray++ws.toArray=(vs++ws).toArray:=by simp
 by_cases c:ws=[]
 .exact R' ⟨_,d,U⟩ ⟨_,a,U⟩ F' NU PySem.F.slot_tuple_add PySem.F.entry_tuple_add (PySem.F.args_tuple_add_2 _ _)
   (tuple_addW1 t b vs.toArray ws.toArray n p i f o k (by simpa using g)<|by simp[c]) ⟨d,a,q c⟩
 .refine R' ⟨_,d,U⟩ ⟨_,a,U⟩ F' NU PySem.F.slot_tuple_add PySem.F.entry_tuple_add (PySem.F.args_tuple_add_2 _ _)
   (tuple_addW2 t b vs.toArray ws.toArray n p i f o k (by simpa using g) (by simpa using c)<|by rw[_R,_R];exact hsz) ⟨d,a,?_⟩
  rw[e];exact v c
noncomputable def Ex(n d:_c):_r _j->_c
 |none=>d
 |some v=>if v<0 then (v+(n:_j)).toNat else min v.toNat n
theorem N5(n d:_c):Ex n d _o=d:=rfl
theorem Gu(n d k:_c):Ex n d (_b (k:_j))=min k n:=by
 show (if (k:_j)<0 then ((k:_j)+(n:_j)).toNat else min (k:_j).toNat n)=min k n;rw[_l (Zs (ja _)),bp]
theorem rZ(n d:_c)(b:d<=n)(o:_r _j):Ex n d o<=n:=by
 cases o with
 |none=>exact b
 |some v =>
  show (if v<0 then (v+(n:_j)).toNat else min v.toNat n)<=n;by_cases a:v<0
  .rw[_n a];lia
  .rw[_l a];exact Nat.min_le_right _ _
theorem Xz(v:_j)(n d:_c):(if v<0 then max (v+(n:_j)) 0 else min v (n:_j))=((Ex n d (_b v):_c):_j):=by
 show (if v<0 then max (v+(n:_j)) 0 else min v (n:_j))=(((if v<0 then (v+(n:_j)).toNat else min v.toNat n):_c):_j);by_cases a:v<0
 .simp only[_n a];lia
 .simp only[_l a];lia
theorem Vt(lo hi:_r _j)(n:_c):ù lo hi 1 (n:_j)=(((Ex n 0 lo:_c):_j),((Ex n n hi:_c):_j)):=by
 have a:¬ ((1:_j)<0):=(by decide)
 unfold ù;simp only[a,å];refine Prod.ext ?_ ?_
 .cases lo with
  |none=>rfl
  |some v=>exact Xz v n 0
 .cases hi with
  |none=>rfl
  |some v=>exact Xz v n n
theorem Vl(i j:_c):Ì (i:_j) (j:_j) 1=j - i:=by
 unfold Ì;have a:(1:_j) > 0:=(by decide)
 simp only[a,ê,Int.ediv_one];split <;> lia
theorem OJ{v:_k}{o:_r _j}{Q:_r _j->_C->Prop}(p:Š v o)(h:Q o s):wpAny (_D prog w) A (GA v) Q E s:=by
 cases p with
 |none=>exact Mb h
 |int i t=>exact slicePart_int h
theorem Mg{e:_d}{b c:_k}{lo hi:_r _j}{Q:_j×_j×_c->_C->Prop}(g:s.heap.IsSliceOf e b c .none)(pl:Š b lo)(f:Š c hi)
  (h:Q (((Ex n 0 lo:_c):_j),1,Ex n n hi - Ex n 0 lo) s):wpAny (_D prog w) A (ĳ (.ref e)<|pure (n:_j)) Q E s:=by
 obtain⟨os,d,i,a⟩:=id g;unfold ĳ GE;refine _e<|_e<|δ d a (x:=b) U<|_e<|δ d a (x:=c) U<|_e<|δ d a (x:=.none) U<|_v ?_
 refine _e<|Mb ?_
 show wpAny _ _ (if ((1:_j) == 0)=_g then _ else _) _ _ s;rw[_l (by decide)];refine _e<|OJ pl<|_e<|OJ f<|_e<|_v ?_
 show wpAny _ _ (match ù lo hi 1 (n:_j) with | (lo,hi)=>pure (lo,(1:_j),Ì lo hi 1)) _ _ s;rw[Vt lo hi n];show wpAny _ _ (pure (((Ex n 0 lo:_c):_j),(1:_j),Ì ((Ex n 0 lo:_c):_j) ((Ex n n hi:_c):_j) 1)) _ _ s;rw[Vl];exact _v h
theorem dZ(xs:_E _k)(i k:_c):((_L k).filterMap λ(m:_c)=>xs[((i:_j)+(m:_j) * 1).toNat]?).toArray=((xs.toList.drop i).take k).toArray:=by
 have e:(λ(m:_c)=>xs[((i:_j)+(m:_j) * 1).toNat]?)=λm=>xs[i+m]?:=by
  funext m;have:((i:_j)+(m:_j) * 1).toNat=i+m:=by lia
  rw[this]
 rw[e];have:=pick_run xs i k;rw[List.filterMap_map] at this;have a:((λx=>xs[x]?) ∘ λx=>i+x)=λm=>xs[i+m]?:=rfl;rw[a] at this;rw[this]
theorem Kv{t e:_d}{a:_E _k}{g i:_k}{lo hi:_r _j}(c:LF s.heap t a)(j:s.heap.IsSliceOf e g i .none)(pl:Š g lo)(o:Š i hi)
  (k:¬ (Ex a.size 0 lo=0/\Ex a.size a.size hi=a.size))
  (h:Q (.ref s.heap.objs.size) { s with heap:=s.heap.push { cls:=.type "tuple",data:=.seq ((a.toList.drop<|Ex a.size 0 lo).take<|Ex a.size a.size hi - Ex a.size 0 lo).toArray } })
  (hsz:a.size<=sizeLine):wpAny (_D prog w) A (getItem (.ref t)<|.ref e) Q E s:=by
 have b:sizeOk<|.seq ((a.toList.drop<|Ex a.size 0 lo).take<|Ex a.size a.size hi - Ex a.size 0 lo).toArray:=by
  show ((a.toList.drop<|Ex a.size 0 lo).take<|Ex a.size a.size hi - Ex a.size 0 lo).toArray.size<=sizeLine;rw[bo,cm,iS,_G];lia
 have r:Ex a.size a.size hi<=a.size:=rZ _ _ (al _) hi;obtain⟨os,l,n,p⟩:=id j;have f:s.TypeIs (.ref e) "slice":=⟨os,l,n⟩;unfold getItem;try with_reducible refine Ν ?_
 first | refine _e (_v ?_) | skip
 refine _e<|wpAny_sequenceKey c.typeIs (by decide) ?_
 refine _e (Æ (name:=Ğ "__getitem__") c.typeIs ß
  (à ß c.typeIs entry_tuple_getitem ?_<|args_tuple_getitem _ _))
 show wpAny _ _ (G1 (.ref t) >>= _) _ _ s;refine _e<|tupleItemsOf_ c ?_
 refine _e<|wpAny_typeOf f ?_
 rw[_n (by decide)];refine _e<|Mg j pl o ?_
 have d:¬ ((((Ex a.size 0 lo:_c):_j) == 0 && (1:_j) == 1 && (Ex a.size a.size hi - Ex a.size 0 lo) == a.size)=_g):=by
  intro q;rw[eM,eM] at q;have u:((Ex a.size 0 lo:_c):_j)=0:=eq_of_beq q.1.1;have v:Ex a.size a.size hi - Ex a.size 0 lo=a.size:=eq_of_beq q.2;exact k ⟨by lia,by lia⟩
 show wpAny _ _ (if (((Ex a.size 0 lo:_c):_j) == 0 && (1:_j) == 1 && (Ex a.size a.size hi - Ex a.size 0 lo) == a.size)=_g then _ else _) _ _ s;rw[_l d,dZ];first
  | exact _e (m:=Î _) (Δ (_v ⟨_,rfl,_v h⟩) b)
  | exact _e (m:=Î _) (Δ (_e (_v (_v ⟨_,rfl,_v h⟩))) b)
  | exact _e (_e (m:=Î _) (Δ (_v (_v ⟨_,rfl,_v h⟩)) b))
  | exact _e (_e (m:=Î _) (Δ (_v ⟨_,rfl,_v h⟩) b))
end
end HT
namespace L2
open PySem PySem.Spec PyProof.Rows
abbrev TO:=St->Hp->(_r _j->Hp->Prop)->Prop
def PO(X:Cx)(e:_r Expr)(t:TO):Prop :=
 ∀(a8:_a<|_d × Þ)(s:_C)(σ:St)(H:Hp)(Q:_r _j->Hp->Prop),Inv X a8 σ H s->t σ H Q ->
  wpAny (_D X.prog X.w) X.A (evalPart e X.env) (λu s'=>∃o H',Inv X a8 σ H' s'/\Š u o/\Q o H') X.xe s
abbrev jd:TO:=λ_ H Q=>Q _o H
abbrev AAP(t:TE):TO:=λσ H Q=>t σ H<|Np λi=>Q<|some i
section
variable{e:Expr}{lo hi:_r Expr}{tl th:TO}{p2:ī}
theorem Gk:PO X _o jd:=by
 intro a s σ H Q I h;rw[NY];exact _v ⟨_o,H,I,.none,h⟩
theorem Fi(h:PE X e te):PO X (_b e)<|AAP te:=by
 intro b s σ H Q I a;rw[evalPart_some];refine CN (h b s σ H _ I a) λu k d=>?_;obtain⟨x,c,f,j,g⟩:=d;obtain⟨i,rfl,q⟩:=Np.e g;obtain⟨t,rfl⟩:=j;exact⟨_b i,c,f,.int i t,q⟩
def SlR(X:Cx)(r:V->_r _j->_r _j->Hp->VK->Prop):Prop :=
 ∀(a8:_a<|_d × Þ)(s:_C)(σ:St)(H:Hp)(x:V)(v vl vu:_k)(lo hi:_r _j)(sl:_d)(Q:VK),Inv X a8 σ H s->RelV x v->s.heap.IsSliceOf sl vl vu .none->Š vl lo->Š vu hi->r x lo hi H Q ->
  ∃T id,typeLookup (.type T) "__getitem__" = pure (_b<|.builtin id)/\s.TypeIs v T/\wpAny (_D X.prog X.w) X.A (getItem v<|.ref sl) (EP X a8 σ Q) X.xe s
abbrev tSl(r:V->_r _j->_r _j->Hp->VK->Prop)(te:TE)(tl th:TO):TE:=λσ H Q=>te σ H λx H1=>tl σ H1 λl H2=>th σ H2 λu H3=>r x l u H3 Q
theorem FN{r:V->_r _j->_r _j->Hp->VK->Prop}(j:SlR X r)(A:PE X e te)(hl:PO X lo tl)(D:PO X hi th):PE X (.Subscript e (.Slice lo hi _o p2) pos)<|tSl r te tl th:=by
 intro c s σ H Q I h;refine C8<|CN (A c s σ H _ I h) λv F g=>?_
 obtain⟨x,B,G,z,L⟩:=g;refine wpAny_Slice<|CN (hl c F σ B _ G L) λd k ⟨l,p,E,m,K⟩=>CN (D c k σ p _ E K) λf a g=>?_
 obtain⟨u,i,y,w,J⟩:=g;rw[NY];refine _v ?_;have C:Inv X c σ i { a with heap:=a.heap.push { cls:=.type "slice",data:=.fields #[d,f,.none] } }:=y.kept (t':=a.toks) λb M q=>_f _ q;obtain⟨T,id,t,o,n⟩:=j c { a with heap:=a.heap.push { cls:=.type "slice",data:=.fields #[d,f,.none] } } σ i x v d f l u a.heap.objs.size Q C z (Heap.IsSliceOf.new ..) m w J;show wpAny (_D X.prog X.w) X.A (subscriptTail e (.Slice lo hi _o p2) v<|.ref a.heap.objs.size) (EP X c σ Q) X.xe { a with heap:=a.heap.push { cls:=.type "slice",data:=.fields #[d,f,.none] } };exact tail_any (ops:=[.ref a.heap.objs.size,v]) o t n<|by with_unfolding_all rfl
noncomputable def FQ(xs:_a V)(lo hi:_r _j):_a V:=(xs.drop<|HT.Ex xs.length 0 lo).take<|HT.Ex xs.length xs.length hi - HT.Ex xs.length 0 lo
theorem M_(xs:_a V)(lo hi:_r _j):(FQ xs lo hi).length<=xs.length:=by
 unfold FQ;rw[cm,iS];lia
inductive xZ(K:_q)(x:V)(lo:_r _j)(hi:_r _j)(H:Hp)(Q:VK):Prop
|mk(a xs:_)(_:x=.ref a)(_:JD K H a xs)(_:¬ (HT.Ex xs.length 0 lo=0/\HT.Ex xs.length xs.length hi=xs.length))(_:∀p,H p=_o->Q (.ref p) (upd H p (.tup (FQ xs lo hi))))
theorem Rb:SlR X<|xZ X.K:=by
 intro u s σ H x v t y lo e z Q I l p j n h;obtain⟨a,d,rfl,m,k,q⟩:=h
 cases l;obtain⟨f,r,i,g⟩:=I.tuple m;have c:f.toArray.size=d.length:=by rw[bo];exact r.length.symm
 refine⟨"tuple",_,ß.lookup,i.typeIs,?_⟩;refine HT.Kv i p j n (by rw[c];exact k) ?_<|by rw[c];exact g
 rw[c];refine⟨.ref s.heap.objs.size,_,I.laid (t':=s.toks) (o:=.tup<|FQ d lo e) (λb w q=>_f _ q) (al _) ?_,U,q _<|I.hok.fresh<|al _⟩;exact⟨cq (M_ d lo e) g,_,(r.drop<|HT.Ex d.length 0 lo).take<|HT.Ex d.length d.length e - HT.Ex d.length 0 lo,IsTup.new _ _⟩
inductive nu(K:_q)(x:V)(y:V)(H:Hp)(Q:VK):Prop
|mk(a b xs ys:_)(_:x=.ref a)(_:y=.ref b)(_:JD K H a xs)(_:JD K H b ys)(_:xs≠[])(_:xs.length+ys.length<=sizeLine)(_:ys=[]->Q (.ref a) H)(_:ys≠[]->∀p,H p=_o->Q (.ref p) (upd H p (.tup (xs++ys))))
theorem Vals.Q4{us:_a _k}(r:Vals xs us):us=[] ↔ xs=[]:=by
 cases r with
 |nil=>simp
 |cons _ _=>simp
theorem kh:HW X (binaryOp .Add)<|nu X.K:=by
 intro C s σ H x y v u Q I g l h;obtain⟨a,b,f,k,rfl,rfl,i,n,j,e,m,t⟩:=h
 cases g
 cases l;obtain⟨A,d,p,_⟩:=I.tuple i;obtain⟨B,c,r,_⟩:=I.tuple n;refine HT.gn p r (λz=>j<|d.Q4.mp z) (λz=>⟨.ref a,H,I,U,m<|c.Q4.mp z⟩) (λz=>?_)<|by rw[<-d.length,<-c.length];exact e
 refine⟨.ref s.heap.objs.size,_,I.laid (t':=s.toks) (o:=.tup<|f++k) (λb D q=>_f _ q) (al _) ?_,U,t (λw=>z<|c.Q4.mpr w) _<|I.hok.fresh<|al _⟩;exact⟨by rw[am];exact e,_,d.append c,IsTup.new _ _⟩
end
noncomputable def oA(n:_c)(i:_j):_r Nat:=if 0<=i then (if i<n then _b i.toNat else _o) else if -(n:_j)<=i then _b (i+n).toNat else _o
def VJ{α:Type}(xs:_a α)(i:_j):_r α:=(oA xs.length i).bind λj=>xs[j]?
theorem X8{i:_j}(h:oA n i=_b j):seqIndex? i n=_b j/\j<n /\ -(n:_j)<=i/\i<n:=by
 unfold oA at h;by_cases b:0<=i
 .rw[_n b] at h;by_cases a:i<n
  .rw[_n a] at h;have e:i.toNat=j:=_h h;exact⟨by rw[ŭ b a,e],by lia,by lia,a⟩
  .rw[_l a] at h;cases h
 .rw[_l b] at h;by_cases a : -(n:_j)<=i
  .rw[_n a] at h;have e:(i+n).toNat=j:=_h h;exact⟨by rw[xD (by lia) a,e],by lia,a,by lia⟩
  .rw[_l a] at h;cases h
theorem Rx{α:Type}{xs:_a α}{i:_j}{v:α}(h:VJ xs i=_b v):∃j,seqIndex? i xs.length=_b j/\xs[j]? = _b v/\j<xs.length /\ -(xs.length:_j)<=i/\i<xs.length:=by
 unfold VJ at h
 cases e:oA xs.length i with
 |none=>rw[e] at h;cases h
 |some j =>
  rw[e] at h;obtain⟨a,c,d,b⟩:=X8 e;exact⟨j,a,h,c,d,b⟩
theorem Av{α:Type}{xs:_a α}{v:α}(h:xs[j]? = _b v):VJ xs (j:_j)=_b v:=by
 have a:j<xs.length:=(ag.mp h).1;have e:oA xs.length (j:_j)=_b j:=by
  unfold oA;rw[_n (ja _),_n<|BT.mpr a];simp
 unfold VJ;rw[e];exact h
def XQ(b:Expr):Prop:=∀o i,subscripted b _p o i=operate [o,i] (getItem o i)
def vV(X:Cx)(r:R2):Prop :=
 ∀(value pV:Expr)(a8:_a<|_d × Þ)(s:_C)(σ:St)(H:Hp)(x y:V)(v u:_k)(Q:VK),Inv X a8 σ H s->RelV x v->RelV y u->r x y H Q ->
  subscripted pV _p v u=operate [v,u] (getItem v u)->wpAny (_D X.prog X.w) X.A (subscriptTail value pV v u) (EP X a8 σ Q) X.xe s
def MtR(X:Cx)(id:ã)(r:V->_a V->Hp->VK->Prop):Prop :=
 ∀(a8:_a<|_d × Þ)(s:_C)(σ:St)(H:Hp)(x:V)(xs:_a V)(v:_k)(us:_a _k)(Q:VK),Inv X a8 σ H s->RelV x v->Vals xs us->r x xs H Q ->
  wpAny (_D X.prog X.w) X.A (call (.builtin id)<|v::us) (EP X a8 σ Q) X.xe s
section
variable{a b:Expr}{tb:TE}
theorem Gi{r:R2}(c:vV X r)(f:PE X a ta)(i:PE X b tb)(m:XQ b):PE X (.Subscript a b pos)<|Zk r ta tb:=by
 intro g s σ H Q I h;exact C8<|uo f i I h λv u d x y l k e j q=>c a b g d σ l x y v u Q k e j q<|m _ _
inductive my(K:_q)(p:_d)(i:_j)(H:Hp)(Q:VK):Prop
|mk(xs v:_)(_:Dd K H p xs)(_:VJ xs i=_b v)(_:Q v H)
abbrev qz(K:_q):R2:=λx y H Q=>Jw (λp=>Np (λi H=>my K p i H Q) y) x H
inductive m_(K:_q)(p:_d)(i:_j)(H:Hp)(Q:VK):Prop
|mk(xs v:_)(_:JD K H p xs)(_:VJ xs i=_b v)(_:Q v H)
abbrev jj(K:_q):R2:=λx y H Q=>Jw (λp=>Np (λi H=>m_ K p i H Q) y) x H
inductive yz(x:V)(y:V)(H:Hp)(Q:VK):Prop
|mk(z i c:_)(_:x=.str z)(_:y=.int i)(_:z.length<=sizeLine)(_:VJ z.cps.toList i=_b c)(_:Q (.str ⟨#[c]⟩) H)
theorem En:vV X<|qz X.K:=by
 intro d K f s σ H x y v u Q I D F h k;obtain⟨p,rfl,n⟩:=Jw.e h;obtain⟨i,rfl,J,z,B,E,q⟩:=Np.e n
 cases D;obtain⟨t,rfl⟩:=F;obtain⟨e,r,b,M⟩:=I.list B;obtain⟨j,a,A,N,m,o⟩:=Rx E;obtain⟨w,l,C⟩:=r.get A;have hl:=r.length;have L:=Ke;have fin:EP X f σ Q w s:=⟨z,H,I,C,q⟩;by_cases g:0<=i
 .have c:i.toNat=j:=by
   rw[ŭ g o] at a;exact _h a
  exact item_listR b.isList g (by lia) (by rw[c];simpa using l) fin k
 .have c:(i+(e.toArray.size:_j)).toNat=j:=by
   rw[xD (by lia) m] at a;rw[bo,<-hl];exact _h a
  exact xE (x:=w) b.isList.typeIs EX.lookup
   (wpAny_getItem_list_neg (Q:=λr G=>r=w/\EP X f σ Q r G) b.isList (by lia) (by rw[_R] <;> exact hl▸m) (by lia) (by rw[c];simpa using l) ⟨U,fin⟩) k
theorem p_:vV X<|jj X.K:=by
 intro a G c s σ H x y v u Q I m A h k;obtain⟨p,rfl,e⟩:=Jw.e h;obtain⟨i,rfl,E,z,g,o,q⟩:=Np.e e
 cases m;obtain⟨t,rfl⟩:=A;obtain⟨C,r,b,K⟩:=I.tuple g;obtain⟨j,d,f,L,D,F⟩:=Rx o;obtain⟨w,n,l⟩:=r.get f;have hl:=r.length;have J:=Ke;have fin:EP X c σ Q w s:=⟨z,H,I,l,q⟩;exact xE (x:=w) b.typeIs slot_tuple_getitem.lookup
  (getItem_tuple (j:=j) (Q:=λr B=>r=w/\EP X c σ Q r B) b (by lia) (by lia) (by rw[_R,<-hl];exact d) (by simpa using n) ⟨U,fin⟩) k
theorem rC:vV X yz:=by
 intro a p w s σ H x y v u Q I e l h o;obtain⟨z,i,c,rfl,rfl,B,g,q⟩:=h;obtain⟨t,rfl⟩:=e;obtain⟨r,rfl⟩:=l;obtain⟨j,b,n,C,d,m⟩:=Rx g;have hl:z.cps.toList.length=z.length:=by simp[Mn]
 rw[hl] at b d m;have A:=Ke;exact tail_any (typeIs_str s z t) slot_str_getitem.lookup (getItem_str (c:=c) (by
  have f:decide (i < -(2 ^ 63:_j))=false:=_t (by lia);have k:decide (i ≥ 2 ^ 63)=false:=_t (by lia);rw[f,k,Bool.or_false]) (by rw[b];simpa using n) ⟨.str ⟨#[c]⟩,H,I.tok _,⟨_,U⟩,q⟩) o
theorem V7(its:_a _k)(n j:_c)(u:_k):Ψ (·.setIfInBounds j u) { cls:=.type "list",data:=.seq its.toArray n } = { cls:=.type "list",data:=.seq (its.set j u).toArray n }:=by
 simp[Ψ]
theorem Inv.lst(I:Inv X a8 σ H s)(h:H p=_b (.lst xs)) :
  ∃(its:_a _k)(n:_c),Vals xs its/\s.heap.get? p=_b { cls:=.type "list",data:=.seq its.toArray n }/\xs.length<=sizeLine:=by
 obtain⟨z,its,n,r,e⟩:=I.hok p _ h;exact⟨its,n,r,e,z⟩
theorem Inv.vI{its its':_a _k}{n':_c}{f:Þ->Þ}(I:Inv X a8 σ H s)(h:H p=_b (.lst xs))
  (d:s.heap.get? p=_b { cls:=.type "list",data:=.seq its.toArray n }) (a:f { cls:=.type "list",data:=.seq its.toArray n } = { cls:=.type "list",data:=.seq its'.toArray n' }) (r:Vals ys its') (c:ys.length<=sizeLine) (t:_c) :
  Inv X a8 σ (upd H p<|.lst ys) { s with heap:=s.heap.update p f,toks:=t }:=by
 have e:(s.heap.update p f).get? p=_b { cls:=.type "list",data:=.seq its'.toArray n' }:=by
  rw[Μ f d (by rw[a] <;> rfl),a]
 refine I.write (x:=p) (e:=p) (by rw[h];trivial) (.inl U) (λb u g q=>(_Z _ _<|_J g).trans q) ⟨_,e⟩ ?_;exact⟨c,its',n',r,e⟩
inductive oH(o:V)(i:V)(v:V)(H:Hp)(Q:Hp->Prop):Prop
|mk(p xs k j:_)(_:o=.ref p)(_:i=.int k)(_:H p=_b (.lst xs))(_:oA xs.length k=_b j)(_:Q (upd H p (.lst (xs.set j v))))
theorem set_list:AAa X oH:=by
 intro x s σ H o i v D E u Q I z y C h;obtain⟨p,w,k,j,rfl,rfl,f,B,q⟩:=h
 cases z;obtain⟨t,rfl⟩:=y;obtain⟨a,n,r,c,A⟩:=I.lst f;obtain⟨b,G,m,e⟩:=X8 B;have hl:=r.length;have F:=Ke;have l:Inv X x σ (upd H p<|.lst<|w.set j v) { s with heap:=s.heap.update p (Ψ (·.setIfInBounds j u)) } :=
  I.vI f c (V7 a n j u) (r.set C j) (by rw[As];exact A) s.toks
 by_cases g:0<=k
 .have d:k.toNat=j:=by
   rw[ŭ g e] at b;exact _h b
  exact W.ki_setAt c g (by lia) (by rw[bo,<-hl];exact e)<|by rw[d];exact⟨_,l,q⟩
 .have d:(k+(a.toArray.size:_j)).toNat=j:=by
   rw[xD (by lia) m] at b;rw[bo,<-hl];exact _h b
  exact W.ki_setBack c (by lia) (by rw[bo,<-hl];exact m) (by lia)<|by rw[d];exact⟨_,l,q⟩
theorem RC(lo hi:_r _j)(n:_c):(sliceBounds lo hi _o n).1=((HT.Ex n 0 lo:_c):_j)/\(sliceBounds lo hi _o n).2.1=((HT.Ex n n hi:_c):_j)/\(sliceBounds lo hi _o n).2.2=1:=by
 refine⟨?_,?_,U⟩
 .cases lo with
  |none=>simp[sliceBounds,HT.Ex]
  |some i =>
   simp only[sliceBounds,HT.Ex,vS,show (1:_j) > 0 by decide,ê];by_cases h:i<0
   .simp only[h,ê] <;> lia
   .simp only[h,å] <;> lia
 .cases hi with
  |none=>simp[sliceBounds,HT.Ex]
  |some i =>
   simp only[sliceBounds,HT.Ex,vS,show (1:_j) > 0 by decide,ê];by_cases h:i<0
   .simp only[h,ê] <;> lia
   .simp only[h,å] <;> lia
theorem P_(its:_a _k)(lo hi:_r _j):slicePick its.toArray lo hi _o=((its.drop<|HT.Ex its.length 0 lo).take<|HT.Ex its.length its.length hi - HT.Ex its.length 0 lo).toArray:=by
 obtain⟨a,c,b⟩:=RC lo hi its.toArray.size;unfold slicePick;rw[a,c,b];simp only[sliceRange_one,pick_run,_R] <;> rfl
inductive AAV(K:_q)(x:V)(lo:_r _j)(hi:_r _j)(H:Hp)(Q:VK):Prop
|mk(a xs:_)(_:x=.ref a)(_:Dd K H a xs)(_:∀p,H p=_o->Q (.ref p) (upd H p (.lst (FQ xs lo hi))))
theorem Lk:SlR X<|AAV X.K:=by
 intro t s σ H x v p w lo e y Q I i n g l h;obtain⟨a,c,rfl,j,q⟩:=h
 cases i;obtain⟨m,r,f,k⟩:=I.list j;have d:=r.length;refine⟨"list",_,EX.lookup,f.isList.typeIs,?_⟩;refine wpAny_getItem_list_slice f.isList n g l .none (by simp) ?_<|by rw[_R] <;> exact d▸k
 rw[P_,<-d];refine⟨.ref s.heap.objs.size,_,I.laid (t':=s.toks) (o:=.lst<|FQ c lo e) (λb u q=>_f _ q) (al _) ?_,U,q _<|I.hok.fresh<|al _⟩;exact⟨cq (M_ c lo e) k,_,0,(r.drop<|HT.Ex c.length 0 lo).take<|HT.Ex c.length c.length e - HT.Ex c.length 0 lo,_A _ U⟩
def GP:V->_O
 |.non=>_g
 |.bl _=>_g
 |.int _=>_g
 |.str _=>_g
 |_=>_p
noncomputable def U7:V->V->_O
 |.non,.non=>_g
 |.bl a,.bl b=>a == b
 |.bl a,.int b=>(if a then 1 else 0) == b
 |.int a,.bl b=>a == (if b then 1 else 0)
 |.int a,.int b=>a == b
 |.str a,.str b=>a == b
 |_,_=>_p
theorem aX{y x:V}{v:_k}(f:RelV y u)(c:RelV x v)(g:GP y=_g)(e:GP x=_g):SeqAt.EqAt A s u v<|U7 y x:=by
 cases y with
 |non =>
  cases f
  cases x with
  |non=>cases c;exact Ox _
  |bl b=>cases c;exact OB b
  |int b=>obtain⟨t,rfl⟩:=c;exact Ŝ b t
  |str b=>obtain⟨t,rfl⟩:=c;exact ŝ b t
  |_=>exact _z (show _p=_g from e) _Q
 |bl a =>
  cases f
  cases x with
  |non=>cases c;exact OF a
  |bl b=>cases c;exact OK a b
  |int b=>obtain⟨t,rfl⟩:=c;exact ON a b t
  |str b=>obtain⟨t,rfl⟩:=c;exact OW a b t
  |_=>exact _z (show _p=_g from e) _Q
 |int a =>
  obtain⟨d,rfl⟩:=f
  cases x with
  |non=>cases c;exact Ś a d
  |bl b=>cases c;exact OY a d b
  |int b=>obtain⟨t,rfl⟩:=c;exact O1 a d b t
  |str b=>obtain⟨t,rfl⟩:=c;exact ŧ a d b t
  |_=>exact _z (show _p=_g from e) _Q
 |str a =>
  obtain⟨d,rfl⟩:=f
  cases x with
  |non=>cases c;exact ś a d
  |bl b=>cases c;exact Pc a d b
  |int b=>obtain⟨t,rfl⟩:=c;exact Ũ a d b t
  |str b=>obtain⟨t,rfl⟩:=c;exact Pm a d b t
  |_=>exact _z (show _p=_g from e) _Q
 |_=>exact _z (show _p=_g from g) _Q
noncomputable def Vv(x:V)(u:_k):Bool:=match u with
 |.none=>U7 .non x
 |.bool b=>U7 (.bl b) x
 |.int i _=>U7 (.int i) x
 |.str z _=>U7 (.str z) x
 |_=>_p
theorem eX{x y:V}(r:RelV y u)(f:GP y=_g):Vv x u=U7 y x:=by
 cases y with
 |non=>cases r;rfl
 |bl b=>cases r;rfl
 |int i=>obtain⟨t,rfl⟩:=r;rfl
 |str z=>obtain⟨t,rfl⟩:=r;rfl
 |_=>exact _z (show _p=_g from f) _Q
theorem K8{x:V}:∀{xs:_a V}{us:_a _k},Vals xs us->xs.all GP=_g->us.any (Vv x)=xs.any λy=>U7 y x
 |_,_,.nil,_=>rfl
 |y::xs,u::us,.cons r t,f=>by
  rw[Ů,eM] at f;rw[mI,mI,eX r f.1,K8 t f.2]
theorem JZ{x:V}{v:_k}(b:RelV x v)(c:GP x=_g):∀{xs:_a V}{us:_a _k},Vals xs us->xs.all GP=_g->∀u∈us,SeqAt.EqAt A s u v<|Vv x u
 |_,_,.nil,_=>λu a=>by cases a
 |y::xs,u::us,.cons r t,f=>λd a=>by
  rw[Ů,eM] at f;rcases ce.mp a with rfl | a
  .rw[eX r f.1];exact aX r b f.1 c
  .exact JZ b c t f.2 d a
def inV(x:V)(xs:_a V):Bool:=xs.any λy=>U7 y x
inductive vg(K:_q)(neg:_O)(x:V)(p:_d)(H:Hp)(Q:VK):Prop
|mk(xs:_)(_:Dd K H p xs \/ JD K H p xs)(_:GP x=_g)(_:xs.all GP=_g)(_:Q (.bl (if neg then !inV x xs else inV x xs)) H)
abbrev rIn(K:_q)(neg:_O)(x y:V)(H:Hp)(Q:VK):Prop:=Jw (λp H=>vg K neg x p H Q) y H
theorem Qp:HW X (compareOp .In)<|rIn X.K false:=by
 intro k s σ H x y v u Q I e g h;obtain⟨p,rfl,j,b,f,fs,q⟩:=Jw.e h
 cases g;rcases b with b | b
 .obtain⟨a,r,d,i⟩:=I.list b;refine SeqAt.in_listAt (Vv x) d.isList (λw c=>JZ e f r fs w<|by simpa using c) ⟨.bl _,H,I,U,?_⟩;rw[show a.toArray.any (Vv x)=a.any (Vv x) by simp,K8 r fs];exact q
 .obtain⟨a,r,d,i⟩:=I.tuple b;refine SeqAt.in_tupleAt (Vv x) d (λw c=>JZ e f r fs w<|by simpa using c) ⟨.bl _,H,I,U,?_⟩;rw[show a.toArray.any (Vv x)=a.any (Vv x) by simp,K8 r fs];exact q
theorem RK:HW X (compareOp .NotIn)<|rIn X.K true:=by
 intro k s σ H x y v u Q I e g h;obtain⟨p,rfl,j,b,f,fs,q⟩:=Jw.e h
 cases g;rcases b with b | b
 .obtain⟨a,r,d,i⟩:=I.list b;refine SeqAt.notIn_listAt (Vv x) d.isList (λw c=>JZ e f r fs w<|by simpa using c) ⟨.bl _,H,I,U,?_⟩;rw[show a.toArray.any (Vv x)=a.any (Vv x) by simp,K8 r fs];exact q
 .obtain⟨a,r,d,i⟩:=I.tuple b;refine SeqAt.notIn_tupleAt (Vv x) d (λw c=>JZ e f r fs w<|by simpa using c) ⟨.bl _,H,I,U,?_⟩;rw[show a.toArray.any (Vv x)=a.any (Vv x) by simp,K8 r fs];exact q
theorem BL:Fw X (.builtin "len") (λxs H Q=>∃p ys,xs=[.ref p]/\(Dd X.K H p ys \/ JD X.K H p ys)/\Q (.int ys.length) H):=by
 intro j s σ H xs i Q I r h;obtain⟨p,ys,rfl,b,q⟩:=h;obtain⟨u,rfl,f⟩:=vals1 r
 cases f;have k:=Ke;rcases b with b | b
 .obtain⟨e,d,c,g⟩:=I.list b;have a:=d.length;exact Calls.call_len_list c.isList (by simp only[_R] <;> lia) ⟨.int ys.length,H,I.tok _,⟨s.toks+1,by rw[_R,a]⟩,q⟩
 .obtain⟨e,d,c,g⟩:=I.tuple b;have a:=d.length;exact len_tuple c (by simp only[_R] <;> lia) ⟨.int ys.length,H,I.tok _,⟨s.toks+1,by rw[_R,a]⟩,q⟩
theorem MF:Fw X (.builtin "len") (λxs H Q=>∃z,xs=[.str z]/\z.length<=sizeLine/\Q (.int z.length) H):=by
 intro d s σ H xs c Q I r h;obtain⟨z,rfl,b,q⟩:=h;obtain⟨u,rfl,t,rfl⟩:=vals1 r;have a:=Ke;exact len_str (by lia) ⟨.int z.length,H,I.tok _,⟨_,U⟩,q⟩
theorem Ec:Fw X (.type "list") (λxs H Q=>∃p ys,xs=[.ref p]/\(Dd X.K H p ys \/ JD X.K H p ys)/\∀l,H l=_o->Q (.ref l) (upd H l<|.lst ys)):=by
 intro y s σ H xs A Q I r h;obtain⟨p,ys,rfl,i,q⟩:=h;obtain⟨u,rfl,z⟩:=vals1 r
 cases z;have fin:∀(a:_a _k),Vals ys a->ys.length<=sizeLine->∀(c:χ)(f:_c),(∀b x,s.heap.get? b=_b x->c.get? b=_b x) ->
   c.get? s.heap.objs.size=_b { cls:=.type "list",dict:=_o,data:=.seq a.toArray f,slots:=#[] }->EP X y σ Q (.ref s.heap.objs.size) { s with heap:=c }:=λa d k c f g e =>
  ⟨.ref s.heap.objs.size,_,I.laid (t':=s.toks) g (Η _) (show CG X.prog X.w _ c _ (.lst ys) from ⟨k,a,f,d,e⟩),U,q _<|I.hok.fresh<|Η _⟩
 rcases i with i | i
 .obtain⟨a,d,m,k⟩:=I.list i;have j:=d.length;obtain⟨o,v,w,n,t⟩:=m.isList;exact Po p (.inl U) v w t (λc f g e=>fin a d k c f g e)<|by simp only[_R] <;> exact j▸k
 .obtain⟨a,d,m,k⟩:=I.tuple i;have j:=d.length;obtain⟨o,v,w,n,t⟩:=m;exact Po p (.inr U) v w t (λc f g e=>fin a d k c f g e)<|by simp only[_R] <;> exact j▸k
theorem Pu:Fw X (.type "tuple") (λxs H Q=>∃p ys,xs=[.ref p]/\((Dd X.K H p ys/\∀l,H l=_o->Q (.ref l) (upd H l<|.tup ys)) \/ (JD X.K H p ys/\Q (.ref p) H))):=by
 intro i s σ H xs w Q I r h;obtain⟨p,ys,rfl,h⟩:=h;obtain⟨u,rfl,t⟩:=vals1 r
 cases t;rcases h with⟨g,q⟩ | ⟨g,q⟩
 .obtain⟨a,f,d,k⟩:=I.list g;have j:=f.length;refine call_tuple_list d.isList (λc n=>?_)<|by simp only[_R] <;> exact j▸k
  have m:Inv X i σ H { s with heap:=c }:=I.kept (t':=s.toks) n;have v:Inv X i σ (upd H c.objs.size<|.tup ys) { s with heap:=c.push { cls:=.type "tuple",data:=.seq a.toArray } } :=
   m.laid (t':=s.toks) (λb o e=>_f _ e) (Η _) (show CG X.prog X.w _ _ _ (.tup ys) from ⟨k,a,f,IsTup.new _ _⟩)
  exact⟨.ref c.objs.size,_,v,U,q _<|m.hok.fresh<|al _⟩
 .obtain⟨a,f,d,k⟩:=I.tuple g;exact call_tuple_same d ⟨.ref p,H,I,U,q⟩
def tyV(K:_q)(T:ã)(x:V)(H:Hp):Prop:=match x with
 |.str _=>T = "str"
 |.int _=>T = "int"
 |.ref p=>(T = "list" /\ ∃xs,Dd K H p xs) \/ (T = "tuple" /\ ∃o,K.lookup p=_b o/\o.cls=.type "tuple" /\ o.dict=_o) \/
   (T = "dict" /\ ((∃kvs,H p=_b (.dK kvs)) \/ ∃kvs,H p=_b (.dT kvs))) \/ (T = "set" /\ ∃S n,H p=_b (.set S n))
 |_=>Α
theorem aa{T:ã}{x:V}{v:_k}(I:Inv X a8 σ H s)(r:RelV x v)(f:tyV X.K T x H) :
  s.TypeIs v T/\∀a,v=.ref a->∃ob,s.heap.get? a=_b ob/\ob.dict=none:=by
 cases x with
 |str z =>
  obtain⟨t,rfl⟩:=r
  cases (show T = "str" from f);exact⟨typeIs_str s z t,λ_ e=>nomatch e⟩
 |int i =>
  obtain⟨t,rfl⟩:=r
  cases (show T = "int" from f);exact⟨typeIs_int s i t,λ_ e=>nomatch e⟩
 |ref p =>
  cases r;rcases f with⟨rfl,u,m⟩ | ⟨rfl,o,b,l,g⟩ | ⟨rfl,b⟩ | ⟨rfl,S,n,b⟩
  .obtain⟨q,_,k,_⟩:=I.list m;refine⟨k.isList.typeIs,λa e=>?_⟩
   cases e;obtain⟨o,n,e,c,g,_⟩:=k;exact⟨o,e,g⟩
  .refine⟨⟨o,I.Ig p o b,l⟩,λa e=>?_⟩
   cases e;exact⟨o,I.Ig _ o b,g⟩
  .have z:∃o,s.heap.get? p=_b o/\o.ExactDict:=by
    rcases b with⟨h,b⟩ | ⟨h,b⟩
    .obtain⟨_,_,_,_,o,_,_,e,d,_⟩:=I.hok p _ b;exact⟨o,e,d⟩
    .obtain⟨_,_,_,_,o,_,_,e,d,_⟩:=I.hok p _ b;exact⟨o,e,d⟩
   obtain⟨o,e,d⟩:=z;refine⟨⟨o,e,d.1⟩,λa j=>?_⟩
   cases j;exact⟨o,e,d.2.1⟩
  .obtain⟨o,_,_,_,e,d,_⟩:=I.hok p _ b;refine⟨⟨o,e,d.1⟩,λa j=>?_⟩
   cases j;exact⟨o,e,d.2.1⟩
 |_=>exact ς f
abbrev tBM0(K:_q)(T:ã)(r:V->_a V->Hp->VK->Prop)(to:TE):TE:=λσ H Q=>to σ H λx H1=>tyV K T x H1/\r x [] H1 Q
abbrev tBM(K:_q)(T:ã)(r:V->_a V->Hp->VK->Prop)(to:TE)(t:TA):TE:=λσ H Q=>to σ H λx H1=>tyV K T x H1/\t σ H1 λxs H2=>r x xs H2 Q
variable{o e:Expr}{to:TE}{t:TA}{name:_m}{k6:ī}{T id:ã}{r:V->_a V->Hp->VK->Prop}
theorem V2(f:PlainAttrs T)(b:Slot T name id)(l:typeOf (.builtin id)=pure (.type "method_descriptor"))(q:MtR X id r)(t:PE X o to)
  (a:attributeBase o name X.env (eval o X.env)=eval o X.env:=by rfl)(k:(i5.endLine == k6.line)=true:=by rfl):PE X (.Call (.Attribute o name i5) [] [] k6)<|tBM0 X.K T r to:=by
 intro c s σ H Q I h;refine wa a k<|CN (t c s σ H _ I h) λv n m=>?_
 obtain⟨x,j,d,e,u,i⟩:=m;obtain⟨g,p⟩:=aa d e u;exact⟨T,id,f,b,l,g,p,Β U<|PySem.evalArgs_none<|q c n σ j x [] v [] Q d e .nil i⟩
theorem GR(j:PlainAttrs T)(c:Slot T name id)(A:typeOf (.builtin id)=pure (.type "method_descriptor"))(J:MtR X id r)(M:PE X o to)(u:PA X (e::es) t)
  (b:attributeBase o name X.env (eval o X.env)=eval o X.env:=by rfl)
  (D:((backTo k6<|starEach (e::es) X.env).all (λx=>!x.1) && (backToKw k6<|keywordEach [] X.env).all (λx=>x.1.isSome)
   && decide ((e::es).length+([]:_a Ŷ).length+(if ([]:_a Ŷ).isEmpty then 0 else 1)<30))=true:=by rfl)
  (z:(i5.endLine == k6.line)=true:=by rfl) (E:starEach (e::es) X.env=(_p,eval e X.env)::starEach es X.env:=by rfl) (a:(backTo k6<|starEach es X.env).any (·.1)=false:=by rfl) :
  PE X (.Call (.Attribute o name i5) (e::es) [] k6) (tBM X.K T r to t):=by
 intro d s σ H Q I h;refine wpAny_Call_method_late b D z U<|CN (M d s σ H _ I h) λv C B=>?_
 obtain⟨x,y,f,i,p,w⟩:=B;obtain⟨k,G⟩:=aa f i p;refine⟨T,id,j,c,A,k,G,?_⟩;have g:=u k6 d C σ y _ f w;rw[E] at g |-;refine Β (by show (_p || (backTo k6<|starEach es X.env).any (·.1))=_p;rw[a] <;> rfl)<|Ñ ?_
 exact CN g λm l ⟨q,L,F,n,K⟩=>J d l σ L x q v m Q F i n K
end
def MtM(X:Cx)(id:ã)(r:V->_a V->Hp->VK->Prop):Prop :=
 ∀(a8:_a<|_d × Þ)(s:_C)(σ:St)(H:Hp)(x:V)(xs:_a V)(v:_k)(us:_a _k)(Q:VK),Inv X a8 σ H s->RelV x v->Vals xs us->r x xs H Q ->
  wpAny (_D X.prog X.w) X.A (call (.builtin id)<|v::us) (EP X a8 σ Q) X.xe s
theorem Vals.one:∀{x:V}{us:_a _k},Vals [x] us->∃u,us=[u]/\RelV x u:=λh=>by cases h with | cons r t=>cases t;exact⟨_,U,r⟩
theorem Vals.two:∀{x y:V}{us:_a _k},Vals [x,y] us->∃u v,us=[u,v]/\RelV x u/\RelV y v:=λh=>by cases h with | cons r t=>cases t with | cons q t=>cases t;exact⟨_,_,U,r,q⟩
theorem Vals.zero:∀{us:_a _k},Vals [] us->us=[]
 |_,.nil=>rfl
theorem Vals.dropLast{us:_a _k}(h:Vals xs us):Vals xs.dropLast us.dropLast:=by
 induction h with
 |nil=>exact .nil
 |cons r t a =>
  cases t with
  |nil=>exact .nil
  |cons q b=>exact .cons r a
theorem Vals.eraseIdx:∀{xs:_a V}{us:_a _k}(i:_c),Vals xs us->Vals (xs.eraseIdx i) (us.eraseIdx i)
 |_,_,_,.nil=>.nil
 |_,_,0,.cons _ t=>t
 |_,_,i+1,.cons r t=>.cons r<|Vals.eraseIdx i t
theorem Wg{α:Type}(l:_a α):l.eraseIdx (l.length - 1)=l.dropLast:=by
 induction l with
 |nil=>rfl
 |cons a r c =>
  cases r with
  |nil=>rfl
  |cons b r =>
   have e:(a::b::r).length - 1=((b::r).length - 1)+1:=by
    have d:(a::b::r).length=r.length+2:=rfl;have f:(b::r).length=r.length+1:=rfl;lia
   rw[e,List.eraseIdx_cons_succ,c]
   all_goals rfl
theorem QR{α:Type}:∀(l:_a α)(i:_c),(l.eraseIdx i).length<=l.length
 |[],_=>al _
 |_::_,0=>kA _
 |_::r,i+1=>md<|QR r i
section
variable{l:_d}{zs:_a V}
theorem Inv.jU{its its':_a _k}{f:_E _k->_E _k}{t':_c}(I:Inv X a8 σ H s)(d:H l=_b (.lst xs))
  (e:s.heap.get? l=_b { cls:=.type "list",data:=.seq its.toArray n }) (c:f its.toArray=its'.toArray) (g:Vals ys its') (b:ys.length<=sizeLine) :
  Inv X a8 σ (upd H l<|.lst ys) { s with heap:=s.heap.update l<|Ψ f,toks:=t' }:=by
 have q:=PySem.IsL.update e f;rw[c] at q;refine I.write (x:=l) (e:=l) (by rw[d];exact trivial) (.inl U) (λi u h a=>(_Z s.heap (Ψ f)<|_J h).trans a) ⟨_,q⟩ ?_;exact⟨b,its',_,g,q⟩
theorem Inv.xV{its:_a _k}{t':_c}(I:Inv X a8 σ H s)(b:Vals ys its)(a:ys.length<=sizeLine) :
  Inv X a8 σ (upd H s.heap.objs.size<|.lst ys) { s with heap:=s.heap.push { cls:=.type "list",data:=.seq its.toArray },toks:=t' } :=
 I.laid (λ_ _ q=>_f _ q) (al _) ⟨a,its,0,b,_A _ U⟩
theorem Inv.fresh(I:Inv X a8 σ H s):H s.heap.objs.size=none:=I.hok.fresh<|al _
theorem Inv.Vh(I:Inv X a8 σ H s)(a:H l=_b (.lst xs)):xs.length<=sizeLine/\∃(its:_a _k)(n:_c),Vals xs its/\xs.length=its.length/\s.heap.get? l=_b { cls:=.type "list",data:=.seq its.toArray n }:=by
 obtain⟨z,its,n,r,e⟩:=I.hok l _ a;exact⟨z,its,n,r,r.length,e⟩
theorem Zn(h:n<=sizeLine):þ n=false:=by
 unfold þ;exact _t<|Tm h
end
inductive Ux(l:_d)(y:V)(H:Hp)(Q:VK):Prop
|mk(xs:_)(_:H l=_b (.lst xs))(_:xs.length<sizeLine)(_:Q .non (upd H l (.lst (xs++[y]))))
abbrev iM(x:V)(vs:_a V)(H:Hp)(Q:VK):Prop:=Jw (λl=>asV (λy H=>Ux l y H Q) vs) x H
theorem C_:MtM X "list.append" iM:=by
 intro m s σ H x k v i Q I c d h;obtain⟨l,rfl,f⟩:=Jw.e h;obtain⟨y,rfl,j,b,o,q⟩:=asV.e f
 cases c;obtain⟨u,rfl,g⟩:=d.one;obtain⟨z,a,n,r,hl,e⟩:=I.Vh b;refine ſ F.slot_list_append ⟨_,e,U⟩ F.entry_list_append (F.args_list_append_2 _ _) (PySem.list_append l a.toArray n u<|by rw[bo];exact hl▸z) ⟨e,?_⟩;refine⟨.non,_,I.jU (its':=a++[u]) b e (by simp) (r.append<|.cons g .nil) ?_,U,q⟩;rw[am,ax];exact o
inductive YH(x:V)(vs:_a V)(H:Hp)(Q:VK):Prop
|mk(l b xs zs:_)(_:x=.ref l)(_:vs=[.ref b])(_:H l=_b (.lst xs))(_:H b=_b (.lst zs))(_:xs.length+zs.length<=sizeLine)(_:Q .non (upd H l (.lst (xs++zs))))
theorem Yk:MtM X "list.extend" YH:=by
 intro B s σ H x G v y Q I m p h;obtain⟨l,b,A,E,rfl,rfl,g,i,C,q⟩:=h
 cases m;obtain⟨u,rfl,j⟩:=p.one
 cases j;obtain⟨z,a,n,r,hl,e⟩:=I.Vh g;obtain⟨D,d,k,o,t,w⟩:=I.Vh i;have f:a.toArray.size+d.toArray.size<=sizeLine:=by rw[bo,bo];lia
 have c:¬ (!a.toArray.isEmpty && þ (a.toArray.size+d.toArray.size))=true:=by
  rw[Zn f,Ă];exact eI
 refine ſ F.slot_list_extend ⟨_,e,U⟩ F.entry_list_extend (F.args_list_extend_2 _ _)
  (AutoSeq1.list_extend_list_list_0 l a.toArray n b d.toArray k c (by rw[bo];exact Ty f)<|rx f (by decide)) ⟨e,w,?_⟩
 refine⟨.non,_,I.jU (its':=a++d) g e (by simp) (r.append o) ?_,U,q⟩;rw[am];exact C
inductive xJ(x:V)(vs:_a V)(H:Hp)(Q:VK):Prop
|mk(l xs y:_)(_:x=.ref l)(_:vs=[])(_:H l=_b (.lst xs))(_:xs[xs.length - 1]? = _b y)(_:Q y (upd H l (.lst xs.dropLast)))
theorem sW:MtM X "list.pop" xJ:=by
 intro t s σ H x p v m Q I g i h;obtain⟨l,o,y,rfl,rfl,d,f,q⟩:=h
 cases g;have c:=i.zero;subst c;obtain⟨z,a,n,r,hl,e⟩:=I.Vh d;obtain⟨u,j,k⟩:=r.get f;have b:a.toArray[a.toArray.size - 1]? = _b u:=by
  show a.toArray[a.length - 1]? = _b u;rw[<-_x,<-hl];exact j
 refine ſ E7 ⟨_,e,U⟩ C' (F.args_list_pop_1 _) (MeetsSeq.list_pop_last l a.toArray n u b<|by rw[bo];exact hl▸z) ⟨e,?_⟩;refine⟨y,_,I.jU (its':=a.dropLast) d e ?_ r.dropLast ?_,k,q⟩
 .show a.toArray.eraseIdxIfInBounds (a.toArray.size - 1)=a.dropLast.toArray;rw[bo,kP,Wg]
 .rw[List.length_dropLast];lia
inductive dX(x:V)(vs:_a V)(H:Hp)(Q:VK):Prop
 | mk(l xs i k y:_):x=.ref l->vs=[.int i]->H l=_b (.lst xs)->-(2 ^ 63)<=i->i<2 ^ 63->seqIndex? i xs.length=_b k->xs[k]? = _b y->Q y (upd H l (.lst (xs.eraseIdx k)))->dX x vs H Q
theorem dD:MtM X "list.pop" dX:=by
 intro E s σ H x D v C Q I m o h;obtain⟨l,f,i,k,y,rfl,rfl,b,c,p,B,j,q⟩:=h
 cases m;obtain⟨u,rfl,A⟩:=o.one;obtain⟨t,rfl⟩:=A;obtain⟨z,a,n,r,hl,e⟩:=I.Vh b;obtain⟨w,g,d⟩:=r.get j;refine ſ E7 ⟨_,e,U⟩ C' (F.args_list_pop_2 _ _)
  (MeetsSeq.list_pop_at l a.toArray n i t k w (fitsIndex_both c p) (by rw[bo,<-hl];exact B) (by rw[<-_x];exact g)<|by rw[bo];exact hl▸z) ⟨e,?_⟩
 refine⟨y,_,I.jU (its':=a.eraseIdx k) b e ?_ (r.eraseIdx k) ?_,d,q⟩
 .show a.toArray.eraseIdxIfInBounds k=(a.eraseIdx k).toArray;rw[kP]
 .have:=QR f k;exact rx this z
inductive vJ(x:V)(y:V)(H:Hp)(Q:VK):Prop
|mk(l b xs zs:_)(_:x=.ref l)(_:y=.ref b)(_:H l=_b (.lst xs))(_:H b=_b (.lst zs))(_:xs.length+zs.length<=sizeLine)(_:∀p,H p=_o->Q (.ref p) (upd H p (.lst (xs++zs))))
theorem Rt:HW X (binaryOp .Add) vJ:=by
 intro w s σ H x y v u Q I g i h;obtain⟨l,b,t,p,rfl,rfl,m,d,B,q⟩:=h
 cases g
 cases i;obtain⟨z,a,n,r,hl,e⟩:=I.Vh m;obtain⟨C,c,A,f,j,o⟩:=I.Vh d;refine PySem.P.add_list e o ?_<|by rw[bo,bo];lia
 have k:a.toArray++c.toArray=(a++c).toArray:=by simp
 rw[k];exact⟨.ref _,_,I.xV (t':=s.toks) (r.append f)<|by rw[am];exact B,U,q _ I.fresh⟩
end L2
namespace Att
open PySem PySem.W PySem.Calls PyProof.Rows
theorem NZ{P:Đ}:∀(ns:_a _j)(vs:_a _k),WellAll P h vs (ns.map WData.int)->ÿ vs ns:=by
 intro ns
 induction ns with
 |nil =>
  intro vs w;rw[nS] at w
  cases w;exact .nil
 |cons n ns c =>
  intro vs w;rw[ee] at w
  cases w with
  |cons a b =>
   cases a;exact .cons _ _<|c _ b
theorem Yi{l:Se}(t:l.most=_b n){P:Đ}{args:_a WData}{i:_a _k}
  (k:l.row.toRowW.claim.pre args=_g) (f:WellAll P h i args) :
  ∃a vs ns,i=[_K a]/\args=[WData.list (ns.map WData.int)]/\h.get? a=_b { cls:=.type "list",data:=.seq vs.toArray }/\ÿ vs ns/\ns.length<=n:=by
 have g:WShape.hasAll [] args [.list .int]=true:=(pre_splitW k).1;have j:l.pre.holds [] { args:=args }=true:=(pre_splitW k).2;obtain⟨d,r,rfl,p,u⟩:=hasAllW_cons g;obtain rfl:=hasAllW_nil u;obtain⟨y,rfl,v⟩:=hasW_list p;obtain⟨ns,rfl⟩:=items_int v;have b:ns.length<=n:=by
  unfold OpenLaw.pre at j;have c:(WTm.not<|.lt (.lit<|.int (n:_j))<|.len<|.arg 0).holds [] { args:=[.list (ns.map .int)] }=true:=by
   have c:=(holds_andW j).1;rw[t] at c;exact c
  have e:=condW_of c<|w_not<|w_lt w_lit<|w_len_list<|w_arg U
  rw[ah] at e;refine me λq=>?_;have x:(n:_j)<((ns.length:_c):_j):=BT.mpr q
  first
   | (rw[_i x] at e;exact _z e (by decide))
   | (simp at e;lia)
 cases f with
 |cons o s =>
  cases s
  cases o with
  |list w m=>exact⟨_,_,ns,U,U,w,NZ ns _ m,b⟩
theorem Yd(l:Se)(args:_a WData):l.row.toRowW.claim.post args (.bool _g) args=true :=
 postW_of (r:=l.row.toRowW) (X:=(_g == _g))
  (show WShape.has [] (.bool _g) .bool=_g by first | rfl | decide | simp[WShape.has,WShape.arms,WShape.armsAll])
  (show (WTm.eq .res<|.lit<|.bool _g).value [] { args:=args,res:=_b<|.bool _g,after:=args }=_b (.bool<|true == _g) from w_eq_bool (w_res U) w_lit) U
theorem Te{l:Se}{q:Γ}{u:_a _m}{t:(_m->_r _k)->χ->Prop}{s:_P->χ->Prop}{d:DefRec}
  (K:l.most=_b n)(M:d.params.defaults=[])
  (call:∀(w:_P)(i b:_C)(g k:_m->_r _k)(c:_d)(o:Þ)(j h p:_k)(a:_d)(vs:_a _k)(ns:_a _j),
   Ground q u [] t w i g k b.heap->s w b.heap ->
   b.heap.get? c=_b o->o.data=.func (docDef d.name d.params d.body d.scope j h p)->b.heap.CodeRec h d.name->g d.name=_b (.ref c) ->
   b.heap.get? a=_b { cls:=.type "list",data:=.seq vs.toArray }->ÿ vs ns->ns.length<=n->b.gens = #[] ->
   codeAny (_D l.prog w) callerA (.call (.ref c) ⟨[.ref a],[]⟩) (λr s'=>r=.ok (.ret<|.bool _g)/\OldK b.heap s'.heap/\s'.os=b.os/\ė s'.gens) b) :
  WalkO q u t s l.row.toRowW d [] (λf vs=>PySem.call f vs):=by
 intro w i b g k G Y c o j h p z kV F A L v J B args Q R O x N m S;obtain rfl:z=.none:=Dflts.none v M;obtain rfl:kV=.none:=Dflts.noKw v;obtain⟨a,vs,ns,rfl,rfl,I,H,e⟩:=Yi K O m;refine enter_call<|ö (call w i b g k c o j h p a vs ns G Y F (fd_plain A) L J I H e B) λr s' E=>?_
 obtain⟨rfl,C,P,y⟩:=E;exact⟨.inl ⟨.bool _g,.bool _g,[],U,λ_=>rfl,.bool _g,Yd l _,λ_=>⟨G2,λ_ D=>(nomatch D)⟩⟩,C,P,y⟩
end Att
namespace L2
open PySem PySem.Spec PyProof.Rows
theorem Qm:∀{vs:_a _k}{ns:_a _j},ÿ vs ns->Vals (ns.map V.int) vs
 |_,_,.nil=>.nil
 |_,_,.cons n t h=>.cons ⟨t,U⟩<|Qm h
def Only(H:Hp):Prop:=∀b,H b=_o \/ ∃o xs,H b=_b (.frz o<|.lst xs)
theorem dH{w:_P}{K:_q}{I:_m->_r _k}{CX:V1}{k:_c}{E:_d}{x:_m}{sp:Sp}{c:_C}{vs:_a _k}{ns:_a _j}
  (L:K.In c.heap)(A:c.heap.Ns mainGlobals mg)(g:c.heap.Ns builtinsNs I)(TN:∀x:_m,x≠"__name__"->I x=bootBuiltins x)(L':c.heap.NoLimit)(T:c.gens = #[])
  (D:c.heap.get? a=_b { cls:=.type "list",data:=.seq vs.toArray })(hi:ÿ vs ns)(hl:ns.length<=sizeLine)(hr:DN k callerA)
  (F:∀base:χ,K.In base->base.Ns mainGlobals mg->GJ P w K mg base CX k E fd [x] sp)(FS:∀(s:_C)(u:_k),ŏ s fd ⟨[u],[]⟩ [(x,u)])
  (tf:∀H:Hp,Only H->Dd K H a (ns.map V.int)->sp [.ref a] H (λv _=>v=.bl _g) λ_ _ _=>Α)
  (Nl:∀H e s',CX [] H c (λ_ _ _=>Α) e s'->Α) :
  codeAny (_D P w) callerA (.call (.ref E) ⟨[.ref a],[]⟩) (λr s'=>r=.ok (.ret<|.bool _g)/\OldK c.heap s'.heap/\s'.os=c.os/\ė s'.gens) c:=by
 have Q:=Qm hi;have IN:=hi.length;have j:∀H:Hp,Only H->Dd K H a (ns.map V.int)->Gg P w H c.heap->(∀b,H b≠_o->b=a)->(H a≠_o->K.lookup a=_o) ->
   codeAny (_D P w) callerA (.call (.ref E) ⟨[.ref a],[]⟩) (λr s'=>r=.ok (.ret<|.bool _g)/\OldK c.heap s'.heap/\s'.os=c.os/\ė s'.gens) c:=by
  intro H O Y p M S;have f:∀{b:_d}{o:Þ},c.heap.get? b=_b o->H b=_o->(RX c.heap H).get? b=_b o:=λe n=>cj e n;have J:∀{b:_d}{o:Þ}{C:_E DictEntry}{B:_c},c.heap.get? b=_b o->o.data=.dict C B->H b=none:=λ{b o C B} e d=>by
   cases q:H b with
   |none=>rfl
   |some u =>
    have G:b=a:=M b<|by rw[q];simp
    subst G;rw[D] at e;cases e;have d':A7 vs.toArray _=Data.dict C B:=d
    cases d'
  have i:∀{b:_d}{m:_m->_r _k},c.heap.Ns b m->(RX c.heap H).Ns b m:=λ{b m} ⟨o,C,B,e,d,r⟩=>⟨o,C,B,f e<|J e d,d,r⟩;have l:K.In<|RX c.heap H:=λb o e=>f (L b o e) (by
   cases q:H b with
   |none=>rfl
   |some u =>
    have G:b=a:=M b (by rw[q];simp);subst G;rw[S (by rw[q];simp)] at e;cases e)
  have hM:Mod K mg<|RX c.heap H:=⟨l,i A,⟨I,i g,TN⟩,let ⟨mc,h1,h2⟩:=L';⟨mc,i h1,h2⟩⟩
  have Z:V3 P w K mg (RX c.heap H) callerA [] c H:=⟨U,hM,λb o e=>j9 e,Ĝ<|ZC _ _,trivial,λb g=>_z (show b∈([]:_a _d) from g) (by simp),p,.of_eq T⟩;refine ö ((F _ l<|i A).run callerA [] c H ⟨[.ref a],[]⟩ [.ref a] [.ref a] _ _ hr Z (FS c<|.ref a) (.cons U .nil) (tf H O Y)) λr s' h=>?_
  cases r with
  |error e=>exact (Nl H e s' h).elim
  |ok fl =>
   cases fl with
   |next=>exact ς h
   |brk=>exact ς h
   |cont=>exact ς h
   |ret u =>
    obtain⟨v,H',os,y,un,JY,R,q⟩:=h;have q':v=.bl true:=q;subst q';obtain rfl:u=Ō true:=R;refine⟨U,OldK.of_keep λb o e=>?_,os,y⟩
    cases q:H b with
    |none=>exact un.keep b o e q (by intro z;exact _z (show b∈([]:_a _d) from z)<|by simp)<|by simp
    |some u =>
     rcases O b with z | ⟨X,xs,z⟩
     .rw[q] at z;cases z
     .have z2:=un.frzs b X _ z;obtain⟨N,_⟩:=p b _ z;obtain⟨e2,_⟩:=JY b _ z2;rw[e] at N;cases N;exact e2
 cases hk:K.lookup a with
 |some o =>
  have e:=L a o hk;rw[D] at e
  cases e;refine j (λ_=>_o) (λ_=>.inl U) (.inr ⟨_,vs.toArray,_,hk,U,U,U,by rw[_R,IN];exact hl,by simpa using Q⟩) (λb u z=>by have t:(_o:_r HO)=_b u:=z;cases t) (λb z=>_z U z) λz=>_z U z
 |none =>
  refine j (λb=>if b=a then _b (.frz { cls:=.type "list",data:=.seq vs.toArray } (.lst<|ns.map V.int)) else _o) (λb=>?_) (.inl<|.inr ⟨{ cls:=.type "list",data:=.seq vs.toArray },_n U⟩) (λb u z=>?_) (λb z=>?_) λ_=>hk
  .by_cases g:b=a
   .exact .inr ⟨_,_,_n g⟩
   .exact .inl<|_l g
  .by_cases g:b=a
   .have t:=(_n g).symm.trans z
    cases t;subst g;exact⟨D,by rw[ah];exact hl,vs,_,Q,D⟩
   .have t:=(_l g).symm.trans z
    cases t
  .by_cases g:b=a
   .exact g
   .exact _z (_l g) z
theorem jO{l:Da}{k:_c}{q:Γ}{L:_a _m}{B:(_m->_r _k)->χ->Prop}{j:_P->χ->Prop}{d:DefRec}{K:Đ->_q}{CX:_P->V1}{sp:_P->Sp}{x:_m}
  (M:l.most=_b n)(i:n<=sizeLine)(P:d.params.defaults=[])(p:DN k callerA)
  (D:∀(w:_P)(h:χ),j w h->(K w.params).In h)
  (F:∀(w:_P)(c:_m->_r _k)(g:_d)(h:χ),(K w.params).In h->h.Ns mainGlobals c->c d.name=_b (.ref g) ->
   ∃fd:ä,(∀(s:_C)(u:_k),ŏ s fd ⟨[u],[]⟩ [(x,u)]) /\
    ∀base:χ,(K w.params).In base->base.Ns mainGlobals c->GJ l.prog w (K w.params) c base (CX w) k g fd [x] (sp w))
  (y:∀(w:_P)(H:Hp)(a:_d)(ns:_a _j),ns.length<=n->Only H->Dd (K w.params) H a (ns.map V.int)->sp w [.ref a] H (λv _=>v=.bl _g) λ_ _ _=>Α)
  (r:∀(w:_P)(H:Hp)(s:_C)(e:_k)(s':_C),CX w [] H s (λ_ _ _=>Α) e s'->Α) :
  W.WalkO q L B j l.row.toRowW d [] (λf vs=>PySem.call f vs):=by
 refine Att.Te M P λw Q C c X g o R cd Z a vs ns G Y T S wc N J I b z=>?_;have m:=D w _ Y;obtain⟨fd,t,A⟩:=F w c g _ m G.T.g N;exact dH m G.T.g G.T.b G.T.builtins G.T.nolimit z J I (cq b i) p A t (λH O E=>y w H a ns b O E) λH e s'=>r w H C e s'
noncomputable def inClass(s:Ú)(j:_c):Stmt:=match s with
 |.ClassDef _ _ _ body _ _ _ _ _ _ _=>body.getD j<|.Pass ⟨0,0,0,0⟩
 |_=>.Pass ⟨0,0,0,0⟩
noncomputable def Dq(s:Ú):Arguments:=match s with
 |.FunctionDef _ a _ _ _ _ _ _ _ _=>a
 |_=>{ posonlyargs:=[],args:=[],vararg:=_o,kwonlyargs:=[],kw_defaults:=[],kwarg:=_o,defaults:=[] }
noncomputable def Cg(s:Ú):_a Stmt:=match s with
 |.FunctionDef _ _ b _ _ _ _ _ _ _=>b
 |_=>[]
noncomputable def Ae(s:Ú):Scope:=match s with
 |.FunctionDef _ _ _ _ _ _ sc _ _ _=>sc
 |_=>{ kind:=.function,names:=[],isGenerator:=_p,isCoroutine:=_p }
abbrev BV:V1:=λ_ _ _ _ _ _=>Α
abbrev E0:XK:=λ_ _ _=>Α
theorem J7:FZ BV X E0:=λ_ _ _ _ _ _ _ h=>h.elim
structure Zb(K:_q)(x qual:_m)(st:Ú)(f:_d)(fd:ä):Prop where
 ex:∃(oc:_k)(od:_r _d)(kV qa pm:_k)(an:_r _d)(k8 ct:_k)(tS:_E<|_r _k),
  fd=ò x qual (Dq st) (Cg st) (Ae st) .none kV qa pm an k8 ct/\K.lookup f=_b ⟨oc,od,.func fd,tS⟩/\Ĳ K k8 qual=_g
 kp:Ö K (.ref f)=_g
section
variable{w:_P}{K:_q}
theorem Zb.ok{x:_m}{st:Ú}{N:_a _m}{k:_c}{sp:Sp}(F:Zb K x qual st f fd)(S:Am N ps<|Ae st)(len:∀vs H Q E,sp vs H Q E->vs.length=ps.length)
  (i:∀(b:_k)(A:ì)(a:_a ŀ)(s:_C)(H:Hp)(vs:_a V)(Q:VK)(E:XK),DN k (A.deeper<|envOfC qual (Ae st) s.heap.objs.size f b)->sp vs H Q E ->
   ∃t,RJ (Mp BV P w K mg base N qual (Ae st) f b A a s H E).yx (Cg st) t/\t { nx:=λ_ H'=>Q .non H',rt:=Q } (start N vs) H):GJ P w K mg base BV (k+1) f fd ps sp:=by
 obtain⟨o,p,kV,n,l,r,b,j,m,rfl,d,g⟩:=F.ex;refine dO d g S len λA a s H vs Q E c e=>?_;obtain⟨t,h,q⟩:=i b A a s H vs Q E c e;exact⟨t,h.yx,q⟩
theorem Zb.DY{x:_m}{st:Ú}{N:_a _m}{k:_c}{sp:Sp}(F:Zb K x qual st f fd)(S:Am N ps<|Ae st)
  (c:∀{b:_k}{A:ì}{a:_a ŀ}{s:_C}(H:Hp)(vs:_a V)(Q:VK)(E:XK),DN k (A.deeper<|envOfC qual (Ae st) s.heap.objs.size f b)->sp vs H Q E ->
   ∃t,RJ (Mp BV P w K mg base N qual (Ae st) f b A a s H E).yx (Cg st) t/\t { nx:=λ_ H'=>Q .non H',rt:=Q } (start N vs) H)
  (len:∀vs H Q E,sp vs H Q E->vs.length=ps.length:=by intro _ _ _ _ h;cases h;subst_vars;rfl):GJ P w K mg base BV (k+1) f fd ps sp:=F.ok S len λ_ _ _ _ H vs Q E=>c H vs Q E
theorem dW{x:_m}{st:Ú}{g:_k}{h d:_r _d}{i:_E (_r _k)}{kV b e a ct:_k}(l:K.lookup f=_b ⟨g,h,.func<|ò x qual (Dq st) (Cg st) (Ae st) .none kV b e d a ct,i⟩)
  (c:Ĳ K a qual=_g)(k:Ö K (.ref f)=_g):Zb K x qual st f<|ò x qual (Dq st) (Cg st) (Ae st) .none kV b e d a ct:=⟨⟨g,h,kV,b,e,d,a,ct,i,U,l,c⟩,k⟩
end
theorem By{k:_c}(a:DN k A):A.units+1<cLine:=cc (Nat.add_le_add_left (by decide:1<=64) _) a.units
theorem Ax(h:n<=1000):n<sizeLine:=cc h<|by decide
theorem pv(i:_c){x:_m}(c:X.N[i]? = _b x:=by rfl)(d:Vis X.env.scope x:=by first | exact Or.inl rfl | exact Or.inr (Or.inl rfl) | exact Or.inr<|Or.inr rfl)(b:(x == ("__debug__" : _m))=false:=by decide)
  (a:(x == ("__classdict__" : _m))=false:=by decide):PE X (.Name x pos)<|Nf i:=tO c d b a
theorem Jz{c:_O}{A B:Prop}(h:B)(e:c=false:=by rfl):if c=_g then A else B:=by
 subst e;exact h
theorem Jx{c:_O}{A B:Prop}(h:A)(e:c=true:=by rfl):if c=_g then A else B:=by
 subst e;exact h
theorem ib{c:_O}{A B:Prop}(h:if c=_g then A else B):if c=_g then A else B:=h
theorem Cz{c:_O}{A B:Prop}(a:c=_g->A)(b:¬ c=_g->B):if c=_g then A else B:=by
 by_cases h:c=_g
 .rw[_n h];exact a h
 .rw[_l h];exact b h
theorem Xm{c A B:Prop}[š c](a:c)(h:B):if (!decide c)=_g then A else B:=by
 rw[_i a];exact Jz h
def Aj(H H':Hp):Prop:=∀b o,H b=_b o->H' b=_b o
theorem Aj.refl(H:Hp):Aj H H:=λ_ _ h=>h
theorem Aj.trans(a:Aj H H1)(b:Aj H1 H2):Aj H H2:=λc o h=>b c o<|a c o h
theorem Aj.free(e:Aj H H'){l:_d}(h:H' l=Option.none):H l=_r.none:=by
 cases q:H l with
 |none=>rfl
 |some o =>
  rw[e l o q] at h
  cases h
theorem Aj.seq{K:_q}(e:Aj H H')(h:Dd K H a xs):Dd K H' a xs:=by
 rcases h with (h | ⟨o,h⟩) | h
 .exact .inl<|.inl<|e _ _ h
 .exact .inl<|.inr ⟨o,e _ _ h⟩
 .exact .inr h
section
variable{κ:Type}[Ŧ κ]
theorem L_:∀{l:_a κ}{k:κ},l.Nodup->¬ k∈l->(l++[k]).Nodup
 |[],k,_,_=>by simp
 |a::r,k,h,b=>by
  obtain⟨c,d⟩:=fm.mp h;show (a::(r++[k])).Nodup;refine fm.mpr ⟨λm=>?_,L_ d λm=>b<|ce.mpr<|Or.inr m⟩;rcases aT.mp m with q | q
  .exact c q
  .exact b<|ce.mpr<|Or.inl (av.mp q).symm
end
section
variable{w:_P}
theorem N_{b:_d}{f:_E _k}{x:_k}(j:s.heap.IsTupleIter b a i)(k:s.heap.IsTuple a f)(l:f[i]? = _b x)
  (q:∀h',h'.IsTupleIter b a (i+1)->Å b s.heap h'->Q x { s with heap:=h' }):wpAny (_D prog w) A (θ<|.ref b) Q E s:=by
 have g:=j;obtain⟨o,e,c,d⟩:=j;obtain⟨p,h,_,n,m⟩:=k;unfold θ;refine _e<|Æ (name:=Ğ "__next__") g.typeIs Ù<|à Ù g.typeIs ů ?_<|Ţ _
 refine (show wpAny _ _ (field (.ref b) 0 >>= _) _ _ s from _e<|δ e d (x:=.ref a) U ?_);refine (show wpAny _ _ (if (_K a == _N)=_g then _ else _) _ _ s from ?_);rw[_l (by exact eI)];refine (show wpAny _ _ (field (.ref b) 1 >>= _) _ _ s from _e<|δ e d (x:=.int i 0) U ?_);refine (show wpAny _ _ (seqItems? (.ref a) >>= _) _ _ s from _e<|Ü h m ?_);simp only[zk,l];exact _e<|đ e d (by simp)<|_v ⟨x,U,_v<|q _ ⟨_,Μ _ e<|ô<|Ç d _,(Obj.cls_mapFields ..).trans c,by rw[Ç d];simp[rawInt]⟩<|í ..⟩
theorem Pq{b:_d}{f:_E _k}(h:A.handled=_o)(j:s.heap.IsTupleIter b a i)(l:s.heap.IsTuple a f)(p:f[i]? = _o)
  (q:∀h' e,Heap.ExtBut b s.heap h'->(∃o,h'.get? e=_b o/\o.cls=.type "StopIteration")->E (.ref e) { s with heap:=h' }):wpAny (_D prog w) A (θ<|.ref b) Q E s:=by
 have g:=j;obtain⟨o,e,c,d⟩:=j;obtain⟨t,k,_,n,r⟩:=l;unfold θ;refine _e<|Æ (name:=Ğ "__next__") g.typeIs Ù<|à Ù g.typeIs ů ?_<|Ţ _
 refine (show wpAny _ _ (field (.ref b) 0 >>= _) _ _ s from _e<|δ e d (x:=.ref a) U ?_);refine (show wpAny _ _ (if (_K a == _N)=_g then _ else _) _ _ s from ?_);rw[_l (by exact eI)];refine (show wpAny _ _ (field (.ref b) 1 >>= _) _ _ s from _e<|δ e d (x:=.int i 0) U ?_);refine (show wpAny _ _ (seqItems? (.ref a) >>= _) _ _ s from _e<|Ü k r ?_);simp only[zk,p];refine _e<|Ρ<|_e<|đ e d (by simp) (show wpAny _ _ (newExc (.type "StopIteration") [] >>= _) _ _ _ from _e ?_)
 simp only[newExc,newTuple];refine _e<|Δ (_e (m:=firstArgMember _ _)<|S6 (a:=_N) (by first | rfl | (simp only[firstArgMember];rfl))<|Δ ?_<|by size_fits)<|by size_fits
 simp only[raiseNew];refine _e<|wpAny_handled ?_
 first | rw[show A.in1.handled=_o from h] | rw[h]
 exact _e<|_v<|wpAny_throw<|q _ _ (((í ..).extBut.push _).push _) ⟨_,_A _ U,U⟩
theorem Yv{TI TO f g m r:_d}{k:_c}{xs ys:_E _k}{x y a b:_k}(D:ML z TI TO f g m r)
  (p:ł s.heap z TI TO .none)(hI:ú s.heap TI (.ref f)<|.ref g)(hO:ú s.heap TO a b)
  (j1:s.heap.IsTupleIter f m k)(j2:s.heap.IsTupleIter g r k)(Y:s.heap.IsTuple m xs)(t2:s.heap.IsTuple r ys)(Z:xs[k]? = _b x)(hy:ys[k]? = _b y)
  (q:∀h',ł h' z TI TO (rawInt s.heap.objs.size)->ú h' TO x y->h'.IsTupleIter f m (k+1)->h'.IsTupleIter g r (k+1)->ú h' s.heap.objs.size x y->h'.objs.size=s.heap.objs.size+1 ->
   (∀c o,c≠z->c≠TO->c≠f->c≠g->s.heap.get? c=_b o->h'.get? c=_b o)->Q (.ref s.heap.objs.size) { s with heap:=h' }) :
  wpAny (_D prog w) A (Ĩ.«zip.__next__» ⟨[.ref z],[]⟩) (λfin s'=>∃v,fin=.done (.ret v)/\Q v s') E s:=by
 refine (show wpAny _ _ (field (.ref z) 2 >>= _) _ _ _ from _e<|δ p U (x:=.bool _p) U (show wpAny _ _ (field (.ref z) 3 >>= _) _ _ _ from _e<|δ p U (x:=.ref TI) U<|_e<|Ü hI U ?_));refine (show wpAny _ _ (ψ (.ref z) >>= _) _ _ _ from _e ?_);unfold ψ;refine _e<|δ p U (x:=.none) U<|_v ?_
 simp only[ê];refine _e<|Ρ<|_e<|δ p U (x:=.ref TO) U<|_e<|î p (by simp) λT z1 i=>?_
 have W:ł T z TI TO .ellipsis:=z1;refine _e ?_;simp only[Ń,At,Ŋ,A8];refine _e<|_e<|sN (show wpAny _ _ (θ (.ref f) >>= _) _ _ _ from _e<|N_ (j1.at λo e=>i.extBut _ _ D.i1z e) (Y.at λo e=>i.extBut _ _ D.l1z e) Z λh2 n1 j=>_v ?_)
 have K:ú h2 TO a b:=j.extBut _ _ D.TOi1<|i.extBut _ _ D.TOz hO
 refine _e<|Ü K U<|_e<|AG K λh3 p3 l=>?_
 have o3:ú h3 TO x b:=p3;refine _e<|TB<|_v ?_
 refine _e (_e (sN (show wpAny _ _ (θ (.ref g) >>= _) _ _ _ from _e (N_ (j2.at λo e=>l.extBut _ _ D.TOi2.symm<|j.extBut _ _ D.i12.symm<|i.extBut _ _ D.i2z e)
  (t2.at λo e=>l.extBut _ _ D.l2TO<|j.extBut _ _ D.l2i1<|i.extBut _ _ D.l2z e) hy λV n2 t=>_v ?_))))
 have P:ú V TO x b:=t.extBut _ _ D.TOi2 o3;refine _e<|Ü P U<|_e<|AG P λd S u=>?_
 have O:ú d TO x y:=S;refine _e<|TB<|_v<|_v<|_e<|Ü O U<|_e<|MS ?_
 have I:d.objs.size=s.heap.objs.size:=by rw[u.1,t.1,l.1,j.1,i.1]
 have J:ł d z TI TO .ellipsis:=u.extBut _ _ D.TOz.symm<|t.extBut _ _ D.i2z.symm<|l.extBut _ _ D.TOz.symm<|j.extBut _ _ D.i1z.symm W
 have k5:∀c o,c≠z->c≠TO->c≠f->c≠g->s.heap.get? c=_b o->d.get? c=_b o:=λc o h B F G e=>u.extBut _ _ B<|t.extBut _ _ G<|l.extBut _ _ B<|j.extBut _ _ F<|i.extBut _ _ h e
 have m1:d.IsTupleIter f m<|k+1:=n1.at λo e=>u.extBut _ _ D.TOi1.symm<|t.extBut _ _ D.i12<|l.extBut _ _ D.TOi1.symm e
 have m2:d.IsTupleIter g r<|k+1:=n2.at λo e=>u.extBut _ _ D.TOi2.symm e
 have R:z<d.objs.size:=_B J;refine (show wpAny _ _ (ă (.ref z) (.ref d.objs.size) >>= _) _ _ _ from _e ?_);unfold ă;have y6:ł (d.push { cls:=.type "tuple",data:=.seq #[x,y] }) z TI TO .ellipsis:=_f _ J;refine _e<|î y6 (by simp) λX p7 C=>?_
 have y7:ł X z TI TO<|rawInt d.objs.size:=p7
 refine î y7 (by simp) λn p8 H=>?_;have M:ł n z TI TO<|rawInt d.objs.size:=p8
 have up:∀c o,c≠z->d.get? c=_b o->n.get? c=_b o:=λc o h e=>H.extBut _ _ h<|C.extBut _ _ h<|_f _ e
 have L:ú n d.objs.size x y:=H.extBut _ _ (iA R)<|C.extBut _ _ (iA R)<|_A _ U
 have N:n.objs.size=d.objs.size+1:=by rw[H.1,C.1,ε]
 rw[I] at M L N;refine _v ⟨_,U,?_⟩;show Q (.ref d.objs.size) _;rw[I];exact q n M (up _ _ D.TOz O) (m1.at λo e=>up _ o D.i1z e) (m2.at λo e=>up _ o D.i2z e) L N λc o h B F G e=>up c o h<|k5 c o h B F G e
theorem Zo{TI TO d h i L:_d}{k:_c}{xs:_E _k}{a b:_k}{Q:Fin->_C->Prop}(y:A.handled=_o)(D:ML z TI TO d h i L)
  (f:ł s.heap z TI TO .none)(J:ú s.heap TI (.ref d)<|.ref h)(O:ú s.heap TO a b)
  (j1:s.heap.IsTupleIter d i k)(B:s.heap.IsTuple i xs)(C:xs[k]? = _o)
  (q:∀h' e,(∀c o,c≠z->c≠TO->c≠d->c≠h->s.heap.get? c=_b o->h'.get? c=_b o)->(∃o,h'.get? e=_b o/\o.cls=.type "StopIteration")->E (.ref e) { s with heap:=h' }) :
  wpAny (_D prog w) A (Ĩ.«zip.__next__» ⟨[.ref z],[]⟩) Q E s:=by
 refine (show wpAny _ _ (field (.ref z) 2 >>= _) _ _ _ from _e<|δ f U (x:=.bool _p) U (show wpAny _ _ (field (.ref z) 3 >>= _) _ _ _ from _e<|δ f U (x:=.ref TI) U<|_e<|Ü J U ?_));refine (show wpAny _ _ (ψ (.ref z) >>= _) _ _ _ from _e ?_);unfold ψ;refine _e<|δ f U (x:=.none) U<|_v ?_
 simp only[ê];refine _e<|Ρ<|_e<|δ f U (x:=.ref TO) U<|_e<|î f (by simp) λt M j=>?_
 have v:ł t z TI TO .ellipsis:=M;refine _e ?_;simp only[Ń,At,Ŋ,A8];refine _e<|_e<|sN (show wpAny _ _ (θ (.ref d) >>= _) _ _ _ from _e<|Pq y (j1.at λo e=>j.extBut _ _ D.i1z e) (B.at λo e=>j.extBut _ _ D.l1z e) C λG x l K=>?_)
 obtain⟨I,g,r⟩:=K;have m:ł G z TI TO .ellipsis:=l _ _ D.i1z.symm v;have H:x≠z:=λu=>by subst u;rw[m] at g;cases g;simp at r
 exact î m (by simp) λN _ p=>q N x (λc o n _ F _ e=>p.extBut _ _ n<|l _ _ F<|j.extBut _ _ n e) ⟨I,p.extBut _ _ H g,r⟩
end
noncomputable abbrev zT1(h:χ)(a1:_d):Heap:=h.push { cls:=.type "tuple_iterator",data:=.fields #[.ref a1,.int 0 0] }
noncomputable abbrev zT2(h:χ)(a1 a2:_d):Heap:=(zT1 h a1).push { cls:=.type "tuple_iterator",data:=.fields #[.ref a2,.int 0 0] }
noncomputable abbrev zT3(h:χ)(a1 a2:_d):Heap:=(zT2 h a1 a2).push { cls:=.type "tuple",data:=.seq #[.ref h.objs.size,.ref (zT1 h a1).objs.size] }
noncomputable abbrev zT4(h:χ)(a1 a2:_d):Heap:=(zT3 h a1 a2).push { cls:=.type "tuple",data:=.seq #[.none,.none] }
noncomputable abbrev uZ(h:χ)(a1 a2:_d):Heap:=(zT4 h a1 a2).push { cls:=.type "zip",data:=.fields #[.none,.bool _p,.bool _p,.ref (zT2 h a1 a2).objs.size,.ref (zT3 h a1 a2).objs.size] }
theorem Zy(a b:_d)(xs ys:_E _k):Meets (Ĩ.«zip.__new__» ⟨[.type "zip",.ref a,.ref b],[]⟩) (λ_ R s=>s.heap.IsTuple a xs/\s.heap.IsTuple b ys /\
   R (.ok<|.ret<|.ref (zT4 s.heap a b).objs.size) { s with heap:=uZ s.heap a b }) :=
 .of_wp λc w A R s h=>by
  obtain⟨f,g,d,j,os⟩:=s;obtain⟨k,l,h⟩:=h;have i:=sub_zip;have m:E8 (DH ⟨f,g,d,j,os⟩) a xs:=k;have n:E8 (DH ⟨f.push { cls:=.type "tuple_iterator",data:=.fields #[.ref a,.int 0 0] },g,d,j,os⟩) b ys:=Heap.IsTuple.at l λo e=>_f _ e
  wp_walk using Ď m,Ď n
  exact⟨_,U,h⟩
section
variable{w:_P}
theorem ZF{a b:_d}{xs ys:_E _k}(p:s.heap.IsTuple a xs)(t:s.heap.IsTuple b ys)
  (q:∀h' n,n=s.heap.objs.size->ł h' (n+4) (n+2) (n+3) .none->ú h' (n+2) (.ref n) (.ref<|n+1)->ú h' (n+3) .none .none->h'.IsTupleIter n a 0->h'.IsTupleIter (n+1) b 0->h'.objs.size=n+5 ->
   (∀c o,s.heap.get? c=_b o->h'.get? c=_b o)->Q (.ref<|n+4) { s with heap:=h' }):wpAny (_D prog w) A (call (.type "zip") [.ref a,.ref b]) Q E s:=by
 refine callType_new F.called_zip (by decide) (F.typeCall_zip_2 _ _) (F.newCall_zip_2 _ _) (λg=>F.args_object_init_3 g _ _) F.entry_zip_new (Zy a b xs ys) ⟨p,t,?_⟩;have h:(zT1 s.heap a).objs.size=s.heap.objs.size+1:=ε ..;have i:(zT2 s.heap a b).objs.size=s.heap.objs.size+2:=by rw[ε,h]
 have d:(zT3 s.heap a b).objs.size=s.heap.objs.size+3:=by rw[ε,i]
 have f:(zT4 s.heap a b).objs.size=s.heap.objs.size+4:=by rw[ε,d]
 have u:(uZ s.heap a b).objs.size=s.heap.objs.size+5:=by rw[ε,f]
 have j:(uZ s.heap a b).get? (zT4 s.heap a b).objs.size=_b _:=_A _ U;have l:(uZ s.heap a b).get? (zT3 s.heap a b).objs.size=_b _:=_f _<|_A _ U
 have k:(uZ s.heap a b).get? (zT2 s.heap a b).objs.size=_b _:=_f _<|_f _<|_A _ U
 have m:(uZ s.heap a b).get? (zT1 s.heap a).objs.size=_b _:=_f _<|_f _<|_f _<|_A _ U
 have r:(uZ s.heap a b).get? s.heap.objs.size=_b _:=_f _<|_f _<|_f _<|_f _<|_A _ U
 refine (show _/\_ from ?_);rw[i,d,f] at j;rw[h,i] at k;rw[d] at l;rw[h] at m;rw[f];exact⟨⟨_,j,U⟩,q _ _ U j k l ⟨_,r,U,U⟩ ⟨_,m,U,U⟩ u λc o e=>_f _<|_f _<|_f _<|_f _<|_f _ e⟩
end
noncomputable def E_(env:ŀ):_a (_m×ø)->_a (_m×_d)->_a (_m×_d)
 |[],i9=>i9
 |(n,k)::r,i9=>if k == .free then (match env.cells.lookup n with | some a=>E_ env r ((n,a)::i9) | none=>E_ env r i9) else E_ env r i9
theorem PX{b:ŀ}(h:∀y∈scope.names,y.2=.free->∃c,b.cells.lookup y.1=_b c):closureFor scope b=pure (E_ b scope.names []):=by
 unfold closureFor;have g:∀(l:_a<|_m × ø)(f:_a<|_m × _d),(∀y∈l,y.2=.free->∃c,b.cells.lookup y.1=_b c) ->
   (forIn l f λ(x:_m×ø) (o:_a (_m×_d))=>(match x with | (name,kind)=>if (kind == ν)=_g then (do let a <-cellOf b name;pure (À<|(name,a)::o)) else pure (À o):ũ<|ForInStep<|_a<|_m×_d))=(pure (E_ b l f):ũ _):=by
  intro l
  induction l with
  |nil=>intro f _;rfl
  |cons x r p =>
   intro f hl;obtain⟨n,k⟩:=x;rw[Ŋ];unfold E_;by_cases j:(k == ν)=_g
   .obtain⟨c,q⟩:=hl (n,k) Ä<|by simpa using j
    have d:b.cells.lookup n=_b c:=q;have e:cellOf b n=pure c:=by unfold cellOf;rw[d]
    simp only[j,ê,e,d];exact p _ λy i=>hl y<|bg _ i
   .simp only[j];exact p _ λy i=>hl y<|bg _ i
 have:=g scope.names [] h;exact (congrArg (λ(m:ũ (_a (_m×_d)))=>m >>= λz=>pure z) this).trans U
theorem Jc(b:ŀ):∀(l:_a<|_m × ø)(i9:_a<|_m × _d)(y:_m)(c:_d),(E_ b l i9).lookup y=_b c->i9.lookup y=_b c \/ b.cells.lookup y=_b c
 |[],_,_,_,h=>.inl h
 |(n,k)::r,i9,y,c,h=>by
  unfold E_ at h;split at h
  .split at h
   .rename_i a f;rcases Jc b r _ y c h with z | z
    .rw[kx] at z;split at z
     .rename_i e
      cases z;have d:y=n:=by simpa using e
      subst d;exact .inr f
     .exact .inl z
    .exact .inr z
   .exact Jc b r _ y c h
  .exact Jc b r _ y c h
theorem Jg(a:ŀ):∀(l:_a<|_m × ø)(i9:_a<|_m × _d)(y:_m),(i9.lookup y).isSome=_g->((E_ a l i9).lookup y).isSome=_g
 |[],_,_,h=>h
 |(n,k)::r,i9,y,h=>by
  unfold E_;split
  .split
   .refine Jg a r _ y ?_;rw[kx];split
    .rfl
    .exact h
   .exact Jg a r _ y h
  .exact Jg a r _ y h
theorem HS(a:ŀ):∀(l:_a<|_m × ø)(i9:_a<|_m × _d)(y:_m),(y,ν)∈l->(a.cells.lookup y).isSome=_g->((E_ a l i9).lookup y).isSome=_g
 |[],_,_,h,_=>nomatch h
 |(n,k)::r,i9,y,h,b=>by
  unfold E_;rcases ce.mp h with e | h
  .obtain⟨c,d⟩:=Prod.mk.inj e;subst c;subst d;rw[_n (by decide)];split
   .refine Jg a r _ y ?_;rw[kx];simp
   .rename_i e;rw[e] at b
    cases b
  .split
   .split
    .exact HS a r _ y h b
    .exact HS a r _ y h b
   .exact HS a r _ y h b
def aW(x:_m)(N:_a _m):_a Str:=N.map λy=>if y=x then "" else y
noncomputable def Kl(X:Cx)(ns N':_a _m)(scope:Scope)(C:_d)(s₀:_C)(H₀:Hp)(fp:_a _d):Cx where
 prog:=X.prog
 w:=X.w
 K:=X.K
 mg:=X.mg
 base:=X.base
 A:=X.A
 N:=ns++N'
 s₀:=s₀
 H₀:=H₀
 env:=compEnvC scope (E_ X.env scope.names []) C X.env
 outer:=X.stack
 stack:=X.stack
 ex:=fp
 fn:=λ_=>_p
 calm:=X.calm
 pn:=[]
 xe:=λ_ _=>Α
theorem JQ(a:ŀ)(y:_m):∀names:_a<|_m×ø,
  (names.map λ(n,k)=>if (k == ν && a.scope.kind == .function && a.kindOf n == _b .cell) then (n,Ò) else (n,k)).lookup y =
   (names.lookup y).map λk=>if (k == ν && a.scope.kind == .function && a.kindOf y == _b .cell) then Ò else k
 |[]=>rfl
 |(n,k)::r=>by
  have c:=JQ a y r;rw[ee];show Á y ((if (k == ν && a.scope.kind == .function && a.kindOf n == _b .cell)=_g then (n,Ò) else (n,k))::_)=_;have b:(if (k == ν && a.scope.kind == .function && a.kindOf n == _b .cell)=_g then (n,Ò) else (n,k))=(n,if (k == ν && a.scope.kind == .function && a.kindOf n == _b .cell)=_g then Ò else k):=by split <;> rfl
  rw[b,kx,kx]
  cases hx:y == n with
  |true =>
   have e:y=n:=by simpa using hx
   subst e;rfl
  |false=>exact c
structure Ds(X:Cx)(ns N':_a _m)(scope:Scope):Prop where
 kind:scope.kind=.function
 nocell:∀y∈scope.names,y.2≠.cell
 names:∀y∈scope.names,y.2=.local->scope.names.lookup y.1=_b .local
 loc:∀y∈ns,scope.names.lookup y=_b .local
 free:∀y∈scope.names,y.2=.free->X.env.kindOf y.1=_b .cell \/ X.env.kindOf y.1=_b .free
 nd:(ns++N').Nodup
 len:N'.length=X.N.length
 sub:∀(i:_c) y k,N'[i]? = _b y->scope.names.lookup y=_b k->X.N[i]? = _b y/\k≠.local
noncomputable def gK(ns N':_a _m)(scope osc:Scope)(N:_a _m):Bool :=
 (scope.kind == .function) && scope.names.all (λy=>y.2 != .cell && (y.2 != .local || scope.names.lookup y.1 == _b .local) && (y.2 != .free || osc.names.lookup y.1 == _b .cell || osc.names.lookup y.1 == _b .free)) && ns.all (λy=>scope.names.lookup y == _b .local) &&
 decide ((ns++N').Nodup) && (N'.length == N.length) && (N'.zip N).all (λp=>scope.names.lookup p.1 == _o || scope.names.lookup p.1 != _b .local && p.1 == p.2)
theorem Z9{d:_a _m}{osc:Scope}{N:_a _m}(q:X.env.scope=osc)(m:X.N=N)(h:gK ns d scope osc N=_g):Ds X ns d scope:=by
 unfold gK at h;simp only[Θ] at h;obtain⟨⟨⟨⟨⟨o,c⟩,n⟩,p⟩,l⟩,f⟩:=h;rw[gi] at c n f;have b:∀y,X.env.kindOf y=osc.names.lookup y:=λy=>by show X.env.scope.names.lookup y=_;rw[q]
 refine⟨by simpa using o,λy a=>?_,λy a e=>?_,λy a=>by simpa using n y a,λy a e=>?_,_s p,by rw[m];simpa using l,λi y k g r=>?_⟩
 .have:=c y a;simp only[Θ,bne_iff_ne] at this;exact this.1.1
 .have:=c y a;simp only[Θ] at this;simpa [e] using this.1.2
 .have:=c y a;simp only[Θ] at this;rw[b];simpa [e] using this.2
 .have hl:d.length=N.length:=by simpa using l
  have s:=(ag.mp g).1;obtain⟨z,j⟩:∃z,N[i]? = _b z:=⟨_,af<|wT s hl⟩;have:=f (y,z)<|ai (i:=i)<|by rw[List.getElem?_zip_eq_some];exact⟨g,j⟩
  simp only[r] at this;simp at this;exact⟨by rw[m,j,this.2],this.1⟩
section
variable{N':_a _m}
theorem UL{tk:_c}{m:_m->_r _k}(I:Inv X a8 σ H s)(S:Ds X ns N' scope)(L:∀b∈fp,Lp X a8 H b)(J:∀b∈fp,b<s.heap.objs.size)(F:s.heap.objs.size<=C)(hn:h'.Ns C m)
  (Q:∀b o,s.heap.get? b=_b o->h'.get? b=_b o):Inv (Kl X ns N' scope C s H fp) [] (ns.map (λ_=>_o)++σ) H { s with heap:=h',toks:=tk }:=by
 have w:∀y c,(E_ X.env scope.names []).lookup y=_b c->X.env.cells.lookup y=_b c:=λy c e=>by
  rcases Jc X.env scope.names [] y c e with z | z
  .cases z
  .exact z
 have f:∀c v,s.heap.IsCell c v->h'.IsCell c v:=λc v ⟨o,ho,Z⟩=>⟨o,Q c o ho,Z⟩;have look:∀y,(Kl X ns N' scope C s H fp).env.scope.names.lookup y=(scope.names.lookup y).map λk=>if (k == ν && X.env.scope.kind == .function && X.env.kindOf y == _b .cell) then Ò else k:=λy=>JQ X.env y scope.names
 refine⟨⟨I.ok.mod,S.kind,I.ok.glob,I.ok.blt,F,λy z c e1 e2=>I.ok.inj y z c (w y c e1)<|w z c e2,λy hy=>?_,λy c e _=>(by cases e),λh=>I.ok.hd h,I.ok.frames,.inl U,λb q=>?_,I.bs,cq I.ok.bsz I.sz,λb o e q=>?_,λb q G=>?_,I.stack,I.Kp⟩,
  rfl,I.bare,Un.kept Q,⟨m,hn,λi y v E t h3=>?_⟩,λy c e=>?_,I.hok.fresh F,λy c e=>I.freeC y c<|w y c e,λp Y=>_z (show p∈([]:_a<|_d×Þ) from Y) (by simp),I.hok.kept Q,?_⟩
 .have g:(Kl X ns N' scope C s H fp).env.scope.names.lookup y=_b .cell \/ (Kl X ns N' scope C s H fp).env.scope.names.lookup y=_b .free:=hy;rw[look y] at g
  cases e:scope.names.lookup y with
  |none=>rw[e] at g;rcases g with z | z <;> cases z
  |some k =>
   have n:=PySem.mem_of_lookup e;have a:k=.free:=by
    rw[e] at g
    cases k with
    |free=>rfl
    |cell=>exact _z U<|S.nocell _ n
    |_=>rcases g with z | z <;> simp at z
   subst a;obtain⟨c,D⟩:=I.ok.has y<|S.free _ n U;exact io.mp<|HS X.env scope.names [] y n (by rw[D];rfl)
 .obtain⟨R,M,P,K,N,T⟩:=L b q;exact⟨db<|bq (J b q) F,λy c e=>N y c<|w y c e⟩
 .obtain⟨R,M,P,K,N,T⟩:=L b q;rcases K with z | z
  .exact I.ok.noex b o e z
  .exact _z (bq (_B e)<|cq I.ok.bsz z)<|gS _
 .obtain⟨R,M,P,K,N,T⟩:=L b q;rcases ce.mp (I.WK b G) with e | e
  .exact M e
  .exact P e
 .have E:(ns++N')[i]? = _b y:=E;have W:ns.length<=i:=by
   rcases nX i ns.length with z | z
   .rw[Ø (by simpa using z),é] at t
    cases e:ns[i]? with
    |none=>rw[e] at t;cases t
    |some _=>rw[e] at t;cases t
   .exact z
  have x:N'[i - ns.length]? = _b y:=by rw[<-E];exact (bX W).symm
  have O:σ[i - ns.length]? = _b (_b v):=by rw[<-t,ŕ<|by simpa using W,Τ]
  have d:(Kl X ns N' scope C s H fp).env.scope.names.lookup y=_b .local \/ (Kl X ns N' scope C s H fp).env.scope.names.lookup y=_b .cell \/ (Kl X ns N' scope C s H fp).env.scope.names.lookup y=_b .free:=h3;rw[look y] at d
  cases e:scope.names.lookup y with
  |none=>rw[e] at d;rcases d with z | z | z <;> cases z
  |some k =>
   have n:=PySem.mem_of_lookup e;have a:k=.free:=by
    rw[e] at d
    cases k with
    |free=>rfl
    |cell=>exact _z U<|S.nocell _ n
    | «local»=>exact _z U (S.sub _ _ _ x e).2
    |_=>rcases d with z | z | z <;> simp at z
   subst a;have V:=S.free _ n U;obtain⟨m0,HK,UR⟩:=I.loc;obtain⟨u,r,l⟩:=UR _ y v (S.sub _ _ _ x e).1 O<|by rcases V with z | z;exact .inr<|.inl z;exact .inr<|.inr z
   refine⟨u,r,.inr ⟨?_,?_⟩⟩
   .have B:(Kl X ns N' scope C s H fp).env.scope.names.lookup y=_b (if (ν == ν && X.env.scope.kind == .function && X.env.kindOf y == _b .cell) then Ò else ν):=by
     rw[look y,e];rfl
    by_cases c:(ν == ν && X.env.scope.kind == .function && X.env.kindOf y == _b .cell)=_g
    .rw[_n c] at B;exact .inl B
    .rw[_l c] at B;exact .inr B
   .rcases l with⟨lk,_⟩ | ⟨_,c,D,j⟩
    .exfalso;rcases V with z | z <;> (rw[show X.env.kindOf y=_b T8 from lk] at z;cases z)
    .obtain⟨c',A⟩:=io.mp<|HS X.env scope.names [] y n (by rw[D];rfl);have:=w y c' A;rw[D] at this
     cases this;exact⟨c,A,f c _ j⟩
 .obtain⟨v,z⟩:=I.cell y c<|w y c e;exact⟨v,f c v z⟩
 .show (ns.map (λ_=>_o)++σ).length=(ns++N').length;simp[I.len,S.len]
end
def Rf(X:Cx)(pj:_a Expr)(t:TT):Prop :=
 ∀(a8:_a<|_d × Þ)(s:_C)(σ:St)(H:Hp)(Q:_O->Hp->Prop),Inv X a8 σ H s->t σ H Q ->
  wpAny (_D X.prog X.w) X.A (forIn pj _g λc r=>if r=_g then do let ok <-isTrue c X.env (eval c X.env);pure (À ok) else pure (À r)) (TP X a8 σ Q) X.xe s
abbrev Y5:TT:=λ_ H Q=>Q _g H
theorem Cj:Rf X [] Y5:=λ_ _ _ H _ I h=>wpAny_tests_nil ⟨H,I,h⟩
theorem G7{c:Expr}{t:TT}(h:PT X c t):Rf X [c] t:=λa s σ H Q I q=>wpAny_tests_one<|h a s σ H Q I q
def LR(F:St->Prop)(J:It)(H1:Hp)(Q:VK)(g:TG)(tt:TT)(te:TE):Prop:=∀D,H1 D=_o->∃W:_c->_c->_a V->Hp->Prop,(∃m,W 0 m [] (upd H1 D<|.lst []))/\∀i m ys H2,W i m ys H2 ->
 (J.stop i H2/\Q (.ref D) H2) \/ (J.go i H2/\∀x H3,J.yld i H2 x H3->∀τ,F τ->g x τ H3 λσ' NF=>F σ'/\tt σ' NF λb H4 =>
  if b=_g then te σ' H4 λy H5=>H5 D=_b (.lst ys)/\ys.length<sizeLine/\∃m',m'<m/\W (i+1) m' (ys++[y]) (upd H5 D<|.lst<|ys++[y])
  else ∃m',m'<m/\W (i+1) m' ys H4)
def Fe(J:It)(σ:St)(H1:Hp)(Q:VK)(tt:TT)(te:TE):Prop:=∀D,H1 D=_o->∃W:_c->_c->_a V->Hp->Prop,(∃m,W 0 m [] (upd H1 D<|.lst []))/\∀i m ys H2,W i m ys H2 ->
 (J.stop i H2/\Q (.ref D) H2) \/ (J.go i H2/\∀x H3,J.yld i H2 x H3->tt (_b x::σ) H3 λb H4 =>
  if b=_g then te (_b x::σ) H4 λy H5=>H5 D=_b (.lst ys)/\ys.length<sizeLine/\∃m',m'<m/\W (i+1) m' (ys++[y]) (upd H5 D<|.lst<|ys++[y])
  else ∃m',m'<m/\W (i+1) m' ys H4)
abbrev mF(wi:TI)(tt:TT)(te:TE):TE:=λσ H Q=>wi σ H λJ H1=>Fe J σ H1 Q tt te
theorem gj{α:Type}{t:ũ α}{Q b:α->_C->Prop}{M:z5}(h:wpAny M A t Q (λ_ _=>Α) s)(c:∀a s,Q a s->b a s):wpAny M A t b E s:=ζ h c λ_ _ x=>x.elim
theorem Inv.sameBut(I:Inv X a8 σ H s)(f:Lp X a8 H C)(a:Å C s.heap h'):Inv X a8 σ H { s with heap:=h' } :=
 I.turned (t':=s.toks) (λb o c e=>(a.2 b c).trans e) f.1 f.2.1 f.2.2.2.1 f.2.2.2.2.1 f.2.2.2.2.2
theorem iV{w:_P}{R:CD->_C->Prop}{b d:_k}{a:ŀ}(J:_c->_C->Prop)(l:E=notedBy (_D prog w) A a λe s'=>R (.error e) s')
  (i:∀n s,J n s->wpAny (_D prog w) A (pyNext b) (λr s1=>match r with
   |none=>R (.ok .next) s1
   |some v=>wpAny (_D prog w) A (letOwnedTupleGo tg b v) (λ_ s2=>wpAny (_D prog w) A (assign tg a v) (λ_ s3 =>
     wpAny (_D prog w) A (forIn pj _g λc r=>if r=_g then do let ok <-isTrue c a (eval c a);pure (À ok) else pure (À r)) (λok s4 =>
      if ok=_g then wpAny (_D prog w) A (eval qc a) (λx s5=>wpAny (_D prog w) A (call (.builtin "list.append") [d,x]) (λ_ s6=>∃m,m<n/\J m s6) E s5) E s4
      else ∃m,m<n/\J m s4) E s3) E s2) E s1) E s) (n:_c) (h:J n s) :
  codeAny (_D prog w) A (.compLoop (.ListComp qc [⟨tg,iter,pj,0⟩] scope pos) 0 b d a) R s:=by
 subst l;refine codeAny_loop U J (λn s j=>(show wpAny _ A ((compTurn (.ListComp qc [⟨tg,iter,pj,0⟩] scope pos) 0 b d a).onRaise (λx=>do noteFrame x a;theTreesLotGoes x)) _ _ s from wpAny_noted ?_)) n h;rw[compTurn_list];refine _e<|sM<|_e<|ζ (i n s j) (λr s1 f=>?_) λ_ _ q=>q
 cases r with
 |none=>exact _v f
 |some v =>
  refine _e<|ζ f (λ_ s2 p=>_e<|ζ p (λ_ s3 t=>_e<|ζ t (λok s4 g=>?_) λ_ _ q=>q) λ_ _ q=>q) λ_ _ q=>q
  cases ok with
  |false=>exact _v ⟨U,g⟩
  |true=>exact _e<|_e<|ζ g (λx s5 o=>_e<|ζ o (λ_ s6 k=>_v<|_v ⟨U,k⟩) λ_ _ q=>q) λ_ _ q=>q
section
variable{N':_a _m}
theorem M6{g:TG}{c:_C}{it:_d}{K:_c->χ->Prop}{J:It}{E:vSP}
  {F:St->Prop}{RR:_k->_d->CD->_C->Prop}{Q:VK}
  (hc:X.calm=_g)(S:Ds X ns N' scope)(hg:∀C s₀ H₀ fp,PG (Kl X ns N' scope C s₀ H₀ fp) tg g)(ht:∀C s₀ H₀ fp,Rf (Kl X ns N' scope C s₀ H₀ fp) pj tt)(he:∀C s₀ H₀ fp,PE (Kl X ns N' scope C s₀ H₀ fp) qc te)
  (I2:Inv X a8 σ H2 c)(T:Turn X.prog X.w X.K tg J fp it K)(L:K 0 c.heap)(f2:∀b∈fp,Lp X a8 H2 b)(hF:F<|ns.map (λ_=>_o)++σ)(q:LR F J H2 Q g tt te)
  (ab:∀D C s' H' m,s'.heap.Ns C m->Lp X a8 H' C->Inv X a8 σ H' s'->Q (.ref D) H'->RR (.ref D) C (.ok .next) s') :
  wpAny (_D X.prog X.w) X.A (newList []) (λi9 s₃=>wpAny (_D X.prog X.w) X.A (newFunctionEnv scope X.env.globals (E_ X.env scope.names []) [] X.env.qual _o .none (_b X.env)) (λES s₄ =>
   codeAny (_D X.prog X.w) X.A (.compStart (.ListComp qc [⟨tg,iter,pj,0⟩] scope pos) 0 (.ref it) i9 { ES with scope:=relabel scope X.env }) (RR i9 ES.locals) s₄) E s₃) E c:=by
 refine Δ<|wpAny_newFunctionEnv S.nocell (by intro y hy;simp at hy) (λs MA L9=>?_) S.kind
 have I3:=I2.xV (its:=[]) (ys:=[]) (t':=c.toks) .nil<|eK _
 have ap:H2 c.heap.objs.size=none:=I2.fresh;obtain⟨W,⟨m0,w0⟩,vw⟩:=q _ ap;generalize H:({ c with heap:=c.heap.push { cls:=.type "list",data:=.seq ([]:_a _k).toArray },toks:=c.toks }:_C)=a at I3;have Y:a.heap=c.heap.push { cls:=.type "list",data:=.seq ([]:_a _k).toArray }:=by rw[<-H]
 have w:∀b∈fp,b<c.heap.objs.size:=λb f=>let ⟨_,e,_⟩:=T.obj _ _ L b f;_B e;have M:∀b∈fp,b<a.heap.objs.size:=λb f=>by rw[Y,ε];exact gI<|w b f
 have f3:∀b∈fp,Lp X a8 (upd H2 c.heap.objs.size<|.lst []) b:=λb f=>⟨by rw[Ak (db<|w b f)];exact (f2 b f).1,(f2 b f).2⟩;have N:∀b o,a.heap.get? b=_b o->s.get? b=_b o:=λb o e=>by
  have A:b≠a.heap.objs.size:=db<|_B e
  rw[Y] at e A;exact L9.extBut b o A<|_f _ e
 have hC:a.heap.objs.size=(c.heap.push { cls:=.type "list",data:=.seq ([]:_a _k).toArray }).objs.size:=by rw[Y]
 have as:s.Ns a.heap.objs.size<|λx=>([]:_a<|_m×_k).reverse.lookup x:=by rw[hC];exact MA
 have G:K 0 s:=T.keep _ _ _ L λb f o e=>N b o<|by rw[Y];exact _f _ e
 have start:∀j,Inv (Kl X ns N' scope a.heap.objs.size a (upd H2 c.heap.objs.size<|.lst []) fp) [] (ns.map (λ_=>_o)++σ) (upd H2 c.heap.objs.size<|.lst []) { a with heap:=s,toks:=j }:=λj =>
  UL I3 S f3 M (al _) as N
 have k:∀j,codeAny (_D X.prog X.w) X.A (.compLoop (.ListComp qc [⟨tg,iter,pj,0⟩] scope pos) 0 (.ref it) (.ref c.heap.objs.size)<|compEnvC scope (E_ X.env scope.names []) a.heap.objs.size X.env)
   (RR (.ref c.heap.objs.size) a.heap.objs.size) { a with heap:=s,toks:=j }:=by
  intro j;refine iV (λn s'=>∃i ys τ H',F τ/\Inv (Kl X ns N' scope a.heap.objs.size a (upd H2 c.heap.objs.size<|.lst []) fp) [] τ H' s'/\K i s'.heap/\(∀b∈fp,H' b=_o)/\W i n ys H') U ?_ m0
   ⟨0,[],_,_,hF,start j,G,λb f=>(f3 b f).1,w0⟩
  rintro n s4 ⟨i,ys,τ,P,fτ,z,wb,OT,w4⟩;have h:∀{H':Hp},(∀b∈fp,H' b=_o)->∀b∈fp,Lp (Kl X ns N' scope a.heap.objs.size a (upd H2 c.heap.objs.size<|.lst []) fp) [] H' b:=λhn b f=>by
   refine⟨hn b f,(z.ok.exf b f).1,z.ok.exfs b f,.inl f,(z.ok.exf b f).2,λp hp=>_z (show p∈([]:_a<|_d×Þ) from hp)<|by simp⟩
  rcases vw i n ys P w4 with⟨stop,qn⟩ | ⟨go,step⟩
  .refine CN (T.done (Kl X ns N' scope a.heap.objs.size a (upd H2 c.heap.objs.size<|.lst []) fp) U U U hc i [] s4 τ P _ z (h OT) wb stop) λr s5 ⟨hr,l⟩=>?_;subst hr;obtain⟨m,hn,_⟩:=l.loc;refine ab _ _ s5 P m hn (I3.P0 (al _) l.free) (I3.call' (s':=s5) (ch:=fp) l.os l.base l.hok l.bare<|λb f=>?_) qn;obtain⟨_,g1,_,g3,g4,g5⟩:=f3 b f;exact⟨g3,g1,g4,g5⟩
  .refine CN (T.item (Kl X ns N' scope a.heap.objs.size a (upd H2 c.heap.objs.size<|.lst []) fp) U U U hc i [] s4 τ P _ z (h OT) wb go) λr s5 ⟨u,hr,h5⟩=>?_;subst hr;refine CN h5 λ_ s6 h6=>?_;obtain⟨xv,H6,I6,r6,y6,LD,TU⟩:=h6;have UX:=I6.pinned (h TU)<|T.obj _ _ LD
   have again:∀{t:_C}{v:Hp}{HZ:_a V}{τ:St},F τ->Inv (Kl X ns N' scope a.heap.objs.size a (upd H2 c.heap.objs.size<|.lst []) fp) ([]++O_ fp s6.heap) τ v t->(∃m',m'<n/\W (i+1) m' HZ v) ->
     ∃m,m<n/\∃i ys τ H',F τ/\Inv (Kl X ns N' scope a.heap.objs.size a (upd H2 c.heap.objs.size<|.lst []) fp) [] τ H' t/\K i t.heap/\(∀b∈fp,H' b=_o)/\W i m ys H':=λ{t v HZ τ} O B hw=>by
    obtain⟨m',hm,w7⟩:=hw;refine⟨m',hm,i+1,HZ,τ,v,O,B.K5,T.keep _ _ _ LD λb f o e=>(B.pin (b,o)<|dc _<|dc _<|Ia f e).1,λb f=>?_,w7⟩;obtain⟨o,e,d⟩:=T.obj _ _ LD b f;exact (B.pin (b,o)<|dc _<|dc _<|Ia f e).2.1
   refine gj (hg _ _ _ _ _ s6 τ H6 xv u _ UX r6<|step xv H6 y6 τ fτ) λ_ t I=>?_;obtain⟨τ,v,B,O,q7⟩:=I;refine gj (ht _ _ _ _ _ t τ v _ B q7) λb s8 I=>?_;obtain⟨H8,I8,Z⟩:=I
   cases b with
   |false =>
    rw[_l eI] at Z |-;exact again O I8 Z
   |true =>
    rw[_n U] at Z |-;refine gj (he _ _ _ _ _ s8 τ H8 _ I8 Z) λy s9 I=>?_;obtain⟨yv,H9,I9,r9,UF,an,q9⟩:=I;refine gj (C_ (X:=Kl X ns N' scope a.heap.objs.size a (upd H2 c.heap.objs.size<|.lst []) fp) _ s9 τ H9 (.ref c.heap.objs.size) [yv] (.ref c.heap.objs.size) [y] (λ_ H'=>H'=upd H9 c.heap.objs.size (.lst<|ys++[yv])) I9 U (.cons r9 .nil)
     ⟨ys,UF,an,U⟩) λ_ aB ⟨_,tF,YV,_,ac⟩=>?_
    subst ac;exact again O YV q9
 have aw:=λj=>codeAny_compStart_list (R:=RR (.ref c.heap.objs.size) a.heap.objs.size) (k j)<|T.self X.A 0 { a with heap:=s,toks:=j } (λZI s'=>codeAny (_D X.prog X.w) X.A (.compLoop (.ListComp qc [⟨tg,iter,pj,0⟩] scope pos) 0 ZI (.ref c.heap.objs.size)<|compEnvC scope (E_ X.env scope.names []) a.heap.objs.size X.env) (RR (.ref c.heap.objs.size) a.heap.objs.size) s') _ G (k j)
 subst H;exact aw _
theorem Um{F:St->St->Prop}{f:It->St->Hp->VK->Prop}{d:TI}{g:TG}(n:∀σ,F σ<|ns.map (λ_=>_o)++σ)(b:∀J σ H Q,f J σ H Q->LR (F σ) J H Q g tt te)(A:X.calm=_g)(S:Ds X ns N' scope)(hi:PI X tg iter d)(k:∀C s₀ H₀ fp,PG (Kl X ns N' scope C s₀ H₀ fp) tg g)
  (l:∀C s₀ H₀ fp,Rf (Kl X ns N' scope C s₀ H₀ fp) pj tt) (z:∀C s₀ H₀ fp,PE (Kl X ns N' scope C s₀ H₀ fp) qc te) (t:∀x,foldedSetIterable iter X.env x=pure x) :
  PE X (.ListComp qc [⟨tg,iter,pj,0⟩] scope pos) (λσ H Q=>d σ H λJ H1=>f J σ H1 Q):=by
 intro c s σ H Q I h;rw[eval_ListComp];refine sQ (use:=_o) (cl:=E_ X.env scope.names []) U t (PX λy u b=>I.ok.has y.1<|S.free y u b) S.kind S.names<|CN (hi c s σ H _ I h) λv V i=>CN i λR M o=>?_
 obtain⟨W,fp,O,J,P,e,E,T,a,K,q⟩:=o;subst e;refine M6 (RR:=λj C=>compPost (_D X.prog X.w) X.A X.xe _o (EP X c σ Q) j C) (Q:=Q) A S k l z E T a K (n σ) (b _ _ _ _ q) ?_;intro D C Y p m B G w r;exact⟨m,B,λN L=>⟨.ref D,p,w.sameBut G L,U,r⟩⟩
theorem R_{F:St->St->Prop}{w:It->St->Hp->VK->Prop}{y:_m}{b A:ī}{u:TI}{g:TG}(O:∀σ,F σ<|ns.map (λ_=>_o)++σ)(t:∀J σ H Q,w J σ H Q->LR (F σ) J H Q g tt te)(L:X.N.Nodup)(j:X.N[i]? = _b y)(d:X.env.scope.names.lookup y=_b .local)(hc:X.calm=_g)(S:Ds X ns N' scope)(hi:PI X tg iter u)(M:∀C s₀ H₀ fp,PG (Kl X ns N' scope C s₀ H₀ fp) tg g)
  (N:∀C s₀ H₀ fp,Rf (Kl X ns N' scope C s₀ H₀ fp) pj tt) (Z:∀C s₀ H₀ fp,PE (Kl X ns N' scope C s₀ H₀ fp) qc te) (E:swapsWith (.ListComp qc [⟨tg,iter,pj,0⟩] scope pos) (_b<|.Name y b) A.line X.env=pure _g) (V:∀x,foldedSetIterable iter X.env x=pure x) :
  PS X (.Assign [.Name y b] (.ListComp qc [⟨tg,iter,pj,0⟩] scope pos) A) (V_ (λσ H Q=>u σ H λJ H1=>w J σ H1 Q)<|Df i):=by
 intro f s σ H l I h;rw[exec_Assign_Name_used _ _ _ _ E];refine _e<|sM<|_e ?_
 show wpAny _ X.A (do let _ <-comprehension (.ListComp qc [⟨tg,iter,pj,0⟩] scope pos) scope X.env _ (newList []) _p (eval iter X.env) (_b<|assign (.Name y b) X.env)) _ _ s;refine _e (ζ (sQ (use:=_b<|assign (.Name y b) X.env) (cl:=E_ X.env scope.names []) (Q:=λ_ c=>SP X f l .next c) U V (PX λy d t=>I.ok.has y.1<|S.free y d t) S.kind S.names
  (CN (hi f s σ H _ I h) λv s1 B=>CN B λEv s2 P=>?_)) (λ_ c k=>_v<|_v k) λ_ _ e=>e)
 obtain⟨it,fp,tn,J,H2,e,I2,T,o,f2,q⟩:=P;subst e;refine M6 (RR:=λG C=>compPost (_D X.prog X.w) X.A X.xe (_b<|assign (.Name y b) X.env) (λ_ c=>SP X f l .next c) G C) (Q:=λx H1=>Df i x σ H1 l.nx) hc S M N Z I2 T o f2 (O σ) (t _ _ _ _ q) ?_;intro D C c R m hn p W k;show wpAny _ X.A (assign (.Name y b) X.env<|.ref D) _ _ _;refine EF<|QT W L j (.inl d) (v:=.ref D) U (λs6 Y xt=>?_)<|.inr d
 obtain⟨a,sb,K⟩:=xt;have n:C≠a:=by
  rcases K with z | z
  .rw[z];exact p.2.1
  .exact _J<|p.2.2.2.2.1 y a z
 exact⟨m,hn.sameBut sb n,λh' r=>⟨_,R,Y.sameBut p r,k⟩⟩
theorem jL{x:_m}{c:ī}{a:_C}{b:Hp}(S:Ds X ns N' scope)(hi:ns[i]? = _b x):PG (Kl X ns N' scope C a b fp) (.Name x c) (Df i) :=
 have l:(Kl X ns N' scope C a b fp).env.scope.names.lookup x=_b .local:=lookup_relabel_local<|S.loc x<|ai hi
 Bh (X:=Kl X ns N' scope C a b fp) S.nd (by show (ns++N')[i]? = _b x;rw[Ø (ţ.mp hi).1];exact hi) (.inl l) (.inr l)
end
noncomputable abbrev Rg(X:Cx)(x:_m)(scope:Scope):=Kl X [x] (aW x X.N) scope
abbrev Mm(X:Cx)(x:_m)(scope:Scope):Prop:=Ds X [x] (aW x X.N) scope
theorem Fe.g{J:It}{Q:VK}(h:Fe J σ H Q tt te):LR (λτ=>∃v,τ=v::σ) J H Q (Df 0) tt te:=λD c =>
 let ⟨W,a,b⟩:=h D c
 ⟨W,a,λi m d g w=>(b i m d g w).imp id λq=>⟨q.1,λx f y _ e=>by obtain⟨v,rfl⟩:=e;exact⟨⟨_,U⟩,q.2 x f y⟩⟩⟩
section
variable{x:_m}
theorem Bp{a:ī}{b:TI}(d:X.calm=_g)(S:Mm X x scope)(hi:PI X (.Name x a) iter b)
  (e:∀C s₀ H₀ fp,Rf (Rg X x scope C s₀ H₀ fp) pj tt) (c:∀C s₀ H₀ fp,PE (Rg X x scope C s₀ H₀ fp) qc te) (f:∀x,foldedSetIterable iter X.env x=pure x:=by intro _;rfl) :
  PE X (.ListComp qc [⟨.Name x a,iter,pj,0⟩] scope pos) (mF b tt te):=Um (F:=λσ τ=>∃v,τ=v::σ) (λ_=>⟨_,U⟩) (λ_ _ _ _ q=>q.g) d S hi (λ_ _ _ _=>jL S U) e c f
theorem X7{y:_m}{a c d:ī}{e:TI}(k:X.N.Nodup)(b:X.N[i]? = _b y)(g:X.env.scope.names.lookup y=_b .local)(j:X.calm=_g)(S:Mm X x scope)(hi:PI X (.Name x a) iter e)
  (l:∀C s₀ H₀ fp,Rf (Rg X x scope C s₀ H₀ fp) pj tt) (h:∀C s₀ H₀ fp,PE (Rg X x scope C s₀ H₀ fp) qc te) (f:swapsWith (.ListComp qc [⟨.Name x a,iter,pj,0⟩] scope pos) (_b<|.Name y c) d.line X.env=pure true:=by rfl) (m:∀x,foldedSetIterable iter X.env x=pure x:=by intro _;rfl) :
  PS X (.Assign [.Name y c] (.ListComp qc [⟨.Name x a,iter,pj,0⟩] scope pos) d) (V_ (mF e tt te)<|Df i):=R_ (F:=λσ τ=>∃v,τ=v::σ) (λ_=>⟨_,U⟩) (λ_ _ _ _ q=>q.g) k b g j S hi (λ_ _ _ _=>jL S U) l h f m
end
section
variable{Q:VK}
theorem Hu{J:It}(p:V->_O)(f:V->V)(B:xs.length<sizeLine)
  (z:∀i H x,Aj H1 H->xs[i]? = _b x->J.go i H)(G:∀i H y H',Aj H1 H->i<xs.length->J.yld i H y H'->H'=H/\xs[i]? = _b y)(F:∀H,Aj H1 H->J.stop xs.length H)
  (C:∀x∈xs,∀H,Aj H1 H->∀R:_O->Hp->Prop,(∀H',Aj H H'->R (p x) H')->tt (_b x::σ) H R)
  (A:∀x∈xs,p x=_g->∀H,Aj H1 H->∀R:VK,(∀H',Aj H H'->R (f x) H')->te (_b x::σ) H R)
  (w:∀D H,H1 D=_o->Aj H1 H->H D=_b (.lst<|(xs.filter p).map f)->Q (.ref D) H):Fe J σ H1 Q tt te:=by
 intro D r;have u:Aj H1<|upd H1 D<|.lst []:=λb o e=>by rw[Ak (Ag e r)];exact e
 refine⟨λi m n H=>m=xs.length - i/\i<=xs.length/\n=((xs.take i).filter p).map f/\H D=_b (.lst n)/\Aj H1 H,⟨xs.length,by simp,Ζ _,by simp,Ah,u⟩,?_⟩;rintro i m n H ⟨rfl,K,rfl,l,c⟩;by_cases a:i<xs.length
 .obtain⟨x,h⟩:∃x,xs[i]? = _b x:=⟨xs[i],by simp[a]⟩;refine .inr ⟨z i H x c h,λy E q=>?_⟩;obtain⟨rfl,j⟩:=G i H y E c a q;rw[h] at j
  cases j;have t:x∈xs:=ai h;have g:(((xs.take i).filter p).map f).length<sizeLine:=by
   rw[ah];refine cc (cr _ _)<|cc ?_ B
   rw[cm];lia
  refine C x t _ c _ λv k=>?_;by_cases d:p x=_g
  .rw[_n d];refine A x t d v (c.trans k) _ λI s=>?_;refine⟨s _ _<|k _ _ l,g,xs.length - (i+1),by lia,U,a,?_,Ah,λb o e=>?_⟩
   .rw[Ο p xs i x h,_n d,ba];rfl
   .rw[Ak (Ag e r)];exact s _ _<|k _ _<|c _ _ e
  .rw[_l d];refine⟨xs.length - (i+1),by lia,U,a,?_,k _ _ l,c.trans k⟩;rw[Ο p xs i x h,_l d,cy]
 .have e:i=xs.length:=Fr K (me a)
  subst e;rw[eP] at l;exact .inl ⟨F H c,w D H r c l⟩
theorem Kc{lo:_j}(p:_j->_O)(f:_j->V)(m:n<sizeLine)
  (o:∀i:_c,i<n->∀H,Aj H1 H->∀R:_O->Hp->Prop,(∀H',Aj H H'->R (p<|lo+i) H')->tt (_b (.int<|lo+i)::σ) H R)
  (l:∀i:_c,i<n->p (lo+i)=_g->∀H,Aj H1 H->∀R:VK,(∀H',Aj H H'->R (f<|lo+i) H')->te (_b (.int<|lo+i)::σ) H R)
  (r:∀D H,H1 D=_o->Aj H1 H->H D=_b (.lst<|(((_L n).map λ(i:_c)=>lo+(i:_j)).filter p).map f)->Q (.ref D) H):Fe (kJ lo n) σ H1 Q tt te:=by
 let g:V->Int:=λv=>match v with | .int i=>i | _=>0
 have c:∀i:_c,i<n->((_L n).map λ(i:_c)=>V.int<|lo+(i:_j))[i]? = _b (.int<|lo+i):=λi a=>by simp[a]
 refine Hu (xs:=(_L n).map λ(i:_c)=>V.int<|lo+(i:_j)) (λv=>p<|g v) (λv=>f<|g v) (by simpa using m) (λi H x _ b=>?_) (λi H y H' _ a h=>?_) (λH _=>?_) (λx b=>?_) (λx b=>?_)<|λD H e q s=>?_
 .have:i<((_L n).map λ(i:_c)=>V.int<|lo+(i:_j)).length:=(ag.mp b).1;show i<n;simpa using this
 .have d:i<n:=by simpa using a
  obtain⟨j,k⟩:=h;subst k;exact⟨j,c i d⟩
 .show n<=_;simp
 .obtain⟨i,a,rfl⟩:=ay.mp b;exact o i<|fF.mp a
 .obtain⟨i,a,rfl⟩:=ay.mp b;exact l i<|fF.mp a
 .refine r D H e q ?_;rw[s,fg,bb,fg,bb];rfl
def Its(z:_m):It:=⟨λi _=>i<z.cps.size,λi H x H'=>H'=H/\∃c,z.cps[i]? = _b c/\x=.str ⟨#[c]⟩,λi _=>z.cps.size<=i⟩
theorem bJ{w:_P}{K:_q}{z:_m}{t0:y9}{a:_d}{m:ã}(y:m = "str_ascii_iterator" \/ m = "str_iterator"):Turn P w K tg (Its z) [a] a (λi h=>h.IsStrIter a m z t0 i) where
 mem:=by simp
 obj:=λi h st b g=>by
  have e:b=a:=by simpa using g
  subst e;obtain⟨o,R,t,Y⟩:=st;exact⟨o,R,λv q=>by rw[Y] at q;cases q⟩
 keep:=λi h f st k=>let ⟨o,R,r⟩:=st;⟨o,k a (by simp) o R,r⟩
 item:=by
  intro X S G L t i J s σ H E I C st M;subst S G L;obtain⟨n,D,f2,B,F,p⟩:=C a<|by simp
  have j:i<z.cps.size:=M;have l:z.cps[i]? = _b z.cps[i]:=_y j;have fin:∀f,f.IsStrIter a m z t0 (i+1)->Å a s.heap f->∃u,_b (ĥ ⟨#[z.cps[i]]⟩ s.toks)=_b u /\
    wpAny (_D X.prog X.w) X.A (letOwnedTupleGo tg (.ref a) u) (λ_ T=>∃x O,Inv X J σ O T/\RelV x u/\(Its z).yld i H x O/\T.heap.IsStrIter a m z t0 (i+1)/\∀b∈[a],O b=_o) E { s with heap:=f,toks:=s.toks+1 }:=λf V Z=>by
   have I1:Inv X J σ H { s with heap:=f,toks:=s.toks+1 }:=I.turned (λb o g e=>(Z.2 b g).trans e) n D B F p;obtain⟨o,e,c,d⟩:=id V;refine⟨_,U,Qy (s:={ s with heap:=f,toks:=s.toks+1 }) e c d (by rcases y with rfl | rfl <;> decide) ⟨.str ⟨#[z.cps[i]]⟩,H,I1,⟨_,rfl⟩,⟨rfl,_,l,rfl⟩,V,λb g=>(C b g).1⟩⟩
  rcases y with rfl | rfl
  .exact wpAny_pyNext_ascii_item st l fin
  .exact wpAny_pyNext_wide_item st l fin
 done:=by
  intro X S G L t i J s σ H E I C st M;subst S G L;obtain⟨n,D,f2,B,F,p⟩:=C a<|by simp
  have l:z.cps[i]? = none:=by
   have j:z.cps.size<=i:=M;simpa using j
  rcases y with rfl | rfl
  .exact wpAny_pyNext_ascii_end (I.ok.hd t) st l λf N=>⟨U,I.turned (t':=s.toks) (λb o g e=>N b o g e) n D B F p⟩
  .exact wpAny_pyNext_wide_end (I.ok.hd t) st l λf N=>⟨U,I.turned (t':=s.toks) (λb o g e=>N b o g e) n D B F p⟩
 self:=λA i s Q E st h=>by
  rcases y with rfl | rfl
  .exact wpAny_pyIter_striter_ascii st h
  .exact wpAny_pyIter_striter_wide st h
end
inductive oX(R:It->Hp->Prop)(x:V)(H1:Hp):Prop
|mk(z:_)(_:x=.str z)(_:R (Its z) H1)
abbrev iStr(tl:TE):TI:=λσ H R=>tl σ H λx H1=>oX R x H1
theorem eE{l:Expr}{f:TE}(hl:PE X l f):PI X tg l<|iStr f:=by
 intro g s σ H R I h;refine CN (hl g s σ H _ I h) λv a m=>?_;obtain⟨x,j,d,p,i⟩:=m;obtain⟨z,e,q⟩:=i;subst e;obtain⟨t,rfl⟩:=p;have fin:∀c,(c = "str_ascii_iterator" \/ c = "str_iterator")->PIE X g σ tg R (.ref a.heap.objs.size) { a with heap:=a.heap.push { cls:=.type c,data:=.fields #[.str z t,.int 0 0] } }:=λc n=>by
  refine⟨a.heap.objs.size,[a.heap.objs.size],_,_,j,U,d.kept (t':=a.toks) λb o e=>_f _ e,bJ (z:=z) (t0:=t) n,⟨_,_A _ U,U,U⟩,λb k=>?_,q⟩;have e:b=a.heap.objs.size:=by simpa using k
  subst e;exact d.P0 (al _)<|d.hok.fresh<|al _
 cases ha:z.cps.all (· < 128)
 .exact wpAny_pyIter_wide ha<|fin _<|.inr U
 .exact wpAny_pyIter_ascii ha<|fin _<|.inl U
section
variable{Q:VK}
def sgn(c:_c):V:=.str ⟨#[c]⟩
theorem Ub{z:_m}(p:_c->_O)(f:_c->V)(k:z.length<sizeLine)
  (l:∀c∈z.cps.toList,∀H,Aj H1 H->∀R:_O->Hp->Prop,(∀H',Aj H H'->R (p c) H')->tt (_b (sgn c)::σ) H R)
  (j:∀c∈z.cps.toList,p c=_g->∀H,Aj H1 H->∀R:VK,(∀H',Aj H H'->R (f c) H')->te (_b (sgn c)::σ) H R)
  (n:∀D H,H1 D=_o->Aj H1 H->H D=_b (.lst<|(z.cps.toList.filter p).map f)->Q (.ref D) H):Fe (Its z) σ H1 Q tt te:=by
 let g:V->Nat:=λv=>match v with | .str y=>y.cps.getD 0 0 | _=>0
 refine Hu (xs:=z.cps.toList.map sgn) (λv=>p<|g v) (λv=>f<|g v) (by simpa [Mn] using k) (λi H x _ a=>?_) (λi H y H' _ q e=>?_) (λH _=>?_) (λx a=>?_) (λx a=>?_)<|λD H d m o=>?_
 .have:i<(z.cps.toList.map sgn).length:=(ag.mp a).1;show i<z.cps.size;simpa using this
 .obtain⟨h,c,b,rfl⟩:=e;refine⟨h,?_⟩;rw[ar,_x,b];rfl
 .show z.cps.size<=_;simp
 .obtain⟨c,b,rfl⟩:=ay.mp a;exact l c b
 .obtain⟨c,b,rfl⟩:=ay.mp a;exact j c b
 .refine n D H d m ?_;rw[o,fg,bb];rfl
end
theorem range_all(bs:_a _O):((_L bs.length).all λi=>(bs[i]?).getD _g)=bs.all id:=by
 rw[fh,gi,gi];constructor
 .intro h b d;obtain⟨i,c,e⟩:=gy.mp d;have:=h i<|fF.mpr c
  rw[af c,e] at this;exact this
 .intro h i c;have a:=fF.mp c;rw[af a];exact h _<|eJ a
theorem JM(C:X.calm=_g):Fw X (.builtin "all") (λxs H Q=>∃(p:_d)(bs:_a _O),xs=[V.ref p]/\Dd X.K H p (bs.map V.bl)/\Q (.bl<|bs.all id) H):=by
 intro J s σ H xs G Q I r h;obtain⟨p,bs,rfl,w,q⟩:=h;obtain⟨u,rfl,g⟩:=vals1 r
 cases g;obtain⟨a,m,d,M⟩:=I.list w;have c:bs.length=a.length:=by have:=m.length;rw[ah] at this;exact this
 have j:p<s.heap.objs.size:=by obtain⟨_,e,_⟩:=d.isList;exact _B e
 refine call_all_walk<|Ę d.isList ?_
 refine⟨s.heap.objs.size,[s.heap.objs.size,p],[s.heap.objs.size],a.toArray.size,_,_,λi=>(bs[i]?).getD _g,U,Walks.list (A:=X.A.in1) (I.ok.hd C) _ p (db j) a.toArray,
  ⟨⟨_,_A _ U,U,U⟩,d.isList.push _⟩,λi v N L K B k=>?_,λF z E=>?_⟩
 .have n:a[i]? = _b v:=by simpa using B
  have D:i<a.length:=(ag.mp n).1;have l:bs[i]? = _b bs[i]:=by simp[c,D]
  obtain⟨u,t,g⟩:=m.get (i:=i) (x:=.bl bs[i])<|by rw[ar,l];rfl
  rw[n] at t
  cases t
  cases g;dsimp only at k;rw[l] at k;exact _Y k
 .have e:((_L a.toArray.size).all λi=>(bs[i]?).getD _g)=bs.all id:=by rw[bo,<-c];exact range_all bs
  rw[e];refine⟨.bl<|bs.all id,H,I.kept (t':=z) λb o f=>E b o (λy=>?_)<|_f _ f,U,q⟩;rw[av.mp y] at f;exact gS _<|_B f
theorem DW:Fw X (.builtin "isinstance") (λxs H Q=>∃x T t b,xs=[x,V.ty T]/\K7 X.K H x t/\ξ X.K t (.type T)=_b b/\Q (.bl b) H):=by
 intro g s σ H xs f Q I r h;obtain⟨x,T,t,b,rfl,d,e,q⟩:=h;obtain⟨u,v,rfl,c,a⟩:=Vals.two r
 cases a;exact YW I c d e λi=>⟨.bl b,H,I.tok _,U,q⟩
theorem Bb{x:_m}{osc:Scope}{N:_a _m}(a:X.env.scope=osc)(b:X.N=N)(h:gK [x] (aW x N) scope osc N=_g):Mm X x scope:=by
 subst b;exact Z9 a U h
theorem Inv.PL{ch:_a _d}{t':_c}(I:Inv X a8 σ H s)(h:∀b∈ch,Lp X a8 H b)(k:∀b u,b ∉ ch->s.heap.get? b=_b u->h'.get? b=_b u)(i:s.heap.objs.size<=a)
  (new:CG X.prog X.w (upd H a o) h' a o):Inv X a8 σ (upd H a o) { s with heap:=h',toks:=t' }:=by
 have l:H a=none:=I.hok.fresh i;have up:∀b u,H b=_b u->upd H a o b=_b u:=λb u e=>by rw[Ak (Ag e l)];exact e
 refine I.step (g':=s.gens) (d':=s.drawn) (ch:=ch) (λb f=>?_) (λb u _ _ d e _=>k b u d e) (λb u _ _ d e _=>⟨u.slots,k b u d e⟩) (λb u _ e n=>?_)
  (λb u d e=>⟨u,k b u d e⟩) (λb D e=>up _ _ e) (λb u x e=>up _ _ e) (λb E e=>⟨#[],by rw[up _ _ e];simp⟩) (λm y=>?_) (λb u e=>?_) I.bare
 .obtain⟨F,p,G,j,A,t⟩:=h b f;exact⟨j,p,A,t⟩
 .rw[Ak (db<|bq (_B e) i)];exact n
 .obtain⟨u,B,w,C,r⟩:=y;exact⟨u,B,w,k _ u (λz=>(h _ z).2.1 rfl) C,r⟩
 .by_cases f:b=a
  .subst f;rw[Ah] at e
   cases e;exact new
  .rw[Ak f] at e;refine (I.hok b u e).stay (λc v d q=>k c v (λz=>?_) q) (λ_ q=>up _ _ q) λ_ _ q=>up _ _ q;have g:=(h c z).1;rcases d with d | d
   .rw[d,e] at g
    cases g
   .rw[d] at g
    cases g
theorem Inv.Rv{ch:_a _d}{t':_c}(I:Inv X a8 σ H s)(f:∀b∈ch,Lp X a8 H b)(k:∀b u,b ∉ ch->s.heap.get? b=_b u->h'.get? b=_b u):Inv X a8 σ H { s with heap:=h',toks:=t' }:=by
 refine I.step (g':=s.gens) (d':=s.drawn) (ch:=ch) (λb g=>?_) (λb u _ _ a e _=>k b u a e) (λb u _ _ a e _=>⟨u.slots,k b u a e⟩) (λb u _ e n=>n)
  (λb u a e=>⟨u,k b u a e⟩) (λb y e=>e) (λb u x e=>e) (λb A e=>⟨#[],by rw[e];simp⟩) (λm o=>?_) (λb u e=>?_) I.bare
 .obtain⟨B,i,C,h,p,j⟩:=f b g;exact⟨h,i,p,j⟩
 .obtain⟨u,t,l,w,r⟩:=o;exact⟨u,t,l,k _ u (λz=>(f _ z).2.1 rfl) w,r⟩
 .refine (I.hok b u e).stay (λc v a q=>k c v (λz=>?_) q) (λ_ q=>q) λ_ _ q=>q;have d:=(f c z).1;rcases a with a | a
  .rw[a,e] at d
   cases d
  .rw[a] at d
   cases d
def vY(K:_q)(a:_d):It :=
 ⟨λi H=>∃xs x,Dd K H a xs/\xs[i]? = _b x,λi H v H'=>∃T,H T=_o/\v=.ref T/\∀xs,Dd K H a xs->∃x,xs[i]? = _b x/\H'=upd H T (.tup [.int (i:_j),x]),λi H=>∃xs,Dd K H a xs/\xs.length<=i⟩
def Itz(K:_q)(a b:_d):It :=
 ⟨λi H=>∃xs ys x y,JD K H a xs/\JD K H b ys/\xs[i]? = _b x/\ys[i]? = _b y,λi H v H'=>∃T,H T=_o/\v=.ref T/\∀xs ys,JD K H a xs->JD K H b ys->∃x y,xs[i]? = _b x/\ys[i]? = _b y/\H'=upd H T (.tup [x,y]),
  λi H=>∃xs,JD K H a xs/\xs.length<=i⟩
theorem Y6{w:_P}{K:_q}{k1:_c}(a e j:_d)(n:e≠j) :
  Turn P w K (.Tuple es k1 pos) (vY K a) [e,j] e (λi h=>(∃old,IsEnum h e j i old)/\h.IsListIter j a i) where
 mem:=by simp
 obj:=λi h st b f=>by
  obtain⟨⟨old,g⟩,o,ho,c,d⟩:=st;rcases ce.mp f with rfl | f
  .exact⟨_,g,λv z=>by
    have z':Ň _=ĩ v:=z
    cases z'⟩
  .have q:b=j:=by simpa using f
   subst q;exact⟨o,ho,λv z=>by rw[d] at z;cases z⟩
 keep:=λi h h' st k=>by
  obtain⟨⟨old,g⟩,l⟩:=st;exact⟨⟨old,k e (by simp) _ g⟩,l.at λo q=>k j (by simp) o q⟩
 item:=by
  intro X F y B N i Q s σ H E I r st D;subst F y B;obtain⟨O,x,t,A⟩:=D;obtain⟨J,C,p,hz⟩:=I.list t;obtain⟨u,hu,ru⟩:=C.get A;obtain⟨⟨old,g⟩,l⟩:=st;refine wpAny_pyNext_enum_item g l p.isList (x:=u) (by simpa using hu) n λL n1 n2 n3 n4 Y=>?_;refine⟨_,U,wpAny_letOwnedTupleGo_enum (s:={ s with heap:=L,toks:=s.toks+1 }) n1 λT Z G=>?_⟩;have M:s.heap.objs.size≠e:=iA<|_B g
  have hI:s.heap.objs.size≠j:=by obtain⟨_,q,_⟩:=l;exact iA<|_B q
  have R:H s.heap.objs.size=none:=I.hok.fresh<|al _
  have S:CG X.prog X.w (upd H s.heap.objs.size<|.tup [.int (i:_j),x]) T s.heap.objs.size (.tup [.int (i:_j),x]) :=
   ⟨by show 2<=sizeLine;decide,[.int i s.toks,u],.cons ⟨_,U⟩<|.cons ru .nil,_,G.extBut _ _ M n3,U,_,U⟩
  refine⟨.ref s.heap.objs.size,_,I.PL (t':=s.toks+1) (ch:=[e,j]) r (λb o f q=>?_) (al _) S,U,⟨_,R,U,λys hy=>⟨x,by rw[I.U5 hy t];exact A,U⟩⟩,⟨⟨u,?_⟩,n2.at λo q=>G.extBut _ _ (_J n) q⟩,λb f=>?_⟩
  .exact G.extBut _ _ (λz=>f<|by simp[z])<|Y b o (λz=>f<|by simp[z]) (λz=>f<|by simp[z]) q
  .have e1:((i:_j)+1)=((i+1:_c):_j):=by lia
   rw[<-e1];exact Z
  .have m:=f;rcases ce.mp f with rfl | f
   .rw[Ak (_J M)];exact (r _ m).1
   .have q:b=j:=by simpa using f
    subst q;rw[Ak (_J hI)];exact (r _ m).1
 done:=by
  intro X F y B N i Q s σ H E I r st D;subst F y B;obtain⟨O,t,A⟩:=D;obtain⟨J,C,p,hz⟩:=I.list t;obtain⟨⟨old,g⟩,l⟩:=st;have hl:=C.length;exact wpAny_pyNext_enum_end (I.ok.hd N) g l p.isList (by simp;exact hl▸A) λL V=>⟨U,I.Rv (t':=s.toks) (ch:=[e,j]) r λb o f q=>V b o (λz=>f<|by simp[z]) q⟩
 self:=λ_ _ _ _ _ st h=>by
  obtain⟨⟨old,g⟩,_⟩:=st;exact E' g h
theorem bG{a b:_c}(d:a<n)(c:b<n):ML (n+4) (n+2) (n+3) n (n+1) a b:=by
 constructor <;> (refine (show @Ne _c _ _ from ?_);lia)
theorem uE{b:_c}{P:_c->Prop}(e:P n)(c:P<|n+1)(f:P<|n+2)(g:P<|n+3)(d:P<|n+4)(a:b∈[n,n+1,n+2,n+3,n+4]):P b:=by
 simp at a;rcases a with rfl | rfl | rfl | rfl | rfl <;> assumption
theorem Y9{w:_P}{K:_q}{k1:_c}(a b n:_c)(ha:a<n)(hb:b<n) :
  Turn P w K (.Tuple es k1 pos) (Itz K a b) [n,n+1,n+2,n+3,n+4] (n+4) (λi h=>ł h (n+4) (n+2) (n+3) .none/\ú h (n+2) (.ref n) (.ref<|n+1)/\(∃x y,ú h (n+3) x y)/\h.IsTupleIter n a i/\h.IsTupleIter (n+1) b i) where
 mem:=by simp
 obj:=λi h st c e=>by
  obtain⟨f,g,⟨x,y,j⟩,⟨o1,e1,_,d1⟩,⟨o2,e2,_,d2⟩⟩:=st;refine uE (P:=λc=>∃o,h.get? c=_b o/\∀v,o.data≠.cell v) ⟨_,e1,λv z=>?_⟩ ⟨_,e2,λv z=>?_⟩ ⟨_,g,λv z=>?_⟩ ⟨_,j,λv z=>?_⟩ ⟨_,f,λv z=>?_⟩ e
  .rw[d1] at z;cases z
  .rw[d2] at z;cases z
  .have p:A7 _ _=ĩ v:=z
   cases p
  .have p:A7 _ _=ĩ v:=z
   cases p
  .have p:Ň _=ĩ v:=z
   cases p
 keep:=λi h h' st k=>by
  obtain⟨f,g,⟨x,y,j⟩,m,A⟩:=st;exact⟨k _ (by simp) _ f,k _ (by simp) _ g,⟨x,y,k _ (by simp) _ j⟩,m.at λo q=>k _ (by simp) o q,A.at λo q=>k _ (by simp) o q⟩
 item:=by
  intro X Z R J e i a8 s σ H E I B st N;subst Z R J;obtain⟨xs,ys,x,y,C,q2,S,hy⟩:=N;obtain⟨Q,O,L,_⟩:=I.tuple C;obtain⟨Lc,r2,p2,_⟩:=I.tuple q2;obtain⟨u,hu,ru⟩:=O.get S;obtain⟨v,hv,rv⟩:=r2.get hy;obtain⟨f,g,⟨x0,y0,j⟩,m,A⟩:=st;have D:=bG ha hb;have t:s.TypeIs (.ref<|n+4) "zip":=⟨_,f,U⟩;have sz:n+4<s.heap.objs.size:=_B f;unfold pyNext;refine _e (sT (Æ (name:=Ğ "__next__") t Ħ (à Ħ t DI
   (Yv D f g j m A (show s.heap.IsTuple a Q.toArray from L) (show s.heap.IsTuple b Lc.toArray from p2) (x:=u) (y:=v) (by simpa using hu) (by simpa using hv) λr n1 n2 n3 n4 n5 n6 n7=>_v ?_) (A9 _))))
  refine⟨_,U,wpAny_letOwnedTupleGo_zip (s:={ s with heap:=r }) n1 λY m1 l=>?_⟩;have fr:H s.heap.objs.size=none:=I.hok.fresh<|al _
  have nw:CG X.prog X.w (upd H s.heap.objs.size<|.tup [x,y]) Y s.heap.objs.size (.tup [x,y]) :=
   ⟨by show 2<=sizeLine;decide,[u,v],.cons ru<|.cons rv .nil,_,l.extBut _ _ (Nat.ne_of_gt sz) n5,U,_,U⟩
  have M:ú r (n+2) (.ref n)<|.ref<|n+1:=n7 _ _ D.TIz D.TITO D.TIi1 D.TIi2 g
  refine⟨.ref s.heap.objs.size,_,I.PL (t':=s.toks) (ch:=[n,n+1,n+2,n+3,n+4]) B (λc o e q=>?_) (al _) nw,U,⟨_,fr,U,λab HZ r Y=>⟨x,y,by rw[I.Ml r C];exact S,by rw[I.Ml Y q2];exact hy,U⟩⟩,
   ⟨m1,l.extBut _ _ D.TIz M,⟨u,v,l.extBut _ _ D.TOz n2⟩,n3.at λo q=>l.extBut _ _ D.i1z q,n4.at λo q=>l.extBut _ _ D.i2z q⟩,λc e=>?_⟩
  .have z:∀d,d∈[n,n+1,n+2,n+3,n+4]->c≠d:=λd V q=>e<|q ▸ V
   exact l.extBut _ _ (z _<|by simp)<|n7 c o (z _<|by simp) (z _<|by simp) (z _<|by simp) (z _<|by simp) q
  .rw[Ak ?_]
   .exact (B c e).1
   .have lt:c<=n+4:=uE (P:=λc=>c<=n+4) (zor _ _) (zae (by decide) _) (zae (by decide) _) (kA _) (al _) e;exact db<|cc lt sz
 done:=by
  intro X Z R J e i a8 s σ H E I B st N;subst Z R J;obtain⟨xs,C,S⟩:=N;obtain⟨Q,O,L,_⟩:=I.tuple C;obtain⟨f,g,⟨x0,y0,j⟩,m,A⟩:=st;have D:=bG ha hb;have t:s.TypeIs (.ref<|n+4) "zip":=⟨_,f,U⟩;have hl:=O.length;unfold pyNext;refine _e (sT (Æ (name:=Ğ "__next__") t Ħ (à Ħ t DI
   (Zo (I.ok.hd e) D f g j m (show s.heap.IsTuple a Q.toArray from L) (by simp;exact hl▸S) λr x k1 G=>?_) (A9 _))))
  obtain⟨o,ho,XB⟩:=G;refine _e<|wpAny_isInstance (T:="StopIteration") (b:=_g) ⟨o,ho,XB⟩ isSubtype_stop<|_v ?_
  refine⟨U,I.Rv (t':=s.toks) (ch:=[n,n+1,n+2,n+3,n+4]) B λc o e q=>?_⟩;have z:∀d,d∈[n,n+1,n+2,n+3,n+4]->c≠d:=λd V q=>e<|q ▸ V
  exact k1 c o (z _<|by simp) (z _<|by simp) (z _<|by simp) (z _<|by simp) q
 self:=λ_ _ _ _ _ st h=>G4 st.1 h
section
variable{k1:_c}{qo:ī}
inductive Zx(K:_q)(R:It->Hp->Prop)(vs:_a V)(H1:Hp):Prop
|mk(a:_)(_:vs=[.ref a])(_:∃xs,Dd K H1 a xs)(_:R (vY K a) H1)
abbrev AAS(K:_q)(ta:TA):TI:=λσ H R=>ta σ H λvs H1=>Zx K R vs H1
inductive oO(K:_q)(R:It->Hp->Prop)(vs:_a V)(H1:Hp):Prop
|mk(a b:_)(_:vs=[.ref a,.ref b])(_:∃xs,JD K H1 a xs)(_:∃ys,JD K H1 b ys)(_:R (Itz K a b) H1)
abbrev iZip(K:_q)(ta:TA):TI:=λσ H R=>ta σ H λvs H1=>oO K R vs H1
theorem Ly{l:Expr}{g:TA}{p:ī}(o:Gl X "enumerate")(r:X.mg "enumerate" = _o)(m:PA X [l] g)(w:starEach [l] X.env=[(_p,eval l X.env)]:=by rfl) :
  PI X (.Tuple es k1 qo) (.Call (.Name "enumerate" p) [l] [] pos) (AAS X.K g):=by
 intro n s σ H R I h;refine LV<|JF I o r boot_enumerate<|ο (CN (m pos n s σ H _ I h) λD c ⟨G,z,d,y,C⟩=>?_) w U
 obtain⟨a,e,⟨E,t⟩,q⟩:=C;subst e;obtain⟨u,rfl,v⟩:=vals1 y
 cases v;obtain⟨A,F,k,K⟩:=d.list t;refine call_enumerate_list k.isList λj i x J B=>?_;refine E' (s:={ c with heap:=j }) i ?_;refine⟨_,[c.heap.objs.size+1,c.heap.objs.size],_,_,z,U,d.kept (t':=c.toks) B,Y6 a _ _<|Nat.succ_ne_self _,⟨⟨_,i⟩,x⟩,λb f=>?_,q⟩;have lt:c.heap.objs.size<=b:=by
  rcases ce.mp f with rfl | f
  .exact kA _
  .exact Ĝ<|(av.mp f).symm
 exact d.P0 lt<|d.hok.fresh lt
theorem iT{x y:Expr}{j:TA}{p:ī}(D:Gl X "zip")(E:X.mg "zip" = _o)(w:PA X [x,y] j)(J:starEach [x,y] X.env=[(_p,eval x X.env),(_p,eval y X.env)]:=by rfl)(o:starEach [y] X.env=[(_p,eval y X.env)]:=by rfl) :
  PI X (.Tuple es k1 qo) (.Call (.Name "zip" p) [x,y] [] pos) (iZip X.K j):=by
 intro z s σ H R I h;refine LV<|JF I D E boot_zip<|ο (CN (w pos z s σ H _ I h) λY d ⟨vs,O,f,m,i⟩=>?_) (by rw[J,o])<|by rw[o];rfl
 obtain⟨a,b,e,⟨Z,i⟩,⟨ys,T⟩,q⟩:=i;subst e;obtain⟨u,v,rfl,G,B⟩:=Vals.two m
 cases G
 cases B;obtain⟨M,m,k,_⟩:=f.tuple i;obtain⟨L,r2,l,_⟩:=f.tuple T;refine ZF (show d.heap.IsTuple a M.toArray from k) (show d.heap.IsTuple b L.toArray from l) λt n g r K N V F W C=>?_;refine G4 (s:={ d with heap:=t }) r ?_;have S:a<n:=by rw[g];exact k.lt
 have A:b<n:=by rw[g];exact l.lt
 refine⟨_,[n,n+1,n+2,n+3,n+4],_,_,O,U,f.kept (t':=d.toks) C,Y9 a b n S A,⟨r,K,⟨_,_,N⟩,V,F⟩,λc Q=>?_,q⟩;have lt:d.heap.objs.size<=c:=by
  rw[<-g];exact uE (P:=λc=>n<=c) (Η _) (zor _ _) (zor _ _) (zor _ _) (zor _ _) Q
 exact f.P0 lt<|f.hok.fresh lt
end
noncomputable abbrev K_(X:Cx)(x z:_m)(scope:Scope):=Kl X [x,z] X.N scope
abbrev H_(X:Cx)(x z:_m)(scope:Scope):Prop:=Ds X [x,z] X.N scope
def Im(J:It)(σ:St)(H1:Hp)(Q:VK)(g:TG)(tt:TT)(te:TE):Prop:=∀D,H1 D=_o->∃W:_c->_c->_a V->Hp->Prop,(∃m,W 0 m [] (upd H1 D<|.lst []))/\∀i m ys H2,W i m ys H2 ->
 (J.stop i H2/\Q (.ref D) H2) \/ (J.go i H2/\∀x H3,J.yld i H2 x H3->∀v0 v1,g x (v0::v1::σ) H3 λσ' NF=>(∃w0 w1,σ'=w0::w1::σ)/\tt σ' NF λb H4 =>
  if b=_g then te σ' H4 λy H5=>H5 D=_b (.lst ys)/\ys.length<sizeLine/\∃m',m'<m/\W (i+1) m' (ys++[y]) (upd H5 D<|.lst<|ys++[y])
  else ∃m',m'<m/\W (i+1) m' ys H4)
abbrev eV(wi:TI)(g:TG)(tt:TT)(te:TE):TE:=λσ H Q=>wi σ H λJ H1=>Im J σ H1 Q g tt te
theorem Im.g{J:It}{Q:VK}{g:TG}(h:Im J σ H Q g tt te):LR (λτ=>∃v0 v1,τ=v0::v1::σ) J H Q g tt te:=λD c =>
 let ⟨W,a,b⟩:=h D c
 ⟨W,a,λi m d j w=>(b i m d j w).imp id λq=>⟨q.1,λx f y _ e=>by obtain⟨v0,v1,rfl⟩:=e;exact q.2 x f y v0 v1⟩⟩
open PySem PySem.Spec PySem.Calls PyProof.Rows
theorem Aj.tup{K:_q}(e:Aj H H')(h:JD K H a xs):JD K H' a xs:=by
 rcases h with (h | ⟨o,h⟩) | h
 .exact .inl<|.inl<|e _ _ h
 .exact .inl<|.inr ⟨o,e _ _ h⟩
 .exact .inr h
inductive TupAt(H:Hp)(zs:_a V)(y:V):Prop
|mk(T:_)(_:y=.ref T)(_:H T=_b (.tup zs))
theorem TupAt.mono{a:_a V}{y:V}(s:Aj H H')(h:TupAt H a y):TupAt H' a y:=let ⟨T,e,q⟩:=h;⟨T,e,s _ _ q⟩
theorem TupAt.upd{a ws:_a V}{y:V}{D:_d}(h:TupAt H a y)(b:H D=_b (.lst ys)):TupAt (upd H D<|.lst ws) a y:=by
 obtain⟨T,e,q⟩:=h;refine⟨T,e,?_⟩;rw[Ak λz=>by rw[z,b] at q;cases q];exact q
theorem Bf{α:Type}{f:α->_a V}{l:_a α}{ws:_a V}{D:_d}(h:Paired (λa y=>TupAt H (f a) y) l vs)(b:H D=_b (.lst ys)):Paired (λa y=>TupAt (upd H D<|.lst ws) (f a) y) l vs:=Paired.Jt h λ_ _ q=>q.upd b
theorem Ar{α:Type}{f:α->_a V}{l:_a α}(s:Aj H H')(h:Paired (λa y=>TupAt H (f a) y) l vs):Paired (λa y=>TupAt H' (f a) y) l vs:=Paired.Jt h λ_ _ q=>q.mono s
theorem Io{x z:_m}{osc:Scope}{N:_a _m}(a:X.env.scope=osc)(b:X.N=N)(h:gK [x,z] (N) scope osc N=_g):H_ X x z scope:=by
 subst b;exact Z9 a U h
section
variable{x z:_m}
theorem YS{d a:ī}{k:_c}{b:_C}{c:Hp}(e:X.calm=_g)(S:H_ X x z scope) :
  PG (K_ X x z scope C b c fp) (.Tuple [.Name x d,.Name z a] k pos) (Tr X.K 2<|GX (Df 0)<|GX (Df 1) Tf):=Gf (n:=2) e<|Bv (jL S U)<|Bv (jL S U) Ez
theorem RP{b a d:ī}{k:_c}{e:TI}(c:X.calm=_g)(S:H_ X x z scope)(hi:PI X (.Tuple [.Name x b,.Name z a] k d) iter e)
  (h:∀C s₀ H₀ fp,Rf (K_ X x z scope C s₀ H₀ fp) pj tt) (g:∀C s₀ H₀ fp,PE (K_ X x z scope C s₀ H₀ fp) qc te) (j:∀x,foldedSetIterable iter X.env x=pure x:=by intro _;rfl) :
  PE X (.ListComp qc [⟨.Tuple [.Name x b,.Name z a] k d,iter,pj,0⟩] scope pos) (eV e (Tr X.K 2<|GX (Df 0)<|GX (Df 1) Tf) tt te):=Um (F:=λσ τ=>∃f i,τ=f::i::σ) (λ_=>⟨_,_,U⟩) (λ_ _ _ _ q=>q.g) c S hi (λ_ _ _ _=>YS c S) h g j
end
section
variable{Q:VK}
theorem Ed{K:_q}(p:V->_O)(f:V->V)(hl:Dd K H1 a xs)(g:xs.length<sizeLine)
  (h:∀x∈xs,∀H,Aj H1 H->∀R:_O->Hp->Prop,(∀H',Aj H H'->R (p x) H')->tt (_b x::σ) H R)
  (e:∀x∈xs,p x=_g->∀H,Aj H1 H->∀R:VK,(∀H',Aj H H'->R (f x) H')->te (_b x::σ) H R)
  (j:∀D H,H1 D=_o->Aj H1 H->H D=_b (.lst<|(xs.filter p).map f)->Q (.ref D) H):Fe (jb K a) σ H1 Q tt te :=
 Hu p f g (λi H x b d=>⟨xs,x,b.seq hl,d⟩) (λi H y H' b _ c=>⟨c.1,c.2 xs<|b.seq hl⟩) (λH b=>⟨xs,b.seq hl,al _⟩) h e j
theorem JR{K:_q}(f:V->V)(hl:Dd K H1 a xs)
  (c:∀x∈xs,∀H,Aj H1 H->∀R:VK,(∀H',Aj H H'->R (f x) H')->te (_b x::σ) H R)
  (i:∀D H,H1 D=_o->Aj H1 H->H D=_b (.lst<|xs.map f)->Q (.ref D) H)(g:∀x H R,R _g H->tt (_b x::σ) H R:=by intro _ _ _ h;exact h)(d:xs.length<=1000:=by lia):Fe (jb K a) σ H1 Q tt te :=
 Ed (λ_=>_g) f hl (Ax d) (λx _ H _ R k=>g x H _<|k H<|Aj.refl H) (λx h _=>c x h) λD H a b e=>i D H a b<|by rwa [cw.mpr λ_ _=>rfl] at e
theorem Qw{J:It}(p:V->_O)(f:V->_a V)(I:xs.length<sizeLine)
  (C:∀i H x,Aj H1 H->xs[i]? = _b x->J.go i H)(E:∀i H y H',Aj H1 H->i<xs.length->J.yld i H y H'->H'=H/\xs[i]? = _b y)(B:∀H,Aj H1 H->J.stop xs.length H)
  (w:∀x∈xs,∀H,Aj H1 H->∀R:_O->Hp->Prop,(∀H',Aj H H'->R (p x) H')->tt (_b x::σ) H R)
  (F:∀x∈xs,p x=_g->∀H,Aj H1 H->∀R:VK,(∀y H',Aj H H'->TupAt H' (f x) y->R y H')->te (_b x::σ) H R)
  (A:∀D H ys,H1 D=_o->Aj H1 H->H D=_b (.lst ys)->Paired (λx y=>TupAt H (f x) y) (xs.filter p) ys->Q (.ref D) H):Fe J σ H1 Q tt te:=by
 intro D s;have u:Aj H1<|upd H1 D<|.lst []:=λb o e=>by rw[Ak (Ag e s)];exact e
 refine⟨λi m ys H=>m=xs.length - i/\i<=xs.length/\H D=_b (.lst ys)/\Paired (λx y=>TupAt H (f x) y) ((xs.take i).filter p) ys/\Aj H1 H,⟨xs.length,by simp,Ζ _,Ah,by simpa using Paired.nil,u⟩,?_⟩;rintro i m ys H ⟨rfl,L,k,j,g⟩;by_cases c:i<xs.length
 .obtain⟨x,h⟩:∃x,xs[i]? = _b x:=⟨xs[i],by simp[c]⟩;refine .inr ⟨C i H x g h,λy z r=>?_⟩;obtain⟨rfl,l⟩:=E i H y z g c r;rw[h] at l
  cases l;have t:x∈xs:=ai h;have n:ys.length<sizeLine:=by
   rw[<-j.length];refine cc (cr _ _)<|cc ?_ I
   rw[cm];lia
  refine w x t _ g _ λv d=>?_;by_cases a:p x=_g
  .rw[_n a];refine F x t a v (g.trans d) _ λy K q G=>?_;refine⟨q _ _<|d _ _ k,n,xs.length - (i+1),by lia,U,c,Ah,?_,λb o e=>?_⟩
   .rw[Ο p xs i x h,_n a];exact (Bf (Ar (d.trans q) j)<|q _ _<|d _ _ k).snoc<|G.upd<|q _ _<|d _ _ k
   .rw[Ak (Ag e s)];exact q _ _<|d _ _<|g _ _ e
  .rw[_l a];refine⟨xs.length - (i+1),by lia,U,c,d _ _ k,?_,g.trans d⟩;rw[Ο p xs i x h,_l a,cy];exact Ar d j
 .have e:i=xs.length:=Fr L (me c)
  subst e;rw[eP] at j;exact .inl ⟨B H g,A D H ys s g k j⟩
theorem Ow{K:_q}(p:V->_O)(f:V->_a V)(hl:Dd K H1 a xs)(g:xs.length<sizeLine)
  (h:∀x∈xs,∀H,Aj H1 H->∀R:_O->Hp->Prop,(∀H',Aj H H'->R (p x) H')->tt (_b x::σ) H R)
  (e:∀x∈xs,p x=_g->∀H,Aj H1 H->∀R:VK,(∀y H',Aj H H'->TupAt H' (f x) y->R y H')->te (_b x::σ) H R)
  (j:∀D H ys,H1 D=_o->Aj H1 H->H D=_b (.lst ys)->Paired (λx y=>TupAt H (f x) y) (xs.filter p) ys->Q (.ref D) H):Fe (jb K a) σ H1 Q tt te :=
 Qw p f g (λi H x b d=>⟨xs,x,b.seq hl,d⟩) (λi H y H' b _ c=>⟨c.1,c.2 xs<|b.seq hl⟩) (λH b=>⟨xs,b.seq hl,al _⟩) h e j
theorem RB{α β:Type}{F:α->β->Prop}(g:_c->α):∀{n:_c}{l:_a α}{ys:_a β},Paired F l ys->l=(_L n).map g->Paired (λi y=>F (g i) y) (_L n) ys:=by
 intro n;have d:∀(c:_a _c)(ys:_a β),Paired F (c.map g) ys->Paired (λi y=>F (g i) y) c ys:=by
  intro c
  induction c with
  |nil=>intro ys h;cases h;exact .nil
  |cons j c f =>
   intro ys h
   cases h with
   |cons a b=>exact .cons a<|f _ b
 intro l ys h e;subst e;exact d _ _ h
theorem QX(f:_c->_a V)(q:n<sizeLine)
  (p:∀i:_c,i<n->∀H,Aj H1 H->∀R:VK,(∀y H',Aj H H'->TupAt H' (f i) y->R y H')->te (_b (.int (i:_j))::σ) H R)
  (s:∀D H ys,H1 D=_o->Aj H1 H->H D=_b (.lst ys)->Paired (λi y=>TupAt H (f i) y) (_L n) ys->Q (.ref D) H):Fe (kJ 0 n) σ H1 Q Y5 te:=by
 let g:V->Nat:=λv=>match v with | .int i=>i.toNat | _=>0
 have c:∀i:_c,i<n->((_L n).map λ(i:_c)=>V.int (i:_j))[i]? = _b (.int i):=λi a=>by simp[a]
 refine Qw (xs:=(_L n).map λ(i:_c)=>V.int (i:_j)) (λ_=>_g) (λv=>f<|g v) (by simpa using q) (λi H x _ b=>?_) (λi H y H' _ a l=>?_) (λH _=>?_) (λx b H h R k=>k H<|Aj.refl H) (λx b _ H h R k=>?_)<|λD H ys j r t e=>?_
 .have:i<((_L n).map λ(i:_c)=>V.int (i:_j)).length:=(ag.mp b).1;show i<n;simpa using this
 .obtain⟨m,o⟩:=l;have d:i<n:=by simpa using a
  refine⟨m,?_⟩;rw[c i d,o,iE]
 .show n<=_;simp
 .obtain⟨i,a,rfl⟩:=ay.mp b;exact p i (fF.mp a) H h R k
 .rw[cw.mpr (λ_ _=>rfl)] at e;exact s D H ys j r t<|RB (F:=λx y=>TupAt H (f<|g x) y) (λi=>V.int (i:_j)) e U
theorem aU{K:_q}(f:V->V->V)(j:JD K H1 a xs)(q:JD K H1 b ys)(hl:xs.length=ys.length)(J:xs.length<sizeLine)
  (C:∀(i:_c) x y,xs[i]? = _b x->ys[i]? = _b y->∀H,Aj H1 H->∀R:VK,(∀H',Aj H H'->R (f x y) H')->te (_b x::_b y::σ) H R)
  (A:∀D H,H1 D=_o->Aj H1 H->H D=_b (.lst<|Ó f xs ys)->Q (.ref D) H):Im (Itz K a b) σ H1 Q (Tr K 2<|GX (Df 0)<|GX (Df 1) Tf) Y5 te:=by
 intro D n;have w:Aj H1<|upd H1 D<|.lst []:=λb o e=>by rw[Ak (Ag e n)];exact e
 refine⟨λi m h H=>m=xs.length - i/\i<=xs.length/\h=(Ó f xs ys).take i/\H D=_b (.lst h)/\Aj H1 H,⟨xs.length,by simp,Ζ _,by simp,Ah,w⟩,?_⟩;rintro i m h H ⟨rfl,L,rfl,k,c⟩;have g:(Ó f xs ys).length=xs.length:=by rw[kB];lia
 by_cases d:i<xs.length
 .have u:xs[i]? = _b xs[i]:=af d;have z:ys[i]? = _b ys[i]:=af<|hl ▸ d
  refine .inr ⟨⟨xs,ys,_,_,c.tup j,c.tup q,u,z⟩,λv G p E F=>?_⟩;obtain⟨T,B,rfl,p⟩:=p;obtain⟨x,y,r,t,rfl⟩:=p xs ys (c.tup j)<|c.tup q;have l:Aj H<|upd H T<|.tup [x,y]:=λb o e=>by rw[Ak (Ag e B)];exact e
  refine⟨[x,y],oP Ah,U,U,⟨_,_,U⟩,?_⟩;unfold Y5;dsimp only;rw[_n U];refine C i x y r t _ (c.trans l) _ λI s=>?_;refine⟨s _ _<|l _ _ k,?_,xs.length - (i+1),by lia,U,d,?_,Ah,λb o e=>?_⟩
  .rw[cm,g];lia
  .rw[dL,gT,r,t];rfl
  .rw[Ak (Ag e n)];exact s _ _<|l _ _<|c _ _ e
 .have e:i=xs.length:=Fr L (me d)
  subst e;rw[<-g,eP] at k;exact .inl ⟨⟨xs,c.tup j,al _⟩,A D H n c k⟩
theorem Y8{K:_q}(p:_c->V->_O)(f:_c->V->V)(r:Dd K H1 a xs)(G:xs.length<sizeLine)
  (B:∀(i:_c) x,xs[i]? = _b x->∀H,Aj H1 H->∀R:_O->Hp->Prop,(∀H',Aj H H'->R (p i x) H')->tt (_b (.int (i:_j))::_b x::σ) H R)
  (F:∀(i:_c) x,xs[i]? = _b x->p i x=_g->∀H,Aj H1 H->∀R:VK,(∀H',Aj H H'->R (f i x) H')->te (_b (.int (i:_j))::_b x::σ) H R)
  (C:∀D H,H1 D=_o->Aj H1 H->H D=_b (.lst<|(xs.zipIdx.filter λq=>p q.2 q.1).map λq=>f q.2 q.1)->Q (.ref D) H):Im (vY K a) σ H1 Q (Tr K 2<|GX (Df 0)<|GX (Df 1) Tf) tt te:=by
 intro D s;have A:Aj H1<|upd H1 D<|.lst []:=λb o e=>by rw[Ak (Ag e s)];exact e
 refine⟨λi m n H=>m=xs.length - i/\i<=xs.length/\n=(((xs.zipIdx.take i).filter λq=>p q.2 q.1).map λq=>f q.2 q.1)/\H D=_b (.lst n)/\Aj H1 H,⟨xs.length,by simp,Ζ _,by simp,Ah,A⟩,?_⟩;rintro i m n H ⟨rfl,O,rfl,l,c⟩;by_cases d:i<xs.length
 .have z:xs[i]? = _b xs[i]:=af d;refine .inr ⟨⟨xs,_,c.seq r,z⟩,λv M t I L=>?_⟩;obtain⟨T,E,rfl,t⟩:=t;obtain⟨x,u,rfl⟩:=t xs<|c.seq r;have g:Aj H<|upd H T<|.tup [.int (i:_j),x]:=λb o e=>by rw[Ak (Ag e E)];exact e
  have w:xs.zipIdx[i]? = _b (x,i):=by rw[List.getElem?_zipIdx,u];simp
  have j:(((xs.zipIdx.take i).filter λq=>p q.2 q.1).map λq=>f q.2 q.1).length<sizeLine:=by
   rw[ah];refine cc (cr _ _)<|cc ?_ G
   rw[cm,wh];lia
  refine⟨[.int (i:_j),x],oP Ah,U,U,⟨_,_,U⟩,?_⟩;refine B i x u _ (c.trans g) _ λJ k=>?_;by_cases h:p i x=_g
  .rw[_n h];refine F i x u h _ (c.trans<|g.trans k) _ λN y=>?_;refine⟨y _ _<|k _ _<|g _ _ l,j,xs.length - (i+1),by lia,U,d,?_,Ah,λb o e=>?_⟩
   .rw[Ο (λq:V×_c=>p q.2 q.1) xs.zipIdx i (x,i) w,_n h,ba];rfl
   .rw[Ak (Ag e s)];exact y _ _<|k _ _<|g _ _<|c _ _ e
  .rw[_l h];refine⟨xs.length - (i+1),by lia,U,d,?_,k _ _<|g _ _ l,c.trans<|g.trans k⟩;rw[Ο (λq:V×_c=>p q.2 q.1) xs.zipIdx i (x,i) w,_l h,cy]
 .have e:i=xs.length:=Fr O (me d)
  subst e;rw[ë (by simp)] at l;exact .inl ⟨⟨xs,c.seq r,al _⟩,C D H s c l⟩
end
theorem Ld{K:_q}{g:TG}(b:_c->St->Hp->Prop)(o:b 0 σ H)(hl:∀i σ H,i<=xs.length->b i σ H->Dd K H a xs)
  (k:∀(i:_c) x σ H T,xs[i]? = _b x->b i σ H->H T=_o->g (.ref T) σ (upd H T<|.tup [.int (i:_j),x]) λσ' H'=>tb { D with nx:=b<|i+1,ct:=b<|i+1,bk:=D.nx } σ' H')
  (n:∀σ H,b xs.length σ H->D.nx σ H):∃W:_c->_c->St->Hp->Prop,(∃m,W 0 m σ H)/\∀i m σ H,W i m σ H ->
   ((vY K a).stop i H/\D.nx σ H) \/ ((vY K a).go i H/\∃N:St->Hp->Prop,(∀σ H,N σ H->∃m',m'<m/\W (i+1) m' σ H)/\∀x H',(vY K a).yld i H x H'->g x σ H' λσ' uS=>tb { D with nx:=N,ct:=N,bk:=D.nx } σ' uS):=by
 refine⟨λi m σ H=>m=xs.length - i/\i<=xs.length/\b i σ H,⟨_,U,eK _,o⟩,?_⟩;rintro i m σ H ⟨rfl,j,d⟩;by_cases c:i<xs.length
 .refine .inr ⟨⟨xs,_,hl i σ H j d,af c⟩,b<|i+1,λσ' H' h=>⟨xs.length - (i+1),by lia,U,c,h⟩,λv H' f=>?_⟩;obtain⟨T,p,rfl,f⟩:=f;obtain⟨x,l,rfl⟩:=f xs<|hl i σ H j d;exact k i x σ H T l d p
 .have e:i=xs.length:=Fr j (me c)
  subst e;exact .inl ⟨⟨xs,hl _ σ H j d,al _⟩,n σ H d⟩
structure zg(K:_q)(C:_d):Prop where
 ga:Ξ K (.ref C) "__getattribute__" = _b (_b<|.builtin "BaseException.__getattribute__")
 gt:Ξ K (.ref C) "__getattr__" = _b _o
 mb:ć K C (.type "BaseException")=_b _g
 hd:İ K C=_g
 ca:Ξ K (.ref C) "__class__" = _b (_b<|.builtin "object.__class__")
 cg:ı K (.builtin "object.__class__") "__get__" = _b (_b<|.builtin "getset_descriptor.__get__")
 ct:CF K (.builtin "object.__class__")=_b _g
 mo:ć K C (.type "object")=_b _g
noncomputable abbrev bQ:_a Value:=[.type "ValueError",.type "Exception",.type "BaseException",.type "object"]
section
variable{w:_P}
theorem Gg.none_of(x:Gg P w H h)(e:h.get? a=_o):H a=none:=by
 cases q:H a with
 |none=>rfl
 |some u =>
  exfalso;obtain⟨o,c⟩:∃o,h.get? a=_b o:=by
   have z:=x a u q
   cases u with
   |lst d=>obtain⟨_,_,_,_,e⟩:=z;exact⟨_,e⟩
   |tup d=>obtain⟨_,_,_,o,e,_⟩:=z;exact⟨_,e⟩
   |dK b=>obtain⟨_,_,_,_,o,_,_,e,_⟩:=z;exact⟨_,e⟩
   |dT b=>obtain⟨_,_,_,_,o,_,_,e,_⟩:=z;exact⟨_,e⟩
   |set S n=>obtain⟨o,_,_,_,e,_⟩:=z;exact⟨_,e⟩
   |ins C k fs=>obtain⟨_,_,_,e,_⟩:=z;exact⟨_,e⟩
   |own y=>obtain⟨_,e⟩:=z;exact⟨_,e⟩
   |xd fs=>obtain⟨_,⟨_,_,_,e,_⟩,_⟩:=z;exact⟨_,e⟩
   |rng lo i=>obtain⟨_,_,_,e⟩:=z;exact⟨_,e⟩
   |frz j u=>obtain⟨e,_⟩:=z;exact⟨_,e⟩
   |tbl g=>exact⟨_,(show h.get? a=_b _ from z)⟩
   |met f y=>exact⟨_,(show h.get? a=_b _ from z)⟩
   |ext φ=>obtain⟨_,⟨_,e⟩,_⟩:=z;exact⟨_,e⟩
  rw[e] at c;cases c
end
theorem Xv{K:_q}(X:K.In h)(q:Ĉ K C bQ "ValueError.__new__" = _g) :
  ∃bm N nm qn bs hdct sn sub ab col dd k0 k1 k2 k3 k5 mN,h.get? C=_b (excClassObj nm qn C N bs bm hdct sn sub ab col dd k0 k1 k2 k3 k5 "ValueError.__new__")/\h.Ns N mN/\mN "__init__" = _o/\OwnTail h bQ bm:=by
 unfold Ĉ at q;split at q
 .rename_i dd r e k;split at q
  .rename_i s bm k0 k1 k2 k3 n k5 d f;simp only[Θ,_F,ĺ] at q;obtain⟨⟨⟨⟨⟨rfl,rfl⟩,c⟩,j⟩,a⟩,g⟩:=q;obtain⟨nm,bs,m,o,qn,i,sn,sub,ab,col,p⟩:=r;dsimp only at d c a g;subst d c;have b:e = #[k0,k1,k2,k3,_b<|.builtin "ValueError.__new__",k5]:=by
    obtain⟨l⟩:=e;simp only at f;rw[f]
   subst b;exact⟨bm,o,nm,qn,bs,i,sn,sub,ab,col,dd,k0,k1,k2,k3,k5,_,X _ _ k,.of_isNs<|W.isNs_of_in X a,W.nsMap_none_of_in X a g,W.tail_of_in X j⟩
  .cases q
 .cases q
noncomputable def cV:_a V->_a V->_O
 |[],[]=>_g
 |x::xs,y::ys=>U7 x y && cV xs ys
 |_,_=>_p
theorem Qg:∀(xs ys:_a V),xs.length=ys.length->((_L xs.length).all λj=>U7 (xs.getD j .non)<|ys.getD j .non)=cV xs ys
 |[],[],_=>rfl
 |x::xs,y::ys,h=>by
  have a:=Qg xs ys<|by simpa using h
  rw[bi,List.range_succ_eq_map,Ů,oC];show (U7 x y && _)=(U7 x y && cV xs ys);rw[<-a];rfl
 |[],_::_,h=>by simp at h
 |_::_,[],h=>by simp at h
theorem W0:∀(xs ys:_a V),xs.length≠ys.length->cV xs ys=_p
 |[],[],h=>_z U h
 |x::xs,y::ys,h=>by
  show (U7 x y && cV xs ys)=_p;rw[W0 xs ys (λe=>h<|by simp[e]),Ă]
 |[],_::_,_=>rfl
 |_::_,[],_=>rfl
theorem Wu(h:xs.all GP=_g)(a:j<xs.length):GP (xs.getD j .non)=true:=by
 have e:xs.getD j .non=xs[j]:=by simp[a]
 rw[e];exact gi.mp h _<|eJ a
theorem dh{us:_a _k}(r:Vals xs us)(a:j<us.length):RelV (xs.getD j .non) us[j]:=by
 have hl:=r.length;have c:xs[j]? = _b xs[j]:=by simp[hl,a]
 obtain⟨u,b,d⟩:=r.get c;rw[af a] at b
 cases b;have e:xs.getD j .non=xs[j]:=by simp[hl,a]
 rw[e];exact d
inductive yD(K:_q)(neg:_O)(x:V)(y:V)(H:Hp)(Q:VK):Prop
|mk(p q xs ys:_)(_:x=.ref p)(_:y=.ref q)(_:Dd K H p xs)(_:Dd K H q ys)(_:xs.all GP=_g)(_:ys.all GP=_g)(_:Q (.bl (if neg then !cV xs ys else cV xs ys)) H)
theorem VP(m:X.A.units<cLine):HW X (compareOp .NotEq)<|yD X.K true:=by
 intro G s σ H x y v u Q I w A h;obtain⟨p,q,a,b,rfl,rfl,o,t,z,F,k⟩:=h
 cases w
 cases A;obtain⟨c,r,g,J⟩:=I.list o;obtain⟨n,l,i,E⟩:=I.list t;have C:=r.length;have K:=l.length;by_cases hl:a.length=b.length
 .refine Ŗ (e:=λj=>U7 (a.getD j .non)<|b.getD j .non) g.isList i.isList (by simp;lia) m (λj B D=>?_) _ _ _ _ ⟨.bl<|!cV a b,H,I,?_,k⟩
  .have d:j<c.length:=by simpa using B
   have f:j<n.length:=by simpa using D
   simp only[List.getElem_toArray];exact aX (dh r d) (dh l f) (Wu z<|C.symm▸d)<|Wu F<|wT f K.symm
  .rw[bo,<-C,Qg a b hl];exact rfl
 .refine Ĵ g.isList i.isList (by simp;lia) m _ _ _ _ ⟨.bl<|!cV a b,H,I,?_,k⟩;rw[W0 a b hl];exact rfl
end L2
namespace Wd
def mk(l:_a _c):Nat:=l.foldl (λs n=>s ||| 2 ^ n) 0
theorem Y_(l:_a _c):∀(s i:_c),(l.foldl (λs n=>s ||| 2 ^ n) s).testBit i=(s.testBit i || decide (i∈l)):=by
 induction l with
 |nil=>intro s i;simp
 |cons n l b =>
  intro s i;rw[ng,b,kX,wp];by_cases h:n=i
  .subst h;simp
  .have a:¬ i=n:=λe=>h e.symm;simp[h,a]
theorem Ii(l:_a _c)(i:_c):(mk l).testBit i=decide (i∈l):=by
 unfold mk;rw[Y_];simp
def len(n:_c):Nat:=if n=0 then 0 else n.log2+1
theorem dI(h:n.testBit i=_g):i<len n:=by
 unfold len;have a:n≠0:=by intro e;subst e;simp at h
 rw[_l a];have b:2 ^ i<=n:=Nat.ge_two_pow_of_testBit h;have c:i<=n.log2:=(Nat.le_log2 a).mpr b;exact zaa c
def mem(n:_c):_a Nat:=(_L<|len n).filter n.testBit
theorem mem_iff:i∈mem n ↔ n.testBit i=true:=by
 unfold mem;rw[be,fF];exact⟨λh=>h.2,λh=>⟨dI h,h⟩⟩
theorem WT(n:_c):(mem n).Pairwise (· < ·):=ň _ ŷ
theorem Pg{k:_c}(h:n<2 ^ k):len n<=k:=by
 unfold len;split
 .exact LE _ _
 .rename_i a;have:n.log2<k:=(Nat.log2_lt a).mpr h;exact this
theorem Pb:∀{a b:_a _c},a.Pairwise (· < ·)->b.Pairwise (· < ·)->(∀i,i∈a ↔ i∈b)->a=b
 |[],[],_,_,_=>rfl
 |[],y::b,_,_,h=>_z ((h y).mpr Ä)<|by simp
 |x::a,[],_,_,h=>_z ((h x).mp Ä)<|by simp
 |x::a,y::b,f,d,h=>by
  rw[oe] at f d;have g:x=y:=by
   have k:=(h x).mp br;have l:=(h y).mpr br;rcases ce.mp k with e | e
   .exact e
   .rcases ce.mp l with j | j
    .exact j.symm
    .have:=d.1 x e;have:=f.1 y j;lia
  subst g;congr 1;refine Pb f.2 d.2 λi=>⟨λc=>?_,λc=>?_⟩
  .rcases ce.mp ((h i).mp (bg _ c)) with e | e
   .have:=f.1 i c;lia
   .exact e
  .rcases ce.mp ((h i).mpr (bg _ c)) with e | e
   .have:=d.1 i c;lia
   .exact e
theorem rG{l:_a _c}(h:l.Pairwise (· < ·)):mem (mk l)=l :=
 Pb (WT _) h λi=>by rw[mem_iff,Ii];simp
noncomputable def mv(n:_c)(k:_j)(c:_c):Nat:=(if 0<k then n * 2 ^ k.toNat else n / 2 ^ (-k).toNat) % 2 ^ c
theorem Pn(n:_c)(k:_j)(c i:_c):(mv n k c).testBit i=(decide (i<c) && (decide (0<=(i:_j) - k) && n.testBit ((i:_j) - k).toNat)):=by
 unfold mv;rw[Nat.testBit_mod_two_pow];congr 1;split
 .rename_i h;rw[Nat.testBit_mul_two_pow];by_cases b:k.toNat<=i
  .have e:((i:_j) - k).toNat=i - k.toNat:=by lia
   have a:(0:_j)<=i - k:=by lia
   rw[_i a,e];simp[b]
  .have a:¬ (0:_j)<=i - k:=by lia
   rw[_t a];simp[b]
 .rename_i h;rw[Nat.testBit_div_two_pow];have e:((i:_j) - k).toNat=i+(-k).toNat:=by lia
  have a:(0:_j)<=i - k:=by lia
  rw[_i a,e];simp
def stay(l:_a _c)(k:_j)(c:_c):_a Nat:=l.filter λn=>decide (0<=(n:_j)+k) && decide ((n:_j)+k<c)
theorem Xx{l:_a _c}(a:∀n∈l,n<1200):mk l<2 ^ 1200:=by
 refine hZ _ λi b=>?_;rw[Ii];exact _t λh=>_z (a i h)<|Tm b
theorem iH(l:_a _c)(n:_c):mk (l++[n])=mk l ||| 2 ^ n:=by
 unfold mk;rw[List.foldl_append];rfl
end Wd
namespace L2
open PySem PySem.Spec PySem.Calls PyProof.Rows
theorem X_:∀{xs:_a V}{us:_a _k},xs.length=us.length->(∀(j:_c) x u,xs[j]? = _b x->us[j]? = _b u->RelV x u)->Vals xs us
 |[],[],_,_=>.nil
 |[],_::_,h,_=>by simp at h
 |_::_,[],h,_=>by simp at h
 |x::xs,u::us,h,f=>.cons (f 0 x u U U)<|X_ (by simpa using h) λj y v a b=>f (j+1) y v (by simpa using a)<|by simpa using b
section
variable{k1:_c}{qo:ī}
theorem Ol(hc:X.calm=_g):Fw X (.type "list") (λxs H Q=>∃(a:_d)(kvs:_a<|Key × V)(js:_a _j),xs=[V.ref a]/\H a=_b (.dK kvs)/\kvs.map (·.1)=js.map Key.inl/\∀l,H l=_o->Q (.ref l) (upd H l<|.lst<|js.map V.int)):=by
 intro a8 s σ H xs us Q I r h;obtain⟨a,kvs,js,rfl,K,E,q⟩:=h;obtain⟨u,rfl,P⟩:=vals1 r
 cases P;obtain⟨hz,lo,w,f,o,O,ep,v,n,A,M,T,e6⟩:=I.hok a _ K;have hl:kvs.length=w.length:=Paired.length f;have D:s.heap.DictAt (Bm X.prog X.w) a w ep:=⟨o,O,v,n,A,M,T,e6⟩;refine W.kdl_call (W.kdl_dict (knd:=Bm X.prog X.w) (kvs:=w) (ep:=ep) lo) (I.ok.hd hc) D (hl▸hz) ?_;intro h' N g Y hk Z J;have R:js.length=w.length:=by
  have:=congrArg Ε E;rw[ah,ah] at this;lia
 have hv:Vals (js.map V.int) g.toList:=by
  refine X_ (by have h1:g.toList.length=g.size:=_G;have h2:=J.1;rw[ah];lia) λj x u F G=>?_;rw[_x] at G;obtain⟨k,y,C,L⟩:=J.2 j u G;rw[ar] at F;obtain⟨i,hi,rfl⟩:=aI.mp F;have v:(kvs.map (·.1))[j]? = _b (Key.inl i):=by rw[E,ar,hi];rfl
  rw[ar] at v;obtain⟨kv,S,B⟩:=aI.mp v;have c:∀{l:_a (Key × V)}{m:_a (Key × _k)},KV l m->∀{j:_c} {p q},l[j]? = _b p->m[j]? = _b q->p.1=q.1:=by
   intro l m h;unfold KV at h
   induction h with
   |nil=>intro j p q d;simp at d
   |cons a b ih =>
    intro j p q d z
    cases j with
    |zero =>
     simp at d z;subst d z;exact a.1
    |succ j=>exact ih (by simpa using d)<|by simpa using z
  have n:=c f S C;rw[B] at n;have A:k=Key.inl i:=n.symm;subst A;rcases Cd (show M4 (Key.inl i) u=_g from L) with⟨i',t,e,rfl⟩ | ⟨x,t,e,_⟩ | ⟨e,_⟩
  .cases e;exact⟨t,U⟩
  .cases e
  .cases e
 refine⟨.ref s.heap.objs.size,_,I.laid (t':=N) (o:=.lst<|js.map V.int) hk (Η _) ⟨by rw[Τ];lia,g.toList,Y,hv,by simpa using Z⟩,U,q _<|I.hok.fresh<|Η _⟩
theorem Ul:MtR X "int.bit_length" (λx xs H Q=>∃i,x=V.int i/\xs=[]/\Q (.int<|ï i) H):=by
 intro c s σ H x xs v b Q I a r h;obtain⟨i,rfl,rfl,q⟩:=h;obtain⟨t,rfl⟩:=a
 cases r;exact IS ⟨.int _,H,I.tok _,⟨_,U⟩,q⟩
end
theorem Jo(a b:_c):Ć (a:_j) (b:_j)=((a ||| b:_c):_j):=by
 have d:¬ 0<=_S (a:_j):=by unfold _S;lia
 have e:¬ 0<=_S (b:_j):=by unfold _S;lia
 have c:∀x:_j,_S (_S x)=x:=λx=>by unfold _S;lia
 unfold Ć;rw[bitAnd_nn d e,c,c,c];simp
theorem PJ(a b:_c):Χ (a:_j) (b:_j)=((a &&& b:_c):_j):=by
 rw[bitAnd_pp (ja a) (ja b)];simp
theorem MK(n:_c):ï (n:_j)=Wd.len n:=by
 unfold ï Wd.len;by_cases h:n=0
 .subst h;rfl
 .have a:((n:_j) == 0)=false:=by simpa using h
  rw[a,_l h];simp
theorem Ja(k:_c):(2:_j) ^ k=((2 ^ k:_c):_j):=by simp
end L2
namespace Wd
open PySem
abbrev je(xs:_E _c):Prop:=xs.toList.Pairwise (· < ·)
theorem Vf{xs:_E _c}(r:je xs){k:_c}(h:i<k)(a:k<xs.size):xs.getD i 0<xs.getD k 0:=by
 have b:i<xs.size:=lh h a;have:=(List.pairwise_iff_getElem.mp r) i k (by simpa using b) (by simpa using a) h;simpa [ĕ,b,a] using this
structure Cut(xs:_E _c)(j p:_c):Prop where
 le:p<=xs.size
 lo:∀i,i<p->xs.getD i 0<j
 hi:∀i,p<=i->i<xs.size->j<=xs.getD i 0
theorem Pk{xs:_E _c}(r:je xs)(j:_c):∀(fuel lo hi:_c),hi<=xs.size->hi - lo<=fuel->lo<=hi->(∀i,i<lo->xs.getD i 0<j)->(∀i,hi<=i->i<xs.size->j<=xs.getD i 0)->Cut xs j (SetTable.below.go xs j fuel lo hi)
 |0,lo,hi,c,l,m,a,b=>by
  have e:lo=hi:=by lia
  subst e;exact⟨c,a,b⟩
 |fuel+1,lo,hi,c,l,m,a,b=>by
  unfold SetTable.below.go;split
  .rename_i h;have g:(lo+hi) / 2<xs.size:=by lia
   have e:xs.getD ((lo+hi) / 2) j=xs.getD ((lo+hi) / 2) 0:=by simp[ĕ,g]
   dsimp only;rw[e];by_cases d:xs.getD ((lo+hi) / 2) 0<j
   .rw[_n d];refine Pk r j fuel ((lo+hi) / 2+1) hi c (by lia) (by lia) (λi f=>?_) b;by_cases q:i=(lo+hi) / 2
    .rw[q];exact d
    .have:=Vf r (i:=i) (k:=(lo+hi) / 2) (IO (KE f) q) g;exact lh this d
   .rw[_l d];refine Pk r j fuel lo ((lo+hi) / 2) (fR g) (by lia) (by lia) a λi f n=>?_;by_cases q:i=(lo+hi) / 2
    .rw[q];exact me d
    .have:=Vf r (i:=(lo+hi) / 2) (k:=i) (by lia) n;lia
  .have e:lo=hi:=by lia
   subst e;exact⟨c,a,b⟩
theorem QL{xs:_E _c}(r:je xs)(j:_c):Cut xs j (_U xs j) :=
 Pk r j xs.size 0 xs.size (al _) (Η _) (eK _) (λi h=>_z h<|gd _) (λi b a=>_z a<|Tm b)
theorem VB{xs:_E _c}(r:je xs)(h:xs[_U xs j]?≠_b j):j ∉ xs.toList:=λk=>by
 have c:=QL r j;obtain⟨i,l,e⟩:=gy.mp k;have a:i<xs.size:=by simpa using l
 have m:xs.getD i 0=j:=by simpa [ĕ,a] using e
 have b:_U xs j<=i:=by
  rcases nX i (_U xs j) with q | q
  .have:=c.lo i q;lia
  .exact q
 have g:_U xs j<xs.size:=cc b a;have n:=c.hi _ (al _) g;have d:_U xs j=i:=by
  rcases nX (_U xs j) i with q | q
  .have:=Vf r q a;lia
  .exact Fr b q
 refine h ?_;have f:xs[i]=j:=by simpa [ĕ,a] using m
 rw[d,_y a,f]
theorem Vb{xs:_E _c}(r:je xs)(h:xs[_U xs j]?≠_b j):je<|c_ xs (_U xs j) j:=by
 have c:=QL r j;have p:=VB r h;show (c_ xs (_U xs j) j).toList.Pairwise _;rw[UE,mn,oe];have k:∀a∈xs.toList.take (_U xs j),a<j:=λa f=>by
  obtain⟨i,l,e⟩:=gy.mp f;rw[cm] at l;have d:i<xs.size:=by simp at l;lia
  have:=c.lo i<|by lia
  simp[ĕ,d] at this;rw[List.getElem_take] at e;rw[<-e];simpa using this
 have g:∀a∈xs.toList.drop (_U xs j),j<a:=λa f=>by
  obtain⟨i,l,e⟩:=gy.mp f;rw[iS] at l;have d:_U xs j+i<xs.size:=by simp at l;lia
  have:=c.hi (_U xs j+i) (zor _ _) d;simp[ĕ,d] at this;rw[List.getElem_drop] at e;have n:j<=a:=by rw[<-e];simpa using this
  have o:j≠a:=λz=>p<|by rw[z];exact mw f
  lia
 exact⟨r.sublist<|om _ _,⟨g,r.sublist<|ip _ _⟩,λa f b m=>by
  rcases ce.mp m with e | m
  .rw[e];exact k a f
  .have:=k a f;have:=g b m;lia⟩
theorem Y7{t:È}(h:∀i,t.slot j≠.live i):t.place[_U t.place j]?≠_b j:=λe=>by
 refine h (_U t.place j) ?_;unfold US;dsimp only;rw[e];simp
theorem J9(t:È)(p:wu):(t.advance p).dummy=p.dummy:=by
 unfold UU;split <;> rfl
theorem Ka{t:È}{f:_c->_j}{h:_j}:∀(fuel:_c)(p:wu)(j:_c)(dm:_r _c),(∀d,p.dummy=_b d->t.slot d=.dummy)->ę t f h fuel p=_b (.empty j dm) ->
  t.slot j=.empty/\∀d,dm=_b d->t.slot d=.dummy
 |0,p,j,dm,a,e=>by unfold ę at e;cases e
 |fuel+1,p,j,dm,a,e=>by
  unfold ę at e;split at e
  .rename_i b
   cases e;exact⟨b,a⟩
  .rename_i b;refine Ka fuel _ j dm (λd q=>?_) e;rw[J9] at q
   cases q;exact b
  .split at e
   .cases e
   .refine Ka fuel _ j dm (λd q=>?_) e;rw[J9] at q;exact a d q
theorem Yo{t:È}{h:_j}{d:_O}(e:t.freeSlot h=_b (j,d)):∀i,t.slot j≠.live i:=by
 unfold VW at e;split at e
 .rename_i b c q;unfold WH at q;obtain⟨f,k⟩:=Ka _ _ _ _ (λd g=>by simp[WS] at g) q
  cases c with
  |none=>cases e;intro i z;rw[show (_o:_r _c).getD b=b from rfl,f] at z;cases z
  |some a =>
   cases e;intro i z;rw[show (_b a).getD b=a from rfl,k a U] at z
   cases z
 .cases e
structure Good(t:È)(led:_O):Prop where
 led:t.led=led
 ris:t.plain=_g->je t.place
theorem Ve(a:_O):Good (.fresh 0 0 a) a:=⟨U,λ_=>by simp[W',je]⟩
theorem Il{t:È}(g:Good t led)(n:_c):Good (t.standIn n) led:=⟨g.led,λh=>by simp[XE] at h⟩
theorem iy{t:È}(g:Good t led)(n:_c):Good (t.orStandIn n) led:=by
 unfold XP;split
 .exact g
 .exact Il g n
theorem Zu{t:È}(g:Good t led)(c:_E<|_j×_k)(h:_j)(x:_k):Good (layNew t c h x).2.1 led:=by
 unfold layNew;split
 .rename_i a wd e;refine iy (t:=(t.put a).1) ⟨g.led,λb=>?_⟩ _;exact Vb (g.ris b)<|Y7<|Yo e
 .exact Il g _
theorem Yb{h d i:_c}{plain:_O}{j:_E _j}{t:È}{o:_E _c}(e:x9 h d i led plain j=_b (t,o)):Good t led/\t.plain=plain:=by
 unfold x9 at e;simp only[Option.bind_eq_bind,Ť] at e;obtain⟨k,_,e⟩:=e
 cases e;refine⟨⟨U,λ_=>?_⟩,U⟩;show List.Pairwise _ ((Ļ _ _).toArray).toList;rw[ke,List.pairwise_filterMap];refine ŷ.imp λ{a b} c x g y f=>?_;obtain⟨u,_,rfl⟩:=aI.mp g;obtain⟨v,_,rfl⟩:=aI.mp f;exact c
theorem V6{t:È}(g:Good t led)(b:_E<|_j×_k)(n:_c):Good (relayAll t b n).2.1 led:=by
 unfold relayAll;split
 .rename_i c a e;dsimp only;split
  .have:=Yb e;rw[g.led] at this;exact this.1
  .exact Il g _
 .exact Il g _
open PySem PySem.Spec PyProof.Rows
def SetG(prog:Γ)(w:_P)(h:χ)(a:_d)(led:_O)(σ:_a _j):Prop :=
 ∃es ep t,h.get? a=_b { cls:=.type "set",dict:=_o,data:=.set es ep t }/\Sf (intKind prog w) es.toList/\(∀k,k∈σ ↔ ∃e∈es.toList,(intKind prog w).is k e.2=_g)/\es.size=σ.length/\σ.Nodup /\
  σ.length<scanBound/\t.fits es.size=_g/\Good t led
section
variable{w:_P}{σ:_a _j}{k:_j}{tk:y9}
theorem XN{b es':_E (_j×_k)}{ep:_c}{t t':È}(c:h.get? a=_b { cls:=.type "set",dict:=_o,data:=.set b ep t }) :
  (h.update a<|ť es' t').get? a=_b { cls:=.type "set",dict:=_o,data:=.set es' (ep+1) t' } :=
 (Μ (ť es' t') c<|by rw[putSet_of es' t' U];rfl).trans (by rw[putSet_of es' t' U])
end
section
variable{w:_P}
noncomputable abbrev FT(w:_P):Bool:=!w.params.followText "set-order"
theorem yp(a:_k){Q1:vSP}(h:Q1 (.ref s.heap.objs.size) { s with heap:=s.heap.push { cls:=.type "set",dict:=_o,data:=.set #[] 0 (.fresh 0 0<|FT w) } }) :
  codeAny (_D prog w) A (.call (.builtin "set.__new__") ⟨[.type "set",a],[]⟩) (wants Q1 E) s:=by
 refine IX ?_;show wpAny _ A.in1 (do checkBuiltinCall "set.__new__" ⟨[.type "set",a],[]⟩;again (.builtin "set.__new__" ⟨[.type "set",a],[]⟩)) _ _ s;refine _e<|S6 (F.newCall_set_1 a)<|_v ⟨PF Fc _,ĭ F.entry_set_new ?_⟩
 rw[Ġ Fc _];unfold Ĩ.«set.__new__» Builtin.Frozenset.newClass;have b:=sub_set_self;obtain⟨c,g,d,e,os⟩:=s;dsimp only
 wp_walk
 refine wpAny_askSetting<|_v ?_
 dsimp only;simp only[newObj];exact _e<|wpAny_alloc<|_v<|_v h
end
inductive Way(w:_P)(a:_d)(es:_E<|_j×_k)(ep:_c)(t:È)(h:χ):(_c->_k)->_a _k->_a _d->Prop where
 |text(hb:w.params.followText "set-order" = _g):Way w a es ep t h (λ_=>rawInt 0) ((pickOrder (w.params.setOrder a ep) es).toList.map (·.2)) []
 |drawn{tp:_d}{ps:_a _c}(hb:w.params.followText "set-order" = _p)(hp:ps.Perm (_L es.size))(ht:∃n,h.get? tp=_b { cls:=.type "tuple",data:=.seq (ps.map λ(i:_c)=>rawInt i).toArray n }) :
   Way w a es ep t h (λ_=>.ref tp) (ps.map λi=>(es.getD i (0,.none)).2) [tp]
 | plain(hb:w.params.followText "set-order" = _p)(hd:(!t.plain && decide (es.size > 1))=_p)(hl:t.led=_g)(hr:je t.place)(hs:t.place.size=es.size) :
   Way w a es ep t h (λi=>rawInt (if i=0 then 0 else t.place.getD (i - 1) 0+1:_c)) (es.toList.map (·.2)) []
end Wd
namespace L2
open PySem PySem.Spec PyProof.Rows
def SetO(P:Γ)(w:_P)(a:_d)(τ:_a _j):HO:=.ext λh=>Wd.SetG P w h a (Wd.FT w) τ
theorem jB:HW X (binaryOp .LShift)<|rI (λi j=>0<=j/\(ï i:_j)+j<=2 ^ 27) λi j=>.int<|i * 2 ^ j.toNat:=vH λ_ _ _ _ _ _ _ a q=>lshift_int a.1 a.2 q
def x_(K:_q)(a:_d)(xs:_a V):It :=
 ⟨λi H=>Dd K H a xs/\i<xs.length,λi H x H'=>H'=H/\xs[xs.length - 1 - i]? = _b x,λi H=>Dd K H a xs/\i=xs.length⟩
theorem fU{w:_P}{K:_q}(a g:_d)(xs:_a V):Turn P w K tg (x_ K a xs) [g] g (λi h=>h.IsRevIter g a<|(xs.length:_j) - 1 - (i:_c)) where
 mem:=by simp
 obj:=λi h st b f=>by
  have e:b=g:=by simpa using f
  subst e;obtain⟨o,e,c,d⟩:=st;exact⟨o,e,λv z=>by rw[d] at z;cases z⟩
 keep:=λi h j st k=>st.at λo e=>k g (by simp) o e
 item:=by
  intro X y m q L i G s σ H E I l st r;subst y m q;obtain⟨J,S⟩:=r;obtain⟨ab,M,p,hz⟩:=I.list J;have F:xs[xs.length - 1 - i]? = _b (xs[xs.length - 1 - i]'(by lia)):=af<|by lia
  obtain⟨u,Y,O⟩:=M.get F;obtain⟨n,B,f2,A,C,t⟩:=l g<|by simp
  have e:(xs.length:_j) - 1 - ((i:_c):_j)=((xs.length - 1 - i:_c):_j):=by lia
  rw[e] at st;refine wpAny_pyNext_rev_item st p.isList (x:=u) (by simpa using Y) λj D Q=>?_;have Z:Inv X G σ H { s with heap:=j }:=I.turned (t':=s.toks) (λb o f e=>(Q.2 b f).trans e) n B A C t;have R:((xs.length - 1 - i:_c):_j) - 1=(xs.length:_j) - 1 - ((i+1:_c):_j):=by lia
  rw[R] at D;obtain⟨o,T,c,d⟩:=id D;exact⟨u,U,Qy (s:={ s with heap:=j }) T c d (by decide) ⟨_,H,Z,O,⟨U,F⟩,D,λb f=>(l b f).1⟩⟩
 done:=by
  intro X y m q L i G s σ H E I l st r;subst y m q;obtain⟨J,rfl⟩:=r;obtain⟨n,B,f2,A,C,t⟩:=l g<|by simp
  have e:(xs.length:_j) - 1 - ((xs.length:_c):_j) = -1:=by lia
  rw[e] at st;exact wpAny_pyNext_rev_end (I.ok.hd L) st λj N=>⟨U,I.turned (t':=s.toks) (λb o f e=>N b o f e) n B A C t⟩
 self:=λ_ _ _ _ _ st h=>AO st h
inductive oW(K:_q)(R:It->Hp->Prop)(vs:_a V)(H1:Hp):Prop
|mk(a xs:_)(_:vs=[.ref a])(_:Dd K H1 a xs)(_:R (x_ K a xs) H1)
abbrev iRev(K:_q)(ta:TA):TI:=λσ H R=>ta σ H λvs H1=>oW K R vs H1
theorem o9{l:Expr}{j:TA}{p:ī}(n:Gl X "reversed")(A:X.mg "reversed" = _o)(x:PA X [l] j)(v:starEach [l] X.env=[(_p,eval l X.env)]:=by rfl):PI X tg (.Call (.Name "reversed" p) [l] [] pos)<|iRev X.K j:=by
 intro m s σ H R I h;refine LV<|JF I n A I7<|ο (CN (x pos m s σ H _ I h) λE d ⟨G,C,g,w,D⟩=>?_) v U
 obtain⟨a,i,e,r,q⟩:=D;subst e;obtain⟨u,rfl,t⟩:=vals1 w
 cases t;obtain⟨c,z,k,F⟩:=g.list r;refine call_reversed_list k.isList ?_;have f:(d.heap.push<|revObj a<|(c.toArray.size:_j) - 1).IsRevIter d.heap.objs.size a<|(c.toArray.size:_j) - 1:=⟨_,_A _ U,U,U⟩
 refine AO (s:={ d with heap:=d.heap.push (revObj a<|(c.toArray.size:_j) - 1) }) f ?_;refine⟨d.heap.objs.size,[d.heap.objs.size],_,_,C,U,g.kept (t':=d.toks) λb o e=>_f _ e,fU a _ i,?_,λb y=>?_,q⟩
 .have hl:=z.length;have B:((c.toArray.size:_c):_j) - 1=(i.length:_j) - 1 - ((0:_c):_j):=by
   rw[bo];lia
  show (d.heap.push<|revObj a<|(c.toArray.size:_j) - 1).IsRevIter d.heap.objs.size a ((i.length:_j) - 1 - ((0:_c):_j));rw[<-B];exact f
 .have e:b=d.heap.objs.size:=by simpa using y
  subst e;exact g.P0 (al _)<|g.hok.fresh<|al _
theorem jn{K:_q}{g:TG}(b:_c->St->Hp->Prop)(h:b 0 σ H)(hl:∀i σ H,i<=xs.length->b i σ H->Dd K H a xs)
  (l:∀i x σ H,i<xs.length->xs[xs.length - 1 - i]? = _b x->b i σ H->g x σ H λσ2 H2=>tb { D with nx:=b<|i+1,ct:=b<|i+1,bk:=D.nx } σ2 H2) (j:∀σ H,b xs.length σ H->D.nx σ H) :
  ∃W:_c->_c->St->Hp->Prop,(∃m,W 0 m σ H)/\∀i m σ H,W i m σ H ->
   ((x_ K a xs).stop i H/\D.nx σ H) \/ ((x_ K a xs).go i H/\∃N:St->Hp->Prop,(∀σ' H',N σ' H'->∃m',m'<m/\W (i+1) m' σ' H')/\∀x H',(x_ K a xs).yld i H x H'->g x σ H' λσ2 H2=>tb { D with nx:=N,ct:=N,bk:=D.nx } σ2 H2):=by
 refine⟨λi m σ H=>m=xs.length - i/\i<=xs.length/\b i σ H,⟨xs.length,by simp,Ζ _,h⟩,?_⟩;rintro i m σ H ⟨rfl,k,p⟩;have q:=hl i σ H k p;by_cases c:i<xs.length
 .refine .inr ⟨⟨q,c⟩,b<|i+1,λσ' H' f=>⟨xs.length - (i+1),by lia,U,c,f⟩,?_⟩;rintro x H' ⟨rfl,d⟩;exact l i x σ H' c d p
 .have e:i=xs.length:=Fr k (me c)
  subst e;exact .inl ⟨⟨q,U⟩,j σ H p⟩
open PySem PySem.Spec PySem.Calls PyProof.Rows
section
theorem range_any(bs:_a _O):((_L bs.length).any λi=>(bs[i]?).getD _p)=bs.any id:=by
 rw[fh,fq,fq];constructor
 .rintro⟨i,c,e⟩;have a:=fF.mp c;rw[af a] at e;exact⟨_,eJ a,e⟩
 .rintro⟨b,d,e⟩;obtain⟨i,c,q⟩:=gy.mp d;refine⟨i,fF.mpr c,?_⟩;rw[af c,q];exact e
theorem O3(C:X.calm=_g):Fw X (.builtin "any") (λxs H Q=>∃(p:_d)(bs:_a _O),xs=[V.ref p]/\Dd X.K H p (bs.map V.bl)/\Q (.bl<|bs.any id) H):=by
 intro J s σ H xs G Q I r h;obtain⟨p,bs,rfl,w,q⟩:=h;obtain⟨u,rfl,g⟩:=vals1 r
 cases g;obtain⟨a,m,d,M⟩:=I.list w;have c:bs.length=a.length:=by have:=m.length;rw[ah] at this;exact this
 have j:p<s.heap.objs.size:=by obtain⟨_,e,_⟩:=d.isList;exact _B e
 refine call_any_walk<|Ę d.isList ?_
 refine⟨s.heap.objs.size,[s.heap.objs.size,p],[s.heap.objs.size],a.toArray.size,_,_,λi=>(bs[i]?).getD _p,U,Walks.list (A:=X.A.in1) (I.ok.hd C) _ p (db j) a.toArray,
  ⟨⟨_,_A _ U,U,U⟩,d.isList.push _⟩,λi v N L K B k=>?_,λF z E=>?_⟩
 .have n:a[i]? = _b v:=by simpa using B
  have D:i<a.length:=(ag.mp n).1;have l:bs[i]? = _b bs[i]:=by simp[c,D]
  obtain⟨u,t,g⟩:=m.get (i:=i) (x:=.bl bs[i])<|by rw[ar,l];rfl
  rw[n] at t
  cases t
  cases g;dsimp only at k;rw[l] at k;exact _Y k
 .have e:((_L a.toArray.size).any λi=>(bs[i]?).getD _p)=bs.any id:=by rw[bo,<-c];exact range_any bs
  rw[e];refine⟨.bl<|bs.any id,H,I.kept (t':=z) λb o f=>E b o (λy=>?_)<|_f _ f,U,q⟩;rw[av.mp y] at f;exact gS _<|_B f
theorem JX(ns:_a _j):∀j,j<=ns.length->preSum (λi=>(ns[i]?).getD 0) j=(ns.take j).sum
 |0,_=>rfl
 |j+1,h=>by
  have a:=JX ns j<|LT h
  show preSum _ j+(ns[j]?).getD 0=_;rw[a,dL,af<|bq (gx _) h,ge];simp
theorem bh(M:_j):∀ns:_a _j,(∀n∈ns,0<=n/\n<=M)->0<=ns.sum/\ns.sum<=ns.length * M
 |[],_=>by simp
 |n::r,h=>by
  have b:=h n<|br ..
  have c:=bh M r λx a=>h x<|bg _ a
  have e:((n::r).length:_j) * M=r.length * M+M:=by rw[bi];push_cast;rw[Int.add_mul,s_]
  rw[e,kG];lia
theorem fW(G:X.calm=_g):Fw X (.builtin "sum") (λxs H Q=>∃(p:_d)(ns:_a _j),xs=[V.ref p]/\Dd X.K H p (ns.map V.int)/\(∀n∈ns,0<=n/\n<=100000)/\ns.length<=1000/\Q (.int ns.sum) H):=by
 intro P s σ H xs O Q I r h;obtain⟨p,ns,rfl,C,d,hl,q⟩:=h;obtain⟨u,rfl,l⟩:=vals1 r
 cases l;obtain⟨a,m,g,S⟩:=I.list C;have c:ns.length=a.length:=by have:=m.length;rw[ah] at this;exact this
 have f:p<s.heap.objs.size:=by obtain⟨_,e,_⟩:=g.isList;exact _B e
 refine call_sum_walk<|Ę g.isList ?_
 refine⟨s.heap.objs.size,[s.heap.objs.size,p],[s.heap.objs.size],a.toArray.size,_,_,λi=>(ns[i]?).getD 0,U,Walks.list (A:=X.A.in1) (I.ok.hd G) _ p (db f) a.toArray,
  ⟨⟨_,_A _ U,U,U⟩,g.isList.push _⟩,λb d=>?_,λi v F=>?_,λj B=>?_,λN E t' L=>?_⟩
 .rw[ε];rcases ce.mp d with rfl | d
  .exact gx _
  .rw[av.mp d];exact gI f
 .have w:a[i]? = _b v:=by simpa using F
  have K:i<a.length:=(ag.mp w).1;have d:ns[i]? = _b ns[i]:=by simp[c,K]
  obtain⟨u,y,l⟩:=m.get (i:=i) (x:=.int ns[i])<|by rw[ar,d];rfl
  rw[w] at y
  cases y;obtain⟨t,rfl⟩:=l;exact⟨t,by dsimp only;rw[d];rfl⟩
 .have z:j<ns.length:=by rw[c];simpa using B
  rw[JX ns (j+1) z];have M:=d ns[j] (eJ z);have R:=bh 100000 (ns.take<|j+1) λn J=>d n<|gg J
  have T:(ns.take<|j+1).length<=1000:=by rw[cm];lia
  unfold InLong;dsimp only;rw[af z];rw[Option.getD_some];refine⟨⟨?_,?_⟩,⟨?_,?_⟩⟩ <;> lia
 .have e:preSum (λi=>(ns[i]?).getD 0) a.toArray.size=ns.sum:=by rw[bo,<-c,JX ns _<|al _,eP]
  rw[e];refine⟨.int ns.sum,H,I.kept (t':=E) λb o k=>L b o (λD=>?_)<|_f _ k,⟨_,U⟩,q⟩;rw[av.mp D] at k;exact gS _<|_B k
theorem Uz:∀{ts:_a _m}{its:_a _k},Vals (ts.map V.str) its->∃l:_a<|_m×y9,its=strValues l/\l.map (·.1)=ts
 |[],_,h=>by
  cases h;exact⟨[],U,U⟩
 |t::ts,_,h=>by
  cases h with
  |cons a b =>
   obtain⟨k,rfl⟩:=a;obtain⟨l,rfl,rfl⟩:=Uz b;exact⟨(t,k)::l,U,U⟩
theorem jF:MtR X "str.join" (λx xs H Q=>∃(z:_m)(p:_d)(ts:_a _m),x=V.str z/\xs=[V.ref p]/\Dd X.K H p (ts.map V.str)/\JoinOk z ts=_g/\Q (.str<|Txt.join z ts) H):=by
 intro n s σ H x xs v j Q I d r h;obtain⟨z,p,ts,rfl,rfl,g,c,q⟩:=h;obtain⟨t,rfl⟩:=d;obtain⟨w,rfl,a⟩:=Vals.one r
 cases a;obtain⟨i,f,b,o⟩:=I.list g;obtain⟨l,rfl,e⟩:=Uz f;exact SC.join b.isList e c λm k=>⟨.str _,H,I.tok _,⟨_,U⟩,q⟩
structure KDict(K:_q)(P:Đ)(a:_d):Prop where
 is:∃es n,K.lookup a=_b ⟨.type "dict",_o,.dict es n,#[]⟩/\XW P es.toList
 lo:(a == sysModules)=_p
inductive du(K:_q)(P:Đ)(Q:VK)(x:V)(y:V)(H2:Hp):Prop
|mk(a z v u:_)(_:x=.ref a)(_:y=.str z)(_:KDict K P a)(_:_W K a z=_b (_b u))(_:RelV v u)(_:Q v H2)
abbrev AAq(K:_q)(P:Đ)(td ty:TE):TE:=λσ H Q=>td σ H λx H1=>ty σ H1 λy H2=>du K P Q x y H2
inductive lY(K:_q)(P:Đ)(neg:_O)(Q:VK)(y:V)(x:V)(H2:Hp):Prop
|mk(a z r:_)(_:x=.ref a)(_:y=.str z)(_:KDict K P a)(_:_W K a z=_b r)(_:Q (.bl (if neg then !r.isSome else r.isSome)) H2)
abbrev wK(K:_q)(P:Đ)(neg:_O)(ty td:TE):TE:=λσ H Q=>ty σ H λy H1=>td σ H1 λx H2=>lY K P neg Q y x H2
variable{o i:Expr}{td ty:TE}
theorem Ry(m:PE X o td)(hi:PE X i ty)(p:vG i):PE X (.Subscript o i pos)<|AAq X.K X.w.params td ty:=by
 intro b s σ H Q I h;refine Wq kN p<|CN (m b s σ H _ I h) λu C ⟨x,A,D,r,F⟩=>CN (hi b C σ A _ D F) λL J g=>?_
 obtain⟨y,k,d,B,a,z,v,w,e,j,l,f,q,E⟩:=g;subst e j
 cases r;obtain⟨t,rfl⟩:=B;obtain⟨⟨K,n,hl,G⟩,lo⟩:=l;have c:=ő (prog:=X.prog) d.Ig hl G;exact⟨c.typeIs,F6 (Ī X.prog X.w z t) c (yq hl f) ⟨v,k,d.tok _,q,E⟩⟩
theorem bY(hi:PE X i ty)(l:PE X o td):PC X .In i o<|wK X.K X.w.params _p ty td:=by
 intro b s σ H Q I h;refine CN (hi b s σ H _ I h) λF v ⟨y,p,w,q,B⟩=>CN (l b v σ p _ w B) λu D f=>?_;obtain⟨x,j,c,m,a,z,r,d,g,k,e,A⟩:=f;subst d g
 cases m;obtain⟨t,rfl⟩:=q;obtain⟨⟨E,n,hl,C⟩,lo⟩:=k;refine S4 (Ī X.prog X.w z t) lo (ő (prog:=X.prog) c.Ig hl C) ?_;rw[yq hl e];exact⟨.bl r.isSome,j,c.tok _,U,A⟩
theorem Yu(hi:PE X i ty)(l:PE X o td):PC X .NotIn i o<|wK X.K X.w.params _g ty td:=by
 intro b s σ H Q I h;refine CN (hi b s σ H _ I h) λF v ⟨y,p,w,q,B⟩=>CN (l b v σ p _ w B) λu D f=>?_;obtain⟨x,j,c,m,a,z,r,d,g,k,e,A⟩:=f;subst d g
 cases m;obtain⟨t,rfl⟩:=q;obtain⟨⟨E,n,hl,C⟩,lo⟩:=k;refine LZ (Ī X.prog X.w z t) lo (ő (prog:=X.prog) c.Ig hl C) ?_;rw[yq hl e];exact⟨.bl<|!r.isSome,j,c.tok _,U,A⟩
end
end L2
namespace Og
open PySem L2
theorem jq{K:_q}(h:X.K=K):vV X<|jj K:=h ▸ p_
theorem Zq{K:_q}(h:X.K=K):vV X<|qz K:=h ▸ En
theorem Kh{K:_q}(h:X.K=K):HW X (compareOp .In)<|rIn K false:=h ▸ Qp
theorem An(K:_q){o:Expr}{a:TE}{n:_j} {j p pos} (b:PE X o a) (h:X.K=K:=by rfl):PE X (.Subscript o (.Constant (.int n) j p) pos)<|Zk (jj K) a<|tC<|.int n:=Gi (jq h) b Al<|λ_ _=>rfl
theorem B_(K:_q){o i:Expr}{a b:TE}(d:PE X o a)(hi:PE X i b)(h:X.K=K:=by rfl)(c:XQ i:=by exact λ_ _=>rfl):PE X (.Subscript o i pos)<|Zk (qz K) a b:=Gi (Zq h) d hi c
theorem Bd{a b:Expr}{tb:TE}{c:Ū}{r:R2}(f:HW X (compareOp c) r)(e:PE X a ta)(g:PE X b tb)(d:behindInMarks c b=false:=by exact Et _):PT X (.Compare a [c] [b] pos)<|Uc<|Zk r ta tb:=Jl f e g d
structure R where
 w:_m
 nm:_m
 rest:_a V
abbrev R.v(r:R):_a V:=.str r.w :: .str r.nm::r.rest
def isNm(z:_m):Prop:=1<=z.length/\z.length<=8/\∀c∈z.cps.toList,97<=c/\c<=122
def Rows(H:Hp)(ρ:V->R)(vs:_a V):Prop:=∀v∈vs,TupAt H (ρ v).v v
theorem Rows.mono{ρ:V->R}(s:Aj H H')(h:Rows H ρ vs):Rows H' ρ vs:=λv a=>(h v a).mono s
theorem Rows.sub{ρ:V->R}(h:Rows H ρ vs)(a:∀v∈us,v∈vs):Rows H ρ us:=λv b=>h v<|a v b
noncomputable abbrev pw(ρ:V->R)(w:_m)(v:V):Bool:=decide (V.str (ρ v).w=V.str w)
noncomputable abbrev pn(ρ:V->R)(t:_m)(v:V):Bool:=decide (V.str (ρ v).nm=V.str t)
def gB(ρ:V->R)(vs:_a V)(w t:_m):Bool:=(vs.filter<|pw ρ w).any<|pn ρ t
def KTup(K:_q)(a:_d)(xs:_a V):Prop:=∃(o:Þ)(its:_E _k)(n:_c),K.lookup a=_b o/\o.cls=.type "tuple" /\ o.data=.seq its n/\its.size<=sizeLine/\Vals xs its.toList
theorem KTup.sq{K:_q}(h:KTup K a xs)(H:Hp):JD K H a xs:=.inr h
noncomputable abbrev named:_a Str:=["board","rank","stop","coupler","mute"]
def KR(K:_q)(aB:_d)(ρ:V->R)(vs:_a V)(x:V)(part:_m):Prop :=
 (∃(i lo hi:_j)(b:_d),x=.int i/\_W K aB part=_b (_b<|.ref b)/\KTup K b [.int lo,.int hi]/\lo<=i/\i<=hi) \/
 (_W K aB part=_b _o/\part = "new" /\ ∃t,x=.str t/\isNm t/\∀w∈named,gB ρ vs w t=_p) \/
 (_W K aB part=_b _o/\¬ part = "new" /\ ∃t,x=.str t/\isNm t/\gB ρ vs part t=_g)
structure Su(K:_q)(aB aP aM:_d)(ρ:V->R)(vs:_a V)(r:R):Prop where
 ns:¬ r.w = "step"
 nl:¬ r.w = "line"
 parts:∃(ap:_d)(ps:_a _m),_W K aP r.w=_b (_b<|.ref ap)/\KTup K ap (ps.map V.str)/\(V.str r.nm::r.rest).length=ps.length/\ps.length<=10 /\
  ∀(i:_c) x y,(V.str r.nm::r.rest)[i]? = _b x->ps[i]? = _b y->KR K aB ρ vs x y
 room:∃(m:_j)(t:y9),_W K aM r.w=_b (_b<|.int m t)/\(((vs.filter<|pw ρ r.w).length:_c):_j)<m
def letters:Str:="abcdefghijklmnopqrstuvwxyz"
noncomputable abbrev jf(y:_m)(c:_c):Bool:=!(Builtin.Str.occurrences y ⟨#[c]⟩ 0 y.length 1).isEmpty
theorem RD:∀c<128,jf letters c=decide (97<=c/\c<=122):=by decide
theorem A_(h:H p=_o):Aj H<|upd H p o:=λb u e=>by rw[Ak (Ag e h)];exact e
theorem Dr(h:H p=_o):∃H',upd H p o=H'/\Aj H H'/\H' p=_b o:=⟨_,U,A_ h,Ah⟩
theorem CV(h:n<=1000):n<=sizeLine:=fR<|Ax h
theorem ty_int{K:_q}:ξ K (.type "int") (.type "int")=_b true:=by kernel_rfl
theorem nZ{K:_q}:ξ K (.type "int") (.type "bool")=_b false:=by kernel_rfl
theorem nU{K:_q}:ξ K (.type "list") (.type "list")=_b true:=by kernel_rfl
theorem oV{K:_q}:ξ K (.type "tuple") (.type "tuple")=_b true:=by kernel_rfl
theorem W_{K:_q}:ξ K (.type "str") (.type "str")=_b true:=by kernel_rfl
theorem Lf(vs:_a V)(n:_c)(h:n<=vs.length):FQ vs _o (_b (n:_j))=vs.take n:=by
 unfold FQ;have a:HT.Ex vs.length 0 _o=0:=rfl;have b:HT.Ex vs.length vs.length (_b (n:_j))=n:=by
  rw[HT.Gu];lia
 rw[a,b];simp
theorem KH{α:Type}(p:α->_O)(l:_a α):(l.filter p).length<=l.length:=cr _ _
noncomputable abbrev bV(b:_m×_c):_a V:=[.str b.1,.int (b.2:_c)]
noncomputable abbrev Fx(b:_m×_c):R:=⟨"board",b.1,[.int (b.2:_c)]⟩
noncomputable abbrev qV(q:_c×_c):_a V:=[.int (q.1:_c),.int (q.2:_c)]
def Eb(bs:_a<|_m×_c):_a<|_c×Nat:=bs.zipIdx.flatMap λp=>(_L p.1.2).map λe=>(p.2,e)
theorem Z2(bs:_a<|_m×_c)(b:_m×_c):Eb (bs++[b])=Eb bs++(_L b.2).map λe=>(bs.length,e):=by
 unfold Eb;rw[wP];simp
theorem Hi{bs:_a (_m×_c)}{b:_m×_c}(h:bs[i]? = _b b):Eb (bs.take<|i+1)=Eb (bs.take i)++(_L b.2).map λe=>(i,e):=by
 have a:i<bs.length:=(ag.mp h).1;rw[dL,h];show Eb (bs.take i++[b])=_;rw[Z2,cm,ġ<|fR a]
theorem Lg(bs:_a<|_m×_c)(M:_c):(∀b∈bs,b.2<=M)->(Eb bs).length<=bs.length * M:=by
 intro h;have c:∀i,i<=bs.length->(Eb<|bs.take i).length<=i * M:=by
  intro i
  induction i with
  |zero=>intro _;simp[Eb]
  |succ i d =>
   intro g;have a:i<bs.length:=bq (gx _) g
   rw[Hi (af a),am,ah,fT];have e:=d<|fR a
   have f:=h bs[i] (eJ a);have:(i+1) * M=i * M+M:=by rw[Nat.add_mul,Nat.one_mul]
   lia
 have:=c bs.length<|al _
 rw[eP] at this;exact this
theorem Dg{α β:Type}{F:α->β->Prop}{l:_a α}{vs:_a β}(h:Paired F l vs):∀{v},v∈vs->∃a∈l,F a v:=by
 induction h with
 |nil=>intro v c;cases c
 |cons a b d =>
  intro v c;rcases ce.mp c with rfl | c
  .exact⟨_,br ..,a⟩
  .obtain⟨x,e,q⟩:=d c;exact⟨x,bg _ e,q⟩
theorem Br{α β:Type}{F:α->β->Prop}{l:_a α}{vs:_a β}(h:Paired F l vs):∀{i:_c} {a},l[i]? = _b a->∃v,vs[i]? = _b v/\F a v:=by
 induction h with
 |nil=>intro i a b;simp at b
 |cons x y c =>
  intro i a b
  cases i with
  |zero =>
   simp at b;subst b;exact⟨_,U,x⟩
  |succ i=>exact c<|by simpa using b
theorem Dy{α β:Type}{F:α->β->Prop}{l:_a α}{vs:_a β}(h:Paired F l vs):∀{i:_c} {v},vs[i]? = _b v->∃a,l[i]? = _b a/\F a v:=by
 induction h with
 |nil=>intro i a b;simp at b
 |cons x y c =>
  intro i a b
  cases i with
  |zero =>
   simp at b;subst b;exact⟨_,U,x⟩
  |succ i=>exact c<|by simpa using b
theorem M9{α β:Type}{F:α->β->Prop}{l:_a α}{vs:_a β}(h:Paired F l vs):∀n:_c,Paired F (l.take n)<|vs.take n:=by
 induction h with
 |nil=>intro n;simp;exact .nil
 |cons x y a =>
  intro n
  cases n with
  |zero=>exact .nil
  |succ n=>exact .cons x<|a n
theorem CP{α β:Type}{F:α->β->Prop}{l b:_a α}{vs a:_a β}(h:Paired F l vs)(h':Paired F b a):Paired F (l++b)<|vs++a:=by
 induction h with
 |nil=>exact h'
 |cons x y c=>exact .cons x c
theorem Bo{α β γ:Type}{F:γ->β->Prop}(g:α->γ){l:_a α}{vs:_a β}(h:Paired (λa v=>F (g a) v) l vs):Paired F (l.map g) vs:=by
 induction h with
 |nil=>exact .nil
 |cons x y b=>exact .cons x b
theorem HD{α β γ:Type}{F:γ->β->Prop}(g:α->γ):∀{l:_a α}{vs:_a β},Paired F (l.map g) vs->Paired (λa v=>F (g a) v) l vs
 |[],_,h=>by cases h;exact .nil
 |a::l,_,h=>by
  cases h with
  |cons x y=>exact .cons x<|HD g y
noncomputable def ZR(H:Hp)(k:_c):V->V
 |.ref T=>match H T with
  |some (.tup xs)=>xs.getD k .non
  |_=>.non
 |_=>.non
theorem Kq{a:_a V}{v:V}(h:TupAt H a v)(k:_c):ZR H k v=a.getD k .non:=by
 obtain⟨T,rfl,e⟩:=h;show (match H T with | some (.tup xs)=>xs.getD k V.non | _=>V.non)=_;rw[e]
theorem Ni{α:Type}{g:α->_a V}(k:_c){l:_a α}(h:Paired (λa v=>TupAt H (g a) v) l vs):vs.map (ZR H k)=l.map λa=>(g a).getD k .non:=by
 induction h with
 |nil=>rfl
 |cons x y b=>rw[ee,ee,b,Kq x]
def SX(x:_d)(H H':Hp):Prop:=∀b o,H b=_b o->b≠x->H' b=_b o
theorem SX.trans(a:SX x H H1)(b:SX x H1 H2):SX x H H2:=λc o h n=>b c o (a c o h n) n
theorem SX.refl:SX x H H:=λ_ _ h _=>h
theorem SX.of(s:Aj H H'):SX x H H':=λb o h _=>s b o h
theorem SX.up:SX x H<|upd H x o:=λb u h n=>by rw[Ak n];exact h
theorem SX.tup{a:_a V}{y:V}{fs:_a (_m×V)}(s:SX x H H')(b:H x=_b (.ins C dx fs))(h:TupAt H a y):TupAt H' a y:=by
 obtain⟨T,e,q⟩:=h;exact⟨T,e,s _ _ q λz=>by rw[z,b] at q;cases q⟩
theorem SX.pair{α:Type}{f:α->_a V}{l:_a α}{fs:_a (_m×V)}(s:SX x H H')(b:H x=_b (.ins C dx fs))(h:Paired (λa y=>TupAt H (f a) y) l vs):Paired (λa y=>TupAt H' (f a) y) l vs:=Paired.Jt h λ_ _ q=>s.tup b q
theorem SX.lst{fs:_a (_m×V)}(s:SX x H H')(b:H x=_b (.ins C dx fs))(h:H a=_b (.lst xs)):H' a=_b (.lst xs):=s _ _ h λz=>by rw[z,b] at h;cases h
theorem SX.dk{fs:_a (_m×V)}(s:SX x H H')(b:H x=_b (.ins C dx fs))(h:H a=_b (.dK kvs)):H' a=_b (.dK kvs):=s _ _ h λz=>by rw[z,b] at h;cases h
noncomputable abbrev meths:_a Str:=["ranks","pipe_count","pipe","rank_of","board_of_knob","boards","key_count","key","board_of","coupler","knobs","knob_number","board_number","stop","mute","steps","rows"]
inductive xR(C:_d)(H:Hp)(x:_d)(bs:_a<|_m×_c)(ks:_a R):Prop
 |mk(dx:_d)(fs:_a (_m×V))(bl bn kp kr:_d)(f' qf rf:_a V)(kvs:_a (Key×V)):H x=_b (.ins C dx fs)->fs.lookup ("board_list" : _m)=_b (.ref bl)->fs.lookup ("board_numbers" : _m)=_b (.ref bn)->fs.lookup ("key_places" : _m)=_b (.ref kp)->fs.lookup ("knob_rows" : _m)=_b (.ref kr)->(∀m∈meths,fs.lookup m=_o)->H bl=_b (.lst f')->Paired (λb y=>TupAt H (bV b) y) bs f'->H bn=_b (.dK kvs)->(∀(i:_c) b,bs[i]? = _b b->CW kvs (Key.inr b.1)=_b (.int (i:_c)))->H kp=_b (.lst qf)->Paired (λq y=>TupAt H (qV q) y) (Eb bs) qf->H kr=_b (.lst rf)->Paired (λ(r:R) y=>TupAt H r.v y) ks rf->xR C H x bs ks
structure Dv(C:_d)(H:Hp)(x:_d)(bs:_a<|_m×_c)(ks:_a R):Prop where
 ob:xR C H x bs ks
 nb:bs.length<=5
 sz:∀b∈bs,b.2<=61
 nk:ks.length<=200
theorem Dv.mono{bs:_a (_m×_c)}{ks:_a R}(s:Aj H H')(h:Dv C H x bs ks):Dv C H' x bs ks:=by
 obtain⟨⟨y,fs,r,A,m,D,w,u,e,d,f,o,l,n,t,k,z,B,g,v,i,j,p,q⟩,a,b,c⟩:=h;exact⟨⟨y,fs,r,A,m,D,w,u,e,d,s _ _ f,o,l,n,t,k,s _ _ z,Ar s B,s _ _ g,v,s _ _ i,Ar s j,s _ _ p,Ar s q⟩,a,b,c⟩
end Og
variable{ks rows:_a Og.R}{r:Og.R}{ρ:L2.V->Og.R}
namespace L2
open PySem PySem.Spec PyProof.Rows
section
variable{Q:VK}
theorem Uq{K:_q}(p:V->_O)(f:V->V)(hl:JD K H1 a xs)(g:xs.length<sizeLine)
  (h:∀x∈xs,∀H,Aj H1 H->∀R:_O->Hp->Prop,(∀H',Aj H H'->R (p x) H')->tt (_b x::σ) H R)
  (e:∀x∈xs,p x=_g->∀H,Aj H1 H->∀R:VK,(∀H',Aj H H'->R (f x) H')->te (_b x::σ) H R)
  (j:∀D H,H1 D=_o->Aj H1 H->H D=_b (.lst<|(xs.filter p).map f)->Q (.ref D) H):Fe (Itt K a) σ H1 Q tt te :=
 Hu p f g (λi H x b d=>⟨xs,x,b.tup hl,d⟩) (λi H y H' b _ c=>⟨c.1,c.2 xs<|b.tup hl⟩) (λH b=>⟨xs,b.tup hl,al _⟩) h e j
end
end L2
namespace Og
open PySem L2 PyProof.Rows
inductive Kb where
 | cp(i j:_c)(s:_j)
 | pl(w:_m)(i:_c)
def Kb.w:Kb->_m
 |.cp _ _ _=>"coupler"
 |.pl w _=>w
noncomputable def Kb.v:Kb->_a V
 |.cp i j s=>[.str "coupler",.int (i:_c),.int (j:_c),.int s]
 |.pl w i=>[.str w,.int (i:_c)]
def Kb.ok(n:_c):Kb->Prop
 |.cp i j s=>i<n/\j<n /\ -60<=s/\s<=60
 |.pl w i=>i<n/\(w = "mute" \/ w = "stop")
theorem Kb.wo{k:Kb}(h:k.ok n):k.w = "stop" \/ k.w = "coupler" \/ k.w = "mute":=by
 cases k with
 |cp i j s=>exact .inr<|.inl U
 |pl w i=>rcases h.2 with e | e;exact .inr<|.inr e;exact .inl e
noncomputable def J_(w:_m):Nat:=if w = "coupler" then 12 else if w = "mute" then 5 else 24
abbrev Gp(w:_m)(z:Kb):Bool:=decide (V.str z.w=V.str w)
structure Tg(n:_c)(kbs:_a Kb):Prop where
 ok:∀k∈kbs,k.ok n
 room:∀(i:_c) k,kbs[i]? = _b k->((kbs.take i).filter<|Gp k.w).length<J_ k.w
 len:kbs.length<=70
noncomputable def K1(c:_c->_m)(k:_c):Kb->R
 |.cp i j s=>⟨"coupler",c<|30+k,[.str (c i),.str<|c j,.int s]⟩
 |.pl w i=>⟨w,c<|30+k,[.str (c i)]⟩
theorem IK(c:_c->_m)(k:_c)(z:Kb):(K1 c k z).w=z.w:=by cases z <;> rfl
def Az(c:_c->_m)(sz:_a _c):_a<|_m×Nat:=sz.zipIdx.map λp=>(c p.2,p.1)
def Bw(c:_c->_m)(kbs:_a Kb):_a R:=kbs.zipIdx.map λp=>K1 c p.2 p.1
theorem Ej{c:_c->_m}{sz:_a _c}{z:_c}(h:sz[i]? = _b z):(Az c sz)[i]? = _b (c i,z):=by
 unfold Az;rw[ar,kg,h];simp
theorem Yt{c:_c->_m}{sz:_a _c}{b:_m×_c}(h:(Az c sz)[i]? = _b b):∃z,sz[i]? = _b z/\b=(c i,z):=by
 have d:i<(Az c sz).length:=(ag.mp h).1;have a:i<sz.length:=by simpa [Az] using d
 refine⟨sz[i],af a,?_⟩;rw[Ej (af a)] at h;exact (_h h).symm
theorem K6(c:_c->_m)(sz:_a _c):(Az c sz).length=sz.length:=by simp[Az]
theorem Cr(c:_c->_m)(sz:_a _c):(Az c sz).map (·.2)=sz:=by
 unfold Az;rw[bb];refine gu λi=>?_;rw[ar,kg]
 cases sz[i]? <;> simp
theorem Ek{c:_c->_m}{kbs:_a Kb}{z:Kb}(h:kbs[i]? = _b z):(Bw c kbs)[i]? = _b (K1 c i z):=by
 unfold Bw;rw[ar,kg,h];simp
theorem HY{c:_c->_m}{kbs:_a Kb}(h:(Bw c kbs)[i]? = _b r):∃z,kbs[i]? = _b z/\r=K1 c i z:=by
 have b:i<(Bw c kbs).length:=(ag.mp h).1;have a:i<kbs.length:=by simpa [Bw] using b
 refine⟨kbs[i],af a,?_⟩;rw[Ek (af a)] at h;exact (_h h).symm
theorem PK(c:_c->_m)(kbs:_a Kb):(Bw c kbs).length=kbs.length:=by simp[Bw]
structure KF(K:_q)(aB aP aM:_d):Prop where
 pB:∃a,_W K aP "board" = _b (_b<|.ref a)/\KTup K a (["new","keys"].map λs:ã=>V.str s)
 pS:∃a,_W K aP "stop" = _b (_b<|.ref a)/\KTup K a (["new","board"].map λs:ã=>V.str s)
 pM:∃a,_W K aP "mute" = _b (_b<|.ref a)/\KTup K a (["new","board"].map λs:ã=>V.str s)
 pC:∃a,_W K aP "coupler" = _b (_b<|.ref a)/\KTup K a (["new","board","board","leap"].map λs:ã=>V.str s)
 bK:∃a,_W K aB "keys" = _b (_b<|.ref a)/\KTup K a [.int 1,.int 61]
 bL:∃a,_W K aB "leap" = _b (_b<|.ref a)/\KTup K a [.int (-60),.int 60]
 bN:_W K aB "new" = _b _o
 bB:_W K aB "board" = _b _o
 mB:∃t,_W K aM "board" = _b (_b<|.int 5 t)
 mS:∃t,_W K aM "stop" = _b (_b<|.int 24 t)
 mC:∃t,_W K aM "coupler" = _b (_b<|.int 12 t)
 mM:∃t,_W K aM "mute" = _b (_b<|.int 5 t)
noncomputable def KJ(H:Hp):V->R
 |.ref T=>match H T with
  |some (.tup (.str w :: .str n::r))=>⟨w,n,r⟩
  |_=>⟨"","",[]⟩
 |_=>⟨"","",[]⟩
theorem Nv{v:V}(h:TupAt H r.v v):KJ H v=r:=by
 obtain⟨T,rfl,e⟩:=h;show (match H T with | some (.tup (.str w :: .str n::r))=>(⟨w,n,r⟩:R) | _=>⟨"","",[]⟩)=r;rw[e]
theorem Q5{a:_a R}(h:Paired (λ(r:R) v=>TupAt H r.v v) a vs):vs.map (KJ H)=a:=by
 induction h with
 |nil=>rfl
 |cons x y b=>rw[ee,b,Nv x]
noncomputable abbrev Fj(s:_m):Bool:=inV (.str s) [.str "stop",.str "coupler",.str "mute"]
def JW(ρ:V->R)(vs:_a V):_a<|_m×Str:=vs.map λv=>((ρ v).w,(ρ v).nm)
noncomputable abbrev X5(wn:_a<|_m×_m)(w t:_m):Bool:=(wn.filter λp=>decide (p.1=w)).any λp=>decide (p.2=t)
noncomputable abbrev Zt(wn:_a<|_m×_m)(w:_m):Nat:=(wn.filter λp=>decide (p.1=w)).length
theorem Je(a b:_m):decide (V.str a=V.str b)=decide (a=b):=by
 rw[fh,_H,_H];exact⟨V.str.inj,congrArg V.str⟩
theorem Mt(ρ:V->R)(vs:_a V)(w t:_m):gB ρ vs w t=X5 (JW ρ vs) w t:=by
 unfold gB JW;show _=((vs.map λv=>((ρ v).w,(ρ v).nm)).filter λp=>decide (p.1=w)).any λp=>decide (p.2=t);rw[fg,Ÿ];have a:pw ρ w=(λp:_m×_m=>decide (p.1=w)) ∘ λv=>((ρ v).w,(ρ v).nm):=by
  funext v;exact Je _ _
 have b:pn ρ t=(λp:_m×_m=>decide (p.2=t)) ∘ λv=>((ρ v).w,(ρ v).nm):=by
  funext v;exact Je _ _
 rw[a,b]
theorem KQ(ρ:V->R)(vs:_a V)(w:_m):(vs.filter<|pw ρ w).length=Zt (JW ρ vs) w:=by
 unfold JW;show _=((vs.map λv=>((ρ v).w,(ρ v).nm)).filter λp=>decide (p.1=w)).length;rw[fg,ah];have a:pw ρ w=(λp:_m×_m=>decide (p.1=w)) ∘ λv=>((ρ v).w,(ρ v).nm):=by
  funext v;exact Je _ _
 rw[a]
section
variable{K:_q}{wn:_a (_m×_m)}
theorem Ks(F:KF K aB aP aM)(e:JW ρ vs=wn)(a:isNm t)(h:∀w∈named,X5 wn w t=_p):KR K aB ρ vs (.str t) "new" :=
 .inr (.inl ⟨F.bN,U,_,U,a,λw b=>by rw[Mt,e];exact h w b⟩)
theorem KY(F:KF K aB aP aM)(e:JW ρ vs=wn)(a:isNm t)(h:X5 wn "board" t=_g):KR K aB ρ vs (.str t) "board" :=
 .inr (.inr ⟨F.bB,by decide,_,U,a,by rw[Mt,e];exact h⟩)
theorem Yw(F:KF K aB aP aM)(e:JW ρ vs=wn)(k:isNm t)(h:∀w∈named,X5 wn w t=_p)(q:Zt wn "board" < 5)(p:1<=n)(r:n<=61):Su K aB aP aM ρ vs<|Fx (t,n):=by
 obtain⟨g,i,c⟩:=F.pB;obtain⟨f,d,m⟩:=F.bK;obtain⟨l,o⟩:=F.mB;refine⟨by show ¬ ("board" : _m) = "step";decide,by show ¬ ("board" : _m) = "line";decide,⟨g,["new","keys"],i,c,U,by decide,λj x y b a=>?_⟩,⟨5,l,o,?_⟩⟩
 .match j,b,a with
  |0,b,a =>
   cases (_h b)
   cases (_h a);exact Ks F e k h
  |1,b,a =>
   cases (_h b)
   cases (_h a);exact .inl ⟨_,1,61,f,U,d,m,KK.mpr p,KK.mpr r⟩
  |j+2,b,a=>simp at a
 .rw[KQ,e];show ((Zt wn "board" : _c):_j)<5;exact BT.mpr q
theorem Tw(F:KF K aB aP aM)(e:JW ρ vs=wn)(r:isNm t)(h:∀w∈named,X5 wn w t=_p)(B:Zt wn "coupler" < 12){a b:_m}(m:isNm a)(f:X5 wn "board" a=_g)(p:isNm b)(g:X5 wn "board" b=_g){s:_j}(k : -60<=s)(u:s<=60):Su K aB aP aM ρ vs ⟨"coupler",t,[.str a,.str b,.int s]⟩:=by
 obtain⟨o,q,i⟩:=F.pC;obtain⟨n,l,z⟩:=F.bL;obtain⟨v,A⟩:=F.mC;refine⟨by show ¬ ("coupler" : _m) = "step";decide,by show ¬ ("coupler" : _m) = "line";decide,⟨o,["new","board","board","leap"],q,i,U,by decide,λj x y d c=>?_⟩,⟨12,v,A,?_⟩⟩
 .match j,d,c with
  |0,d,c =>
   cases (_h d)
   cases (_h c);exact Ks F e r h
  |1,d,c =>
   cases (_h d)
   cases (_h c);exact KY F e m f
  |2,d,c =>
   cases (_h d)
   cases (_h c);exact KY F e p g
  |3,d,c =>
   cases (_h d)
   cases (_h c);exact .inl ⟨_,-60,60,n,U,l,z,k,u⟩
  |j+4,d,c=>simp at c
 .rw[KQ,e];show ((Zt wn "coupler" : _c):_j)<12;exact BT.mpr B
end
theorem Q3{α:Type}{l:_a α}(h:∀(i j:_c) x,l[i]? = _b x->l[j]? = _b x->i=j):l.Nodup:=by
 refine ic.mpr λi j b c a e=>?_;have:=h i j l[i] (af b) (by rw[e];exact af c);lia
theorem Nq{bs:_a (_m×_c)}:∀{i a n:_c},(Eb bs)[i]? = _b (a,n)->∃b,bs[a]? = _b b/\n<b.2/\i=((bs.map (·.2)).take a).sum+n:=by
 have f:∀m,m<=bs.length->∀{i a n:_c},(Eb<|bs.take m)[i]? = _b (a,n)->∃b,bs[a]? = _b b/\n<b.2/\i=((bs.map (·.2)).take a).sum+n:=by
  intro m
  induction m with
  |zero =>
   intro _ i a n h;simp[Eb] at h
  |succ m j =>
   intro p i a n h;have c:m<bs.length:=bq (gx _) p
   have l:=af c;rw[Hi l] at h;have d:(Eb<|bs.take m).length=((bs.map (·.2)).take m).sum:=by
    have g:∀m,m<=bs.length->(Eb<|bs.take m).length=((bs.map (·.2)).take m).sum:=by
     intro m
     induction m with
     |zero=>intro _;simp[Eb]
     |succ m j =>
      intro p;have c:m<bs.length:=bq (gx _) p
      rw[Hi (af c),am,j<|fR c,ah,fT,dL,ar,af c,ge];simp
    exact g m<|fR c
   by_cases t:i<(Eb<|bs.take m).length
   .rw[fb t] at h;exact j (fR c) h
   .rw[bX (me t),ar] at h;obtain⟨e,r,q⟩:=aI.mp h;have s:i - (Eb<|bs.take m).length<bs[m].2/\e=i - (Eb<|bs.take m).length:=by
     obtain⟨k,o⟩:=ag.mp r;rw[fT] at k;rw[List.getElem_range] at o;exact⟨k,o.symm⟩
    obtain⟨v,u⟩:=Prod.mk.inj q;subst v u;refine⟨bs[m],l,s.2.symm▸s.1,?_⟩;rw[<-d];lia
 intro i a n h;refine f bs.length (al _) ?_;rw[eP];exact h
theorem Eg(bs:_a<|_m×_c):(Eb bs).length=(bs.map (·.2)).sum:=by
 unfold Eb;rw[List.length_flatMap];have:(bs.zipIdx.map λp=>((_L p.1.2).map λe=>(p.2,e)).length)=bs.map (·.2):=by
  refine gu λi=>?_;rw[ar,ar,kg]
  cases bs[i]? <;> simp
 rw[this]
open PySem L2
noncomputable def Ny(bs:_a<|_m×_c)(j1 j2:_c)(s:_j)(qd:_c×_c)(z2:_c):V :=
 if qd.1=j1/\0<=(qd.2:_j)+s/\(qd.2:_j)+s<z2 then .int ((((bs.take j2).map (·.2)).sum:_c)+((qd.2:_j)+s)) else .non
noncomputable def gl(bs:_a<|_m×_c):Kb->_c->_r _c
 |.cp j1 j2 s,i=>match (Eb bs)[i]?,bs[j2]? with
  |some qd,_b b2=>match Ny bs j1 j2 s qd b2.2 with
   |.int v=>_b v.toNat
   |_=>_o
  |_,_=>_o
 |.pl _ _,_=>_o
theorem RQ(l:_a _c):∀{a b:_c},a<=b->(l.take a).sum<=(l.take b).sum:=by
 intro a b h;have e:l.take a=(l.take b).take a:=by rw[List.take_take,ġ h]
 rw[e];have:=congrArg sg<|eW a<|l.take b
 rw[ge] at this;lia
theorem fD{bs:_a (_m×_c)}{j1 a:_c}{s:_j}{b:_c×_c}{c:_m×_c}(g:(Eb bs)[i]? = _b b)(d:bs[a]? = _b c) :
  (Ny bs j1 a s b c.2=.non/\gl bs (.cp j1 a s) i=_o) \/ ∃j:_c,Ny bs j1 a s b c.2=.int (j:_c)/\gl bs (.cp j1 a s) i=_b j/\j<(bs.map (·.2)).sum:=by
 have e:gl bs (.cp j1 a s) i=match Ny bs j1 a s b c.2 with | .int v=>_b v.toNat | _=>none:=by
  simp only[gl,g,d]
 rw[e];unfold Ny;by_cases h:b.1=j1/\0<=(b.2:_j)+s/\(b.2:_j)+s<c.2
 .rw[_n h];obtain⟨l,m,n⟩:=h;have k:((bs.map (·.2)).take<|a+1).sum=(((bs.take a).map (·.2)).sum+c.2):=by
   rw[dL,ar,d,ge,gE];simp
  have f:((bs.map (·.2)).take<|a+1).sum<=(bs.map (·.2)).sum:=by
   have:=congrArg sg (eW (a+1) (bs.map (·.2)));rw[ge] at this;lia
  refine .inr ⟨((((bs.take a).map (·.2)).sum:_c)+((b.2:_j)+s)).toNat,?_,U,by lia⟩;rw[Int.toNat_of_nonneg (zaf (ja _) m)]
 .rw[_l h];exact .inl ⟨U,U⟩
theorem bC{bs:_a (_m×_c)}{z:Kb}(h:gl bs z i=_b j):j<(bs.map (·.2)).sum:=by
 cases z with
 |pl w a=>cases h
 |cp j1 b s =>
  cases hq:(Eb bs)[i]? with
  |none =>
   simp only[gl,hq] at h
   cases h
  |some d =>
   cases hb:bs[b]? with
   |none =>
    simp only[gl,hq,hb] at h
    cases h
   |some f =>
    rcases fD (j1:=j1) (s:=s) hq hb with⟨_,e⟩ | ⟨c,_,e,lt⟩
    .rw[e] at h
     cases h
    .rw[e] at h
     cases h;exact lt
abbrev uy(z:Kb):Bool:=decide (V.str z.w=V.str "coupler")
theorem yZ{bs:_a (_m×_c)}{z:Kb}(h:gl bs z i=_b j):uy z=true:=by
 cases z with
 |pl w a=>cases h
 |cp b c s=>exact _i U
theorem gb{z:Kb}(b:z.ok n)(h:uy z=_g):∃i j s,z=.cp i j s:=by
 cases z with
 |cp i j s=>exact⟨i,j,s,U⟩
 |pl w i =>
  exfalso;have a:=V.str.inj<|_s h
  rcases b.2 with rfl | rfl
  .exact _z a<|by show ¬ ("mute" : _m) = "coupler";decide
  .exact _z a<|by show ¬ ("stop" : _m) = "coupler";decide
inductive stp(bs:_a<|_m×_c)(kbs:_a Kb)(D:_c)(i j:_c):Prop
|mk(k z:_)(_:D.testBit k=_g)(_:kbs[k]? = _b z)(_:gl bs z i=_b j)
inductive Lh(st:_c->_c->Prop)(hd:_c->Prop):_c->Prop
 | one{i j:_c}:hd i->st i j->Lh st hd j
 | more{i j:_c}:Lh st hd i->st i j->Lh st hd j
theorem Lh.mono{d e:_c->_c->Prop}{c f:_c->Prop}(h:Lh d c j)(g:∀i j,d i j->e i j)(k:∀i,c i->f i):Lh e f j:=by
 induction h with
 |one a b=>exact .one (k _ a)<|g _ _ b
 |more a b l=>exact .more l<|g _ _ b
theorem Lh.iff{st:_c->_c->Prop}{a c:_c->Prop}(b:∀i,a i ↔ c i):Lh st a j ↔ Lh st c j:=⟨λh=>h.mono (λ_ _ z=>z) λi=>(b i).mp,λh=>h.mono (λ_ _ z=>z) λi=>(b i).mpr⟩
theorem Lh.lt{bs:_a (_m×_c)}{kbs:_a Kb}{D:_c}{h:_c->Prop}(r:Lh (stp bs kbs D) h j):j<(bs.map (·.2)).sum:=by
 cases r with
 |one a b=>obtain⟨k,z,_,_,e⟩:=b;exact bC e
 |more a b=>obtain⟨k,z,_,_,e⟩:=b;exact bC e
theorem Lh.all{st:_c->_c->Prop}{c:_c->Prop}{W:_c->Prop}(e:∀j,W j->Lh st c j)(d:∀i,(c i \/ W i)->∀j,st i j->W j)(j:_c):W j ↔ Lh st c j:=by
 refine⟨e j,λh=>?_⟩
 induction h with
 |one a b=>exact d _ (.inl a) _ b
 |more a b f=>exact d _ (.inr f) _ b
theorem Ef:∀(T:_c){l:_a _c},l.Nodup->(∀x∈l,x<T)->l.length<=T
 |0,l,_,h=>by
  cases l with
  |nil=>exact al _
  |cons a l=>exact _z (h a<|br ..)<|gd _
 |T+1,l,b,h=>by
  have f:=Ef T (l:=l.erase T) (b.erase T) λx c=>by
   have d:=h x<|List.mem_of_mem_erase c
   have e:x≠T:=λz=>by
    subst z;exact b.not_mem_erase c
   lia
  have:=List.length_erase (a:=T) (l:=l);split at this <;> lia
theorem Zg(a b i:_c):(a ||| b).testBit i=_g ↔ a.testBit i=_g \/ b.testBit i=true:=by
 rw[kX,jv]
theorem jo{a b:_c}(h:∀i,a.testBit i=_g ↔ b.testBit i=_g):a=b:=ki λi=>fh.mpr<|h i
open PySem L2 PyProof.Rows
abbrev Th:=_m×_c×_a V
noncomputable abbrev tV(a:Th):_a V:=.str a.1 :: .int (a.2.1:_c)::a.2.2
abbrev tN(a:Th):_m×Nat:=(a.1,a.2.1)
noncomputable abbrev Z7(r:_m×_c×_j):Th:=(r.1,r.2.1,[.int r.2.2])
abbrev vU(b:_m×_c):Th:=(b.1,b.2,[])
abbrev Rz(r:_m×_c×_j):_m×Nat:=(r.1,r.2.1)
noncomputable abbrev Gh(r:_m×_c×_j):R:=⟨"rank",r.1,[.int (r.2.1:_c),.int r.2.2]⟩
structure Ln where
 r:_c
 sh:_j
 lo:_j
 hi:_j
noncomputable abbrev gZ(l:Ln):_a V:=[.int (l.r:_c),.int l.sh,.int l.lo,.int l.hi]
inductive IV(H:Hp)(l:_a Ln)(v:V):Prop
|mk(A:_d)(ts:_a V)(_:v=.ref A)(_:H A=_b (.lst ts))(_:Paired (λx y=>TupAt H (gZ x) y) l ts)
inductive Jf(H:Hp)(D:_d)(ls:_a<|_a Ln):Prop
|mk(lv:_)(_:H D=_b (.lst lv))(_:Paired (λl v=>IV H l v) ls lv)
theorem IV.mono{l:_a Ln}{v:V}(s:Aj H H')(h:IV H l v):IV H' l v:=by
 obtain⟨A,c,e,a,b⟩:=h;exact⟨A,c,e,s _ _ a,Ar s b⟩
theorem Jf.mono{D:_d}{a:_a (_a Ln)}(s:Aj H H')(h:Jf H D a):Jf H' D a:=by
 obtain⟨d,b,c⟩:=h;exact⟨d,s _ _ b,Paired.Jt c λ_ _ q=>q.mono s⟩
inductive xn(C:_d)(H:Hp)(x:_d)(bs:_a<|_m×_c)(rk:_a<|_m×_c×_j)(ks:_a R)(ls:_a<|_a Ln):Prop
 |mk(dx:_d)(fs:_a (_m×V))(rl rn pp kl:_d)(i8 qf:_a V)(kvs:_a (Key×V)):H x=_b (.ins C dx fs)->fs.lookup ("rank_list" : _m)=_b (.ref rl)->fs.lookup ("rank_numbers" : _m)=_b (.ref rn)->fs.lookup ("pipe_places" : _m)=_b (.ref pp)->fs.lookup ("knob_lines" : _m)=_b (.ref kl)->H rl=_b (.lst i8)->Paired (λ(a:Th) y=>TupAt H (tV a) y) (rk.map Z7) i8->H rn=_b (.dK kvs)->(∀(i:_c) r,rk[i]? = _b r->CW kvs (Key.inr r.1)=_b (.int (i:_c)))->H pp=_b (.lst qf)->Paired (λq y=>TupAt H (qV q) y) (Eb<|rk.map Rz) qf->Jf H kl ls->xn C H x bs rk ks ls
structure FP(C:_d)(H:Hp)(x:_d)(bs:_a<|_m×_c)(rk:_a<|_m×_c×_j)(ks:_a R)(ls:_a<|_a Ln):Prop where
 o:Dv C H x bs ks
 r:xn C H x bs rk ks ls
 nr:rk.length<=12
 nz:∀r∈rk,r.2.1<=97
 nl:ls.length=ks.length
theorem FP.mono{bs:_a (_m×_c)}{rk:_a (_m×_c×_j)}{e:_a (_a Ln)}(s:Aj H H')(h:FP C H x bs rk ks e):FP C H' x bs rk ks e:=by
 obtain⟨o,⟨v,fs,y,A,t,m,q,r,d,f,n,k,l,B,w,z,g,u,i,j,p⟩,a,b,c⟩:=h;exact⟨o.mono s,⟨v,fs,y,A,t,m,q,r,d,s _ _ f,n,k,l,B,s _ _ w,Ar s z,s _ _ g,u,s _ _ i,Ar s j,p.mono s⟩,a,b,c⟩
structure mJ(ρ:V->R)(us:_a V)(i:_c):Prop where
 all:∀j,j<i->∃v,us[us.length - 1 - j]? = _b v/\(ρ v).w = "line"
 lt:i<us.length
 no:∃v,us[us.length - 1 - i]? = _b v/\¬ (ρ v).w = "line"
noncomputable def uG(r:R):Int:=match r.rest with
 |[.int m]=>m
 |_=>0
noncomputable abbrev keyOf(ρ:V->R)(us:_a V)(bd:_m)(n:_j):Bool:=(us.filter<|pw ρ "board").any λv=>pn ρ bd v && decide (n<uG (ρ v))
structure V9(ρ:V->R)(us:_a V)(ro:R):Prop where
 ex:∃(cnt:_c)(v:V)(sh lo hi:_j)(bd:_m)(rs:_a V),ro.rest=[.int sh,.int lo,.int hi]/\mJ ρ us cnt/\cnt<4/\us[us.length - 1 - cnt]? = _b v/\(ρ v).w = "stop" /\ (ρ v).rest=.str bd::rs/\lo<=hi/\keyOf ρ us bd hi=_g
abbrev GK(ρ:V->R)(us:_a V):Prop:=∀v∈us,(ρ v).w = "board"->∃m,(ρ v).rest=[.int m]
structure Q9(K:_q)(aB aP aM:_d)(ρ:V->R)(vs:_a V)(r:R):Prop where
 ns:¬ r.w = "step"
 parts:∃(ap:_d)(ps:_a _m),_W K aP r.w=_b (_b<|.ref ap)/\KTup K ap (ps.map V.str)/\(V.str r.nm::r.rest).length=ps.length/\ps.length<=10 /\
  ∀(i:_c) x y,(V.str r.nm::r.rest)[i]? = _b x->ps[i]? = _b y->KR K aB ρ vs x y
 room:(r.w = "line" /\ _W K aM r.w=_b _o) \/ ∃(m:_j)(t:y9),_W K aM r.w=_b (_b<|.int m t)/\(((vs.filter<|pw ρ r.w).length:_c):_j)<m
 line:r.w = "line"->V9 ρ vs r
 vZ:GK ρ vs
noncomputable def lnOf(rk:_a<|_m×_c×_j)(r:R):Ln:=match r.rest with
 |[.int sh,.int lo,.int hi]=>⟨(rk.map (·.1)).idxOf r.nm,sh,lo,hi⟩
 |_=>⟨0,0,0,0⟩
noncomputable def putL(i9:_a<|_a Ln)(l:Ln):_a<|_a Ln:=match i9.getLast? with
 |some z=>i9.dropLast++[z++[l]]
 |none=>[]
noncomputable def Do(rk:_a<|_m×_c×_j)(i9:_a<|_a Ln)(r:R):_a<|_a Ln:=if Fj r.w=_g then i9++[[]] else if r.w = "line" then putL i9 (lnOf rk r) else i9
def linesOf(rk:_a<|_m×_c×_j)(rs:_a R):_a<|_a Ln:=rs.foldl (Do rk) []
theorem Cv(rk:_a<|_m×_c×_j)(a:_a R)(r:R):linesOf rk (a++[r])=Do rk (linesOf rk a) r:=by
 unfold linesOf;rw[kQ];rfl
theorem Hj(a:_a<|_a Ln)(z:_a Ln)(l:Ln):putL (a++[z]) l=a++[z++[l]]:=by
 unfold putL;rw[List.getLast?_concat,mx]
end Og
variable{kbs:_a Og.Kb}{ls:_a (_a Og.Ln)}
namespace Ws
open PySem PySem.Spec PyProof.Rows Wd
def LK(prog:Γ)(w:_P)(h:χ)(a:_d)(led:_O)(σ:_a _m):Prop :=
 ∃es ep t,h.get? a=_b { cls:=.type "set",dict:=_o,data:=.set es ep t }/\Sf (strKind prog w) es.toList/\(∀k,k∈σ ↔ ∃e∈es.toList,(strKind prog w).is k e.2=_g)/\es.size=σ.length/\σ.Nodup /\
  σ.length<scanBound/\t.fits es.size=_g/\Good t led
noncomputable def G8(σ:_a _m)(k:_m):_a Str:=if k∈σ then σ else σ++[k]
section
variable{w:_P}{σ:_a _m}{k:_m}{tk:y9}
theorem vz{Q:_O->_C->Prop}(hS:LK prog w s.heap a led σ)(room:σ.length+1<scanBound)
  (h:∀b h',Å a s.heap h'->LK prog w h' a led (G8 σ k)->Q b { s with heap:=h' }):wpAny (_D prog w) A (setAddHashed a (.str k tk)<|(strKind prog w).hash k) Q E s:=by
 obtain⟨z,ep,t,K,V,Y,hn,nd,hb,hf,g⟩:=hS;have i:(strKind prog w).is k (.str k tk)=true:=Ī _ _ _ _;have an:z.size<scanBound:=by rw[hn];exact hb
 unfold setAddHashed setAddHashedIn;refine Ν<|_e<|wpAny_setState_of K U hf ?_
 dsimp only;rw[byScan_of U an V,_n U];unfold setAddByScan;refine _e<|_e<|Ρ<|_e<|wpAny_setScan_of i K U hf V ?_
 cases hr:List.findIdx? (λe=>(strKind prog w).is k e.2) z.toList with
 |some j =>
  obtain⟨hj,ab,_⟩:=List.findIdx?_eq_some_iff_getElem.mp hr;have Z:k∈σ:=(Y k).mpr ⟨_,eJ hj,ab⟩;refine _v<|_v ?_
  have:=h _p s.heap (I' a s.heap)<|by unfold G8;rw[_n Z];exact⟨z,ep,t,K,V,Y,hn,nd,hb,hf,g⟩
  exact this
 |none =>
  have Z:k ∉ σ:=λq=>by
   obtain⟨e,M,B⟩:=(Y k).mp q;have:=List.findIdx?_eq_none_iff.mp hr e M;rw[B] at this
   cases this
  dsimp only;have C:=layNew_perm t z ((strKind prog w).hash k)<|.str k tk
  have X:=layNew_fits t z ((strKind prog w).hash k)<|.str k tk
  have T:=Zu g z ((strKind prog w).hash k)<|.str k tk
  generalize layNew t z ((strKind prog w).hash k) (.str k tk)=L at C X T |-;obtain⟨c,G,wd,NX⟩:=L;dsimp only at C X T |-;rw[æ] at C;have P:Sf (strKind prog w) c.toList:=(V.push i U).perm C;have H:c.size=(σ++[k]).length:=by
   have:=C.length_eq;simp only[Ą,_G,ó] at this;simp only[Ą,ó];lia
  have N:∀n,n∈σ++[k] ↔ ∃e∈c.toList,(strKind prog w).is n e.2=true:=λn=>by
   have:=mem_push_iff (knd:=strKind prog w) (S:=λn=>decide (n∈σ)) i (λn=>by rw[_H];exact Y n) C n;rw[<-this];simp
  have ac:(σ++[k]).Nodup:=ļ.mpr ⟨nd,by simp,λx hx y hy=>by
   rw[av.mp hy];intro q;exact Z<|q ▸ hx⟩
  have F:(σ++[k]).length<scanBound:=by simp only[Ą,ó];exact room
  have p:c.size<scanBound:=by rw[H];exact F
  have fin:∀(o:_E<|_j × _k)(d:È)(KA:_c)(I:χ),Å a s.heap I->I.get? a=_b { cls:=.type "set",dict:=_o,data:=.set o KA d }->o.toList.Perm c.toList->d.fits o.size=_g->Good d led ->
    Q _g { s with heap:=I }:=λo d KA I sb e2 W O D=>by
   refine h _g I sb ?_;unfold G8;rw[_l Z];refine⟨o,KA,d,e2,P.perm W,λn=>(N n).trans ⟨λ⟨e,M,q⟩=>⟨e,W.mem_iff.mpr M,q⟩,λ⟨e,M,q⟩=>⟨e,W.mem_iff.mp M,q⟩⟩,?_,ac,F,O,D⟩;rw[<-_G,W.length_eq,_G,H]
  have tail:∀(d:È),d.fits c.size=_g->Good d led->wpAny (_D prog w) A (do
    storeSet a c d
    if (!wd && d.tooFull)=_g then do
      (match (relayAll d c<|ι c.size).2.2 with | true=>rule "set.scan.the-table-gave-way" | false=>pure ())
      storeSet a (relayAll d c<|ι c.size).1 (relayAll d c<|ι c.size).2.1
      pure (_b _g)
     else pure (_b _g)) (λr u=>match r with | some b=>Q b u | none=>Α) E s:=λd O D=>by
   refine _e<|Fs K U ?_<|FU p
   have QI:=í s.heap a<|ť c d
   have e1:=XN (es':=c) (t':=d) K;split
   .have B:=relayAll_perm d c<|ι c.size
    have hq:=relayAll_fits d c<|ι c.size
    have hg:=V6 D c<|ι c.size
    generalize relayAll d c (ι c.size)=R at B hq hg |-;obtain⟨o,t3,gv⟩:=R;dsimp only at B hq hg |-;have ap:o.size<scanBound:=by rw[<-_G,B.length_eq,_G];exact p
    have v:wpAny (_D prog w) A (do storeSet a o t3;pure (_b _g)) (λr u=>match r with | some b=>Q b u | none=>Α) E { s with heap:=s.heap.update a (ť c d) }:=by
     refine _e<|Fs e1 U ?_<|FU ap
     exact _v<|fin o t3 _ _ (QI.trans<|í _ a _) (XN e1) B hq hg
    cases gv
    .exact _e<|_v v
    .exact _e<|Ρ v
   .exact _v<|fin c d _ _ QI e1 (tj _) O D
  have m:∀(d:È),d.fits c.size=_g->Good d led->wpAny (_D prog w) A (do
    storeSet a c d
    if (!wd && d.tooFull)=_g then do
      (match (relayAll d c<|ι c.size).2.2 with | true=>rule "set.scan.the-table-gave-way" | false=>pure ())
      storeSet a (relayAll d c<|ι c.size).1 (relayAll d c<|ι c.size).2.1
      pure (_b _g)
     else pure (_b _g)) (λr u=>wpAny (_D prog w) A (match r with | some f=>pure f | none=>setAddHashedIn a (.str k tk) ((strKind prog w).hash k) 99999) Q E u) E s:=λd O D =>
   ζ (tail d O D) (λr u q=>by
    cases r with
    |none=>exact q.elim
    |some b=>exact _v q) λ_ _ e=>e
  have J:wpAny (_D prog w) A (do
    let l <-if G.plain then hashByValue 8 (.str k tk) else pure _g
    let d:=if l=_g then G else { G with plain:=_p }
    storeSet a c d
    if (!wd && d.tooFull)=_g then do
      (match (relayAll d c<|ι c.size).2.2 with | true=>rule "set.scan.the-table-gave-way" | false=>pure ())
      storeSet a (relayAll d c<|ι c.size).1 (relayAll d c<|ι c.size).2.1
      pure (_b _g)
     else pure (_b _g)) (λr u=>wpAny (_D prog w) A (match r with | some f=>pure f | none=>setAddHashedIn a (.str k tk) ((strKind prog w).hash k) 99999) Q E u) E s:=by
   split
   .rw[hashByValue_scannable 8 U];exact _e<|_v<|m { G with plain:=_p } X ⟨T.led,λh=>by cases h⟩
   .exact _e<|_v<|m G X T
  cases NX
  .exact _e<|_v J
  .exact _e<|Ρ J
end
inductive StrsAre:_a _k->_a _m->Prop
 | nil:StrsAre [] []
 | cons(z:_m)(t:y9){us:_a _k}{zs:_a _m}:StrsAre us zs->StrsAre (.str z t::us) (z::zs)
theorem StrsAre.length:∀{us:_a _k}{zs:_a _m},StrsAre us zs->us.length=zs.length
 |_,_,.nil=>rfl
 |_,_,.cons z t r=>congrArg (· + 1) r.length
theorem StrsAre.fJ:∀{us:_a _k}{zs:_a _m},StrsAre us zs->∀(i:_c)(v:_k),us[i]? = _b v->∃t,v=.str (zs.getD i "") t
 |_,_,.nil,i,v,h=>by simp at h
 |_,_,.cons z t r,0,v,h=>by simp at h;exact⟨t,h.symm⟩
 |_,_,.cons z t r,i+1,v,h=>by
  have a:_:=h;rw[Ŵ] at a;obtain⟨b,e⟩:=r.fJ i v a;exact⟨b,by rw[e];rfl⟩
theorem LK.keep{w:_P}{σ:_a _m}(g:LK prog w h a led σ)(k:∀o,h.get? a=_b o->h'.get? a=_b o):LK prog w h' a led σ :=
 let ⟨c,b,t,e,r⟩:=g;⟨c,b,t,k _ e,r⟩
theorem fP(σ:_a _m)(k:_m):(G8 σ k).length<=σ.length+1:=by
 unfold G8;split
 .exact zor _ _
 .simp
theorem Qc:∀(ns:_a _m)(σ:_a _m),(ns.foldl G8 σ).length<=σ.length+ns.length
 |[],σ=>by simp
 |k::ns,σ=>by
  have a:=Qc ns<|G8 σ k
  have b:=fP σ k;simp only[List.foldl_cons,õ];lia
section
variable{w:_P}{R:CD->_C->Prop}{I:_d}{wr:_a _d}{G:_E z4->_E z4->Prop}{P:_c->_k->Prop}{St:_c->_C->Prop}
theorem qR(W:WalksS prog w A.in1 I fp wr G n P St)(S:_d)(a:S ∉ fp)(ns:_a _m)(J:ns.length=n)(y:∀i v,P i v->∃t,v=.str (ns.getD i "") t)(c:n+1<scanBound) :
  ∀(k i:_c)(s:_C),n - i=k->i<=n->St i s->LK prog w s.heap S led ((ns.take i).foldl G8 []) ->
   (∀s',Moved (S::wr) G s s'->LK prog w s'.heap S led (ns.foldl G8 [])->R (.ok<|.ret .none) s')->codeAny (_D prog w) A (.builtin "set.update.loop" ⟨[.ref S,.ref I],[]⟩) R s:=by
 have f:S ∉ wr:=λz=>a<|W.sub _ z
 have up:∀b∈wr,b∈S::wr:=λb z=>bg _ z;intro k
 induction k with
 |zero =>
  intro i s H D st g d;obtain rfl:i=n:=by lia
  refine ĭ sv ?_;rw[Ġ ğ _];refine _e<|W.done s _ _ st λs' m=>_v<|d s' (m.mono up) ?_
  rw[fE (Ĝ J)] at g;exact g.keep λo e=>m.heap S o f e
 |succ k C =>
  intro i s H D st g d;have lt:i<n:=by lia
  refine ĭ sv ?_;rw[Ġ ğ _];refine _e<|W.item i s _ _ lt st λv s' p E m=>?_
  obtain⟨t,rfl⟩:=y i v p;have l:=g.keep (h':=s'.heap) λo e=>m.heap S o f e;refine _e<|Ν<|Ν<|_e<|(strKind prog w).pyHash (k:=ns.getD i "") (Ī _ _ _ _) ?_
  have room:((ns.take i).foldl G8 []).length+1<scanBound:=by
   have:=Qc (ns.take i) [];rw[cm] at this;simp at this;lia
  have q:ns.take (i+1)=ns.take i++[ns.getD i ""]:=by
   have hl:i<ns.length:=wT lt J.symm
   rw[dL,af hl];simp[hl]
  refine vz (s:={ s' with toks:=s'.toks+1 }) l room λb h' h u=>?_;have j:LK prog w h' S led<|(ns.take<|i+1).foldl G8 []:=by
   rw[q,kQ];exact u
  refine _v ⟨PF ğ _,C (i+1) _ (by lia) lt (W.frame _ s' _ _ E (kA _) λb c o e=>?_) j λx B r=>?_⟩
  .rw[h.2 b (λz:b=S=>a<|z ▸ c)];exact e
  .refine d x (Moved.trans W.gtrans ((m.mono up).then_heap (kA _) λb o c e=>?_) B) r;rw[h.2 b (λz:b=S=>c<|by rw[z];exact br)];exact e
end
section
variable{w:_P}
theorem iw(h:χ):LK prog w (h.push { cls:=.type "set",dict:=_o,data:=.set #[] 0 (.fresh 0 0<|FT w) }) h.objs.size (FT w) [] :=
 ⟨#[],0,_,_A _ U,λe a=>by simp at a,λk=>by simp,U,.nil,by decide,by rfl,Ve _⟩
set_option maxHeartbeats 4000000 in
theorem zL{l:_d}{j:_E _k}(K:A.handled=_o)(hl:s.heap.IsTuple l j)(hi:StrsAre j.toList ns)(N:ns.length+1<scanBound)
  (h:∀h' tk,LK prog w h' s.heap.objs.size (FT w) (ns.foldl G8 [])->(∀b o,s.heap.get? b=_b o->h'.get? b=_b o)->Q (.ref s.heap.objs.size) { s with heap:=h',toks:=tk }) :
  wpAny (_D prog w) A (call (.type "set") [.ref l]) Q E s:=by
 obtain⟨c,tl,FL⟩:=Ý.mro;have SG:=Ý.made;have I:=Ý.sub;have f:j.size=ns.length:=by rw[<-StrsAre.length hi];simp
 refine ž<|IX ?_
 show wpAny _ _ (callAny (.type "set") _) _ _ _;refine _v ⟨Code.quiet_builtin _<|by decide,ĭ F.entry_type_call ?_⟩;rw[Around.under_plain (weight_type_call_type "set" [.ref l] []) U];have h1:=Ý.notType;have h2:=Ý.canCreate;have OO:=F.typeCall_set_1<|.ref l
 repeat (any_goals (first | assumption | wp_step))
 refine ö (yp (.ref l) (E:=E) (Q1:=λd B=>d=.ref s.heap.objs.size/\B = { s with heap:=s.heap.push { cls:=.type "set",dict:=_o,data:=.set #[] 0 (.fresh 0 0<|FT w) } }) ⟨U,U⟩) λr B k=>?_;rcases r with e | fl
 .exact k
 obtain⟨d,rfl,k⟩:∃d,fl=.ret d/\(d=.ref s.heap.objs.size/\B = { s with heap:=s.heap.push { cls:=.type "set",dict:=_o,data:=.set #[] 0 (.fresh 0 0 (FT w)) } }):=by
  cases fl with
  |ret v=>exact⟨v,U,k⟩
  |_=>exact k.elim
 obtain⟨rfl,rfl⟩:=k;have W:(s.heap.push { cls:=.type "set",dict:=_o,data:=.set #[] 0 (.fresh 0 0<|FT w) }).get? s.heap.objs.size=_b { cls:=.type "set",dict:=_o,data:=.set #[] 0 (.fresh 0 0<|FT w) }:=_A _ U;have V:Shared.TypeIs { s with heap:=s.heap.push { cls:=.type "set",dict:=_o,data:=.set #[] 0 (.fresh 0 0<|FT w) } } (.ref s.heap.objs.size) "set":=⟨_,W,U⟩;have L4:=Ý.init.lookup;have wx:=Ý.init.bind<|.ref s.heap.objs.size
 repeat (any_goals (first | assumption | wp_step))
 refine ö (codeAny_call_builtin (R:=wants (λr x=>r=.none/\∃h' tk,x = { s with heap:=h',toks:=tk }/\LK prog w h' s.heap.objs.size (FT w) (ns.foldl G8 [])/\∀b o,s.heap.get? b=_b o->h'.get? b=_b o) E)
  Ý.init.plain F.entry_set_init (check_set_init_1 V ?_)) λL x a=>?_
 .obtain⟨M,J,u,H,D⟩:=hl;obtain⟨VZ,FH,Sr,P⟩:=M;simp only at u D;subst u;subst D;have n:(s.heap.push { cls:=.type "set",dict:=_o,data:=.set #[] 0 (.fresh 0 0<|FT w) }).get? l=_b { cls:=.type "tuple",dict:=FH,data:=.seq j H,slots:=P }:=_f _ J;have XG:=F.sub_tuple_set;have ZN:=F.sub_tuple_frozenset;have ab:(ō "tuple" == ō "dict")=false:=by decide
  have p:(s.heap.push { cls:=.type "set",dict:=_o,data:=.set #[] 0 (.fresh 0 0<|FT w) }).IsTuple l j:=⟨_,n,U,H,U⟩;unfold Ĩ.«set.__init__» noKeywords Builtin.Frozenset.updateFrom;generalize y:pyIter=PI
  wp_walk
  subst y;refine Ď p<|_e<|wpAny_runValue ?_
  have C:l<s.heap.objs.size:=_B J;have h3:A.in1.in1.in1.handled=none:=by simp[K]
  have nI:l≠(s.heap.push { cls:=.type "set",dict:=_o,data:=.set #[] 0 (.fresh 0 0<|FT w) }).objs.size:=by
   rw[ε];exact db<|gI C
  have X:s.heap.objs.size ∉ [(s.heap.push { cls:=.type "set",dict:=_o,data:=.set #[] 0 (.fresh 0 0<|FT w) }).objs.size,l]:=by
   rw[ε];intro z;rcases ce.mp z with q | q
   .exact _z q<|db<|gx _
   .exact _z (av.mp q)<|iA C
  refine qR ((Walks.tuple h3 _ l nI j).toS) s.heap.objs.size X ns f.symm (λi v Y=>StrsAre.fJ hi i v<|by rw[_x];exact Y) (by rw[f];exact N) (j.size - 0) 0 _ U (eK _)
   ⟨⟨_,_A _ U,U,U⟩,p.push _⟩ ((iw s.heap).keep λo e=>_f _ e) λs' m g=>?_
  obtain⟨h',S,Z,T,O⟩:=s';obtain rfl:S=s.gens:=m.gens;obtain rfl:Z=s.drawn:=m.drawn;obtain rfl:O=s.os:=m.os;show wpAny _ _ _ _ _ _;refine _v ?_;show wpAny _ _ (ret _N) _ _ _;refine _v ⟨U,h',T,U,g,λb o e=>?_⟩;have G:=_B e;refine m.heap b o (λz=>?_)<|_f _<|_f _ e
  rcases ce.mp z with q | q
  .exact _z q<|db G
  .have:=av.mp q;rw[ε] at this;exact _z this<|db<|gI G
 .rcases L with e | t
  .exact a
  obtain⟨r,rfl,a⟩:∃r,t=.ret r/\(r=.none/\∃h' tk,x = { s with heap:=h',toks:=tk }/\LK prog w h' s.heap.objs.size (FT w) (ns.foldl G8 [])/\∀b o,s.heap.get? b=_b o->h'.get? b=_b o):=by
   cases t with
   |ret v=>exact⟨v,U,a⟩
   |_=>exact a.elim
  obtain⟨rfl,h',tk,rfl,g,hk⟩:=a;repeat (any_goals (first | assumption | wp_step))
  exact h _ _ g hk
end
end Ws
namespace L2
open PySem PySem.Spec PyProof.Rows
def TJ(P:Γ)(w:_P)(a:_d)(τ:_a _m):HO:=.ext λh=>Ws.LK P w h a (Wd.FT w) τ
theorem bu{w:_P}{τ:_a _m}(g:Ws.LK P w h a (Wd.FT w) τ):CG P w H h a (TJ P w a τ) :=
 ⟨g,(let ⟨_,_,_,e,_⟩:=g;⟨_,e⟩),λ_ _ g k=>g.keep k⟩
theorem QG:∀{ts:_a _m}{us:_a _k},Vals (ts.map V.str) us->Ws.StrsAre us ts
 |[],_,r=>by cases r;exact .nil
 |n::ns,_,r=>by
  cases r with
  |cons r t =>
   obtain⟨a,rfl⟩:=r;exact .cons n a<|QG t
theorem Yn(c:X.calm=_g):Fw X (.type "set") (λxs H Q=>∃(l:_d)(ts:_a _m),xs=[V.ref l]/\JD X.K H l (ts.map V.str)/\ts.length<=1000/\∀p,H p=_o->Q (.ref p) (upd H p<|TJ X.prog X.w p<|ts.foldl Ws.G8 [])):=by
 intro n s σ H xs m Q I r h;obtain⟨l,ts,rfl,hl,o,q⟩:=h;obtain⟨u,rfl,a⟩:=vals1 r
 cases a;obtain⟨i,d,b,_⟩:=I.tuple hl;have e:H s.heap.objs.size=none:=I.hok.fresh<|al _
 refine Ws.zL (I.ok.hd c) b (by simpa using QG d) (by unfold scanBound;exact Y' (cc o (by decide))) λj f g k=>?_;exact⟨.ref s.heap.objs.size,_,I.laid (t':=f) k (al _)<|bu g,U,q _ e⟩
theorem QB:Fw X (.builtin "len") (λxs H Q=>∃(a:_d)(τ:_a _m),xs=[V.ref a]/\H a=_b (TJ X.prog X.w a τ)/\Q (.int (τ.length:_c)) H):=by
 intro m s σ H xs k Q I r h;obtain⟨a,τ,rfl,c,q⟩:=h;obtain⟨u,rfl,i⟩:=vals1 r
 cases i;obtain⟨⟨g,o,t,b,n,j,f,l,e,d,p⟩,_,_⟩:=(show CG X.prog X.w H s.heap a (TJ X.prog X.w a τ) from I.hok a _ c);unfold scanBound at e;refine call_len_set b ⟨U,U,U⟩ U d (by lia) ⟨.int ((g.size:_c):_j),H,I.tok _,⟨_,U⟩,?_⟩;rw[f];exact q
theorem Qo:∀(ts τ:_a _m),(τ++ts).Nodup->(ts.foldl Ws.G8 τ)=τ++ts
 |[],τ,_=>(cy _).symm
 |t::ts,τ,h=>by
  have a:t ∉ τ:=λz=>by
   rw[kS] at h;exact h.2.2 t z t (br ..) U
  rw[ng];have e:Ws.G8 τ t=τ++[t]:=by unfold Ws.G8;rw[_l a]
  rw[e,Qo ts (τ++[t])<|by rw[dt];exact h,dt];rfl
end L2
namespace Og
open PySem L2
theorem iQ{K:_q}{e:Expr}{f:_m}(a:X.K=K)(b:PE X e ta)(c:attributeBase e f X.env (eval e X.env)=eval e X.env):PE X (.Attribute e f pos)<|yW K ta f:=by
 rw[<-a];exact BX b c
structure qC(K:_q)(aM:_d)(ρ:V->R)(vs:_a V)(r:R):Prop where
 w:r.w = "step"
 ts:∃ts:_a _m,V.str r.nm::r.rest=ts.map V.str/\ts.Nodup/\ts.length<=24/\∀t∈ts,isNm t/\gB ρ vs "stop" t=_g
 room:∃(m:_j)(t:y9),_W K aM r.w=_b (_b<|.int m t)/\(((vs.filter<|pw ρ r.w).length:_c):_j)<m
abbrev JH(K:_q)(aB aP aM:_d)(ρ:V->R)(vs:_a V)(r:R):Prop:=Q9 K aB aP aM ρ vs r \/ qC K aM ρ vs r
theorem JH.room{K:_q}(h:JH K aB aP aM ρ vs r):_W K aM r.w=_b _o \/ ∃(m:_j)(t:y9),_W K aM r.w=_b (_b<|.int m t)/\(((vs.filter<|pw ρ r.w).length:_c):_j)<m :=
 h.elim (λh=>h.room.elim (λz=>.inl z.2) .inr) (λh=>.inr h.room)
def Rh(r:R):_a Str:=(V.str r.nm::r.rest).map λv=>match v with | .str t=>t | _=>""
theorem Ji{ts:_a _m}(h:V.str r.nm::r.rest=ts.map V.str):Rh r=ts:=by
 unfold Rh;rw[h,bb];exact nt ts
def stN(ks:_a R)(r:R):Nat:=Wd.mk ((Rh r).map λt=>(ks.map (·.nm)).idxOf t)
structure Ok6(K:_q)(aB aP aM:_d)(ρ:V->R)(us:_a V)(bs:_a<|_m×_c)(rk:_a<|_m×_c×_j)(ks:_a R):Prop where
 eb:(us.filter<|pw ρ "board").map ρ=bs.map Fx
 er:(us.filter<|pw ρ "rank").map ρ=rk.map Gh
 ek:(us.filter<|λv=>Fj (ρ v).w).map ρ=ks
 ln:∀(i:_c) v,us[i]? = _b v->(ρ v).w = "line"->(∃(j:_c)(r:_m × _c × _j)(sh lo hi:_j),rk[j]? = _b r/\r.1=(ρ v).nm/\(ρ v).rest=[.int sh,.int lo,.int hi])/\∃u∈us.take i,Fj (ρ u).w=_g
 st:∀v∈us,(ρ v).w = "step"->∃ts:_a _m,V.str (ρ v).nm::(ρ v).rest=ts.map V.str/\ts.length<=24/\∀t∈ts,t∈ks.map (·.nm)
 b0:1<=bs.length
 b5:bs.length<=5
 sz:∀b∈bs,b.2<=61
 nr:rk.length<=12
 nz:∀r∈rk,r.2.1<=97
 nk:ks.length<=100
 nb:(bs.map (·.1)).Nodup
 nrr:(rk.map (·.1)).Nodup
 nn:(ks.map (·.nm)).Nodup
 len:us.length<=150
 ok:∀(i:_c) v,us[i]? = _b v->JH K aB aP aM ρ (us.take i) (ρ v)
inductive vy(C:_d)(H:Hp)(x:_d)(us:_a V)(bs:_a<|_m×_c)(rk:_a<|_m×_c×_j)(ks:_a R)(ls:_a<|_a Ln)(sts:_a _c):Prop
|mk(dx:_d)(fs:_a (_m×V))(rl kd ss:_d)(kvs:_a (Key×V))(q1:H x=_b (.ins C dx fs))(q2:fs.lookup ("row_list" : _m)=_b (.ref rl))(q3:fs.lookup ("knob_numbers" : _m)=_b (.ref kd))(q4:fs.lookup ("step_sets" : _m)=_b (.ref ss))(q5:H rl=_b (.lst us))(q6:H kd=_b (.dK kvs))(q7:(∀(i:_c) t,(ks.map (·.nm))[i]? = _b t->CW kvs (Key.inr t)=_b (.int (i:_c))))(q8:(∀t,t ∉ ks.map (·.nm)->CW kvs (Key.inr t)=_o))(q9:H ss=_b (.lst (sts.map λn:_c=>V.int (n:_j))))(bn:_d)(kb:_a<|Key×V)(_:fs.lookup ("board_numbers" : _m)=_b (.ref bn))(_:H bn=_b (.dK kb))(_:∀t,t ∉ bs.map (·.1)->CW kb (Key.inr t)=_o)
structure Jv(C:_d)(H:Hp)(x:_d)(us:_a V)(bs:_a<|_m×_c)(rk:_a<|_m×_c×_j)(ks:_a R)(ls:_a<|_a Ln)(sts:_a _c):Prop where
 o:FP C H x bs rk ks ls
 m:vy C H x us bs rk ks ls sts
theorem Jv.mono{bs:_a (_m×_c)}{rk:_a (_m×_c×_j)}(s:Aj H H')(h:Jv C H x us bs rk ks ls sts):Jv C H' x us bs rk ks ls sts:=by
 obtain⟨o,v,fs,q,u,i,a,b,j,f,g,p,t,c,n,d,r,m,e,k,l⟩:=h;exact⟨o.mono s,v,fs,q,u,i,a,s _ _ b,j,f,g,s _ _ p,s _ _ t,c,n,s _ _ d,r,m,e,s _ _ k,l⟩
inductive GQ(p:_d)(H:Hp)(D:_d)(ls:_a<|_a Ln):Prop
|mk(lv:_)(_:H D=_b (.lst lv))(_:D≠p)(_:Paired (λl v=>IV H l v/\v≠.ref p) ls lv)
theorem GQ.sx{fs:_a (_m×V)}{D:_d}(h:GQ p H D ls)(s:SX x H H')(a:H x=_b (.ins C dx fs)):GQ p H' D ls:=by
 obtain⟨j,b,f,i⟩:=h;refine⟨j,s.lst a b,f,Paired.Jt i λ_ _ q=>⟨?_,q.2⟩⟩;obtain⟨A,g,e,c,d⟩:=q.1;exact⟨A,g,e,s.lst a c,s.pair a d⟩
theorem bF{a:_a V}{y:V}(s:SX p H H')(b:H p=_b (.lst us))(h:TupAt H a y):TupAt H' a y:=by
 obtain⟨T,rfl,e⟩:=h;exact⟨T,U,s _ _ e λz=>by rw[z,b] at e;cases e⟩
theorem K3{α:Type}{f:α->_a V}{l:_a α}(s:SX p H H')(b:H p=_b (.lst us))(h:Paired (λa y=>TupAt H (f a) y) l vs):Paired (λa y=>TupAt H' (f a) y) l vs:=Paired.Jt h λ_ _ q=>bF s b q
theorem bU(s:SX p H H')(b:H p=_b (.lst us))(h:H a=_b (.dK kvs)):H' a=_b (.dK kvs):=s _ _ h λz=>by rw[z,b] at h;cases h
theorem GQ.sp{D:_d}(h:GQ p H D ls)(s:SX p H H')(c:H p=_b (.lst us)):Jf H' D ls:=by
 obtain⟨j,b,f,i⟩:=h;refine⟨j,s _ _ b f,Paired.Jt i λ_ v q=>?_⟩;obtain⟨⟨A,g,rfl,d,e⟩,a⟩:=q;exact⟨A,g,U,s _ _ d<|λz=>a<|by rw[z],K3 s c e⟩
end Og
namespace L2
open PySem PySem.Spec PySem.Calls PyProof.Rows
inductive mZ(h:χ)(x T C:_d)(od:_r _d)(fl:_k):Prop
|mk(vs ts:_E _k)(sl:_E (_r _k:_))(oT:Þ)(_:h.get? x=_b ⟨.ref C,od,.fields vs,sl⟩)(_:vs[1]? = _b (.ref T))(_:T≠x)(_:h.get? T=_b oT)(_:oT.data=.fields ts)(_:ts[3]? = _b fl)
structure Mv(fs:_a _d)(x T:_d)(h h':χ):Prop where
 keep:∀b o,h.get? b=_b o->b≠x->b≠T->b ∉ fs->h'.get? b=_b o
 any:∀b o,h.get? b=_b o->b≠x->b≠T->∃sl,h'.get? b=_b { o with slots:=sl }
section
variable{M:z5}{env:ŀ}{outer:_a ŀ}{L T:_d}{od:_r _d}{Q:Cn->_C->Prop}
theorem Oa{vs:_E _k}{j:_E (_r _k)}{head:_k}{z:_O}(n:A.frames=_b (env::outer))(hl:s.heap.FunFrames base<|env::outer)(v:env.frame=_b L)
  (q:s.heap.get? x=_b ⟨.ref C,od,.fields vs,j⟩)(hsz:1<vs.size)
  (h:∀h' T',mZ h' x T' C od (rawInt L)->Mv (frs<|env::outer) x x s.heap h'->s.heap.get? T'=_o->Q () { s with heap:=h' }) :
  wpAny M A (do let a <-frameOf env;let pl <-entryPlaceOf L z;let b <-EntryCells.newEntry head a .none (rawInt L) .none pl;setField (.ref x) 1 b) Q E s:=by
 have d:x ∉ (env::outer).filterMap (·.frame):=λB=>by
  obtain⟨_,o,k,y⟩:=hl.mem B;rw[q] at k;injection k with k;subst k;exact y vs U
 refine _e<|wpAny_frameOf_fun n hl v λc i=>?_
 refine _e<|wpAny_entryPlaceOf λpl e=>?_
 unfold EntryCells.newEntry newFields;refine _e<|Δ ?_<|e.sizeOk5 _ _ _ _ _
 have g:c.get? x=_b ⟨.ref C,od,.fields vs,j⟩:=(i.2.1 x d).trans q;have r:=_f (h:=c) { cls:=.type "traceback",dict:=_o,data:=.fields ([head,.ref L,.none,rawInt L,.none]++(if pl.isEmpty then Λ 6 _N else pl)).toArray } g;refine đ r U hsz ?_;have f:c.objs.size≠x:=iA<|_B g
 have D:=Ç (o:=⟨.ref C,od,.fields vs,j⟩) U (·.setIfInBounds 1 (_K c.objs.size));have l:=Μ (á (·.setIfInBounds 1 (_K c.objs.size))) r<|ô D
 have w:=(_Z (c.push { cls:=.type "traceback",dict:=_o,data:=.fields ([head,.ref L,.none,rawInt L,.none]++(if pl.isEmpty then Λ 6 _N else pl)).toArray })
  (á (·.setIfInBounds 1 (_K c.objs.size))) (_J f)).trans (_A c U)
 refine h _ c.objs.size ⟨_,_,j,_,l,by simp[hsz],f,w,U,by first | (simp;done) | (rcases e with rfl | ⟨_,_,_,_,_,_,_,rfl⟩ <;> simp)⟩ ⟨λb o p m _ u=>?_,λb o p m _=>?_⟩ ?_
 .rw[_Z _ _ (_J m)];exact _f _<|(i.2.1 b u).trans p
 .obtain⟨t,F⟩:=i.2.2 b o p;rw[_Z _ _ (_J m)];exact⟨t,_f _ F⟩
 .refine ý ?_;rw[i.1];exact al _
theorem WY{vs:_E _k}{e:_E (_r _k)}(a:A.frames=_b (env::outer))(hl:s.heap.FunFrames base<|env::outer)(c:env.frame=_b L)
  (d:s.heap.get? x=_b ⟨.ref C,od,.fields vs,e⟩)(b:vs[1]? = _b .none)
  (h:∀h' T',mZ h' x T' C od (rawInt L)->Mv (frs<|env::outer) x x s.heap h'->s.heap.get? T'=_o->Q () { s with heap:=h' }):wpAny M A (noteFrame (.ref x) env) Q E s:=by
 unfold noteFrame;simp only[c];refine _e<|δ d U b ?_
 rw[_l (by decide)];exact Oa a hl c d (υ.mp b).1 h
theorem X3(k:A.frames=_b (env::outer))(hl:s.heap.FunFrames base<|env::outer)(B:env.frame=_b L)(F:mZ s.heap x T C od .none)
  (h:∀h' T',mZ h' x T' C od (rawInt L)->Mv (frs<|env::outer) x T s.heap h'->s.heap.get? T'=_o->Q () { s with heap:=h' }):wpAny M A (noteFrame (.ref x) env) Q E s:=by
 obtain⟨v,I,K,J,w,t,r,i,g,D⟩:=F;have e:=(υ.mp D).1;unfold noteFrame;simp only[B];refine _e<|δ w U t ?_
 rw[_n (show (_K T != _N)=_g from by simp)];refine _e<|δ i g D ?_
 rw[_l (show ¬ ((_N == rawInt L)=_g) from by simp[rawInt])];refine _e<|đ i g e ?_
 have a:∀b,b≠T->(s.heap.update T (á (·.setIfInBounds 3 _N))).get? b=s.heap.get? b:=λb c=>_Z _ _<|_J c
 have j:=Μ (á (·.setIfInBounds 3 _N)) i<|ô<|Ç g _
 have d:∀b o,s.heap.get? b=_b o->(∀v,o.data≠.fields v)->b≠T:=λb o c l q=>by
  rw[q,i] at c;injection c with c;subst c;exact l I g
 refine Oa (s:={ s with heap:=s.heap.update T (á (·.setIfInBounds 3 _N)) }) k (hl.of_keeps λb o c l=>⟨o,(a b<|d b o c l).trans c,U⟩) B ((a x<|_J r).trans w) (υ.mp t).1 λh' T' y m n=>?_;have G:T'≠T:=λz=>by
  subst z;have u:(s.heap.update T' (á (·.setIfInBounds 3 _N))).get? T'=none:=n;rw[j] at u;cases u
 exact h h' T' y ⟨λb o c f p H=>m.keep b o ((a b p).trans c) f f H,λb o c f p=>m.any b o ((a b p).trans c) f f⟩<|(a T' G).symm.trans n
theorem Gr{fl:_k}(m:mZ s.heap x T C od fl)(h:∀h',mZ h' x T C od .none->Mv [] x T s.heap h'->Q () { s with heap:=h' }):wpAny M A (setFlight (.ref x) _o) Q E s:=by
 obtain⟨n,p,r,t,k,j,e,l,g,q⟩:=m;have c:3<p.size:=(υ.mp q).1;have a:∀b,b≠T->(s.heap.update T (á (·.setIfInBounds 3 ((_o:_r _d).elim _N λf=>rawInt f)))).get? b=s.heap.get? b :=
  λb d=>_Z _ _<|_J d
 unfold setFlight;refine _e<|δ k U j ?_
 rw[_n (show (_K T != _N)=_g from by simp)];refine đ l g c<|h _ ?_ ⟨λb o d _ i _=>(a b i).trans d,λb o d _ i=>⟨o.slots,(a b i).trans d⟩⟩
 exact⟨n,_,r,_,(a x<|_J e).trans k,j,e,Μ _ l<|ô<|Ç g _,Ç g _,by simp[c]⟩
end
section
variable{w:_P}{fs:_a _d}{h1 h2 h3:χ}{T T':_d}
theorem aA{o:Þ}(e:h.get? b=_b o)(n:h.get? y=_o):b≠y:=λz=>by
 rw[z,n] at e
 cases e
theorem Gg.mv(k:Gg P w H h)(m:Mv fs x T h h1)(a:H x=_o)(f:H T=_o)(l:∀b∈fs,H b=_o):Gg P w H h1:=λb u e=>by
 have ne:∀c,H c≠_o->c≠x/\c≠T/\c ∉ fs:=λc q=>⟨λz=>q<|z ▸ a,λz=>q<|z ▸ f,λz=>q<|l c z⟩;refine (k b u e).stay (λc v j q=>?_) (λ_ q=>q) λ_ _ q=>q;have g:H c≠none:=by
  rcases j with z | z
  .rw[z,e];simp
  .rw[z];simp
 obtain⟨i,n,d⟩:=ne c g;exact m.keep c v q i n d
theorem Un.mv{i:_a _d}(u:Un i [] H H' h h1)(m:Mv fs x T h1 h2)(l:h.get? x=_o)(q:h.get? T=_o)(p:∀b∈fs,b ∉ i->h.get? b=_o):Un i [] H H' h h2:=by
 have ne:∀b o,h.get? b=_b o->b≠x/\b≠T:=λb o e=>⟨aA e l,aA e q⟩;refine⟨λb o e n f a=>?_,λb o e n f a=>?_,u.free,λb o e a=>?_,u.tups,u.frzs,u.tbls⟩
 .obtain⟨d,c⟩:=ne b o e;refine m.keep b o (u.keep b o e n f a) d c λz=>?_;have:=p b z f;rw[e] at this;cases this
 .obtain⟨d,c⟩:=ne b o e;obtain⟨r,g⟩:=u.slot b o e n f a;obtain⟨s,j⟩:=m.any b _ g d c;exact⟨s,j⟩
 .obtain⟨d,c⟩:=ne b o e;obtain⟨k,g⟩:=u.there b o e a;obtain⟨r,j⟩:=m.any b k g d c;exact⟨_,j⟩
end
def HH(P:Γ)(w:_P):V1:=λouter H s E e s'=>∃(x T C:_d)(od:_r _d)(H':Hp),e=.ref x/\s'.os=s.os/\ė s'.gens/\mZ s'.heap x T C od .none/\s.heap.get? x=_o/\s.heap.get? T=_o /\
 H' x=_o/\H' T=_o/\Gg P w H' s'.heap/\Un (frs outer) [] H H' s.heap s'.heap/\E (.ref C) od H'
def wM(X:Cx)(C:_d)(E:XK):Prop:=∀(a8:_a<|_d × Þ)(σ:St)(H:Hp)(s:_C)(h':χ)(x:_d)(as:_a _k),Inv X a8 σ H s->Heap.MadeExcOf s.heap h' x (.ref C) as->E (.ref C) _o H->X.xe (.ref x) { s with heap:=h' }
theorem Ih{w:_P}{K:_q}{N:_a _m}{k:_k}{a:_a ŀ}{E:XK} :
  wM (Mp (HH P w) P w K mg base N qual scope f k A a s H E) C E:=by
 intro a8 σ d j B x as I g q;obtain⟨t,he,X,ht⟩:=g.there;have c:∀b,j.heap.get? b=_o->s.heap.get? b=none:=λb e=>by
  cases z:s.heap.get? b with
  |none=>rfl
  |some o =>
   obtain⟨o',Q⟩:=I.base.there b o z<|by show b ∉ ([]:_a _d);simp
   rw[e] at Q;cases Q
 have h:d x=none:=I.hok.none_of g.new;have frees:∀b∈frs (envOfC qual scope s.heap.objs.size f k::a),d b=none:=I.Kp;have F:(A.deeper<|envOfC qual scope s.heap.objs.size f k).frames=_b (envOfC qual scope s.heap.objs.size f k::a):=I.ok.frames;have D:j.heap.FunFrames base<|envOfC qual scope s.heap.objs.size f k::a:=I.stack
 have Z:Un (frs a) [] H d s.heap j.heap:=I.base;have i:Gg P w d j.heap:=I.hok;have J:∀b∈frs (envOfC qual scope s.heap.objs.size f k::a),b ∉ frs a->s.heap.get? b=none:=λb G hn=>by
  rcases Φ.mp (show b∈s.heap.objs.size::frs a from G) with z | z
  .rw[z];exact ý<|al _
  .exact _z z hn
 show wpAny (_D P w) (A.deeper<|envOfC qual scope s.heap.objs.size f k) (leaving (envOfC qual scope s.heap.objs.size f k)<|.ref x) _ _ _;unfold leaving;refine _e<|WY (s:={ j with heap:=B }) (L:=s.heap.objs.size) F (D.of_keeps λb o G _=>⟨o,g.keeps b o G,U⟩) U he U λM T y m n=>?_
 refine Gr (s:={ j with heap:=M }) y λR y3 S=>?_;have l:j.heap.get? T=none:=by
  cases z:j.heap.get? T with
  |none=>rfl
  |some o =>
   have O:B.get? T=none:=n;rw[g.keeps T o z] at O;cases O
 have v:d T=none:=i.none_of l;have u:Gg P w d B:=i.kept g.keeps;have r:Gg P w d M:=u.mv m h h frees;have p:Gg P w d R:=r.mv S h v (λ_ z=>nomatch z);have Y:Un (frs a) [] H d s.heap B:=Z.trans<|Un.kept g.keeps
 have V:Un (frs a) [] H d s.heap M:=Y.mv m (c x g.new) (c x g.new) J;have uC:Un (frs a) [] H d s.heap R:=V.mv S (c x g.new) (c T l) (λ_ z=>nomatch z);exact⟨x,T,C,_o,d,U,I.os,I.bare,y3,c x g.new,c T l,h,v,p,uC,q⟩
section
variable{x:_m}{e:Expr}{t:TA}{np k6:ī}{E:XK}
abbrev tD(C:_d)(E:XK)(t:TA):TS:=λ_ σ H=>t σ H λvs H1=>vs.length<=1000/\E (.ref C) _o H1
theorem Ga(q:Ĉ X.K C bQ "ValueError.__new__" = _g)(m:Gl X x)(o:X.mg x=_b (.ref C))(w:X.calm=_g)(hl:wM X C E)(k:PA X (e::es) t)
  (u:(x == ("__debug__" : _m))=false:=by decide) (f:starEach (e::es) X.env=(_p,eval e X.env)::starEach es X.env:=by rfl) (c:(backTo k6<|starEach es X.env).any (·.1)=false:=by rfl) :
  PS X (.Raise (_b<|.Call (.Name x np) (e::es) [] k6) _o pos) (tD C E t):=by
 intro d s σ H D I h;obtain⟨bm,N,nm,B,bs,hdct,sn,sub,ab,col,dd,k0,k1,k2,k3,k5,mN,l,n,y,g⟩:=Xv I.ok.mod.kin q;have a:(backTo k6<|starEach (e::es) X.env).any (·.1)=false:=by
  rw[f];show (_p || (backTo k6<|starEach es X.env).any (·.1))=_p;rw[c];rfl
 refine wpAny_Raise_call_subU (nm:=nm) (q:=B) (C:=C) (N:=N) (bs:=bs) (bm:=bm) (hdct:=hdct) (sn:=sn) (sub:=sub) (ab:=ab) (col:=col) (dd:=dd) (k0:=k0) (k1:=k1) (k2:=k2) (k3:=k3) (k5:=k5) (mN:=mN)
  PySem.F.excBase_ValueError (by decide) PySem.F.excBase_ValueError (g.hasType<|by decide) (I.ok.hd w) a y (Ku I m o ⟨U,?_⟩ u)
 have:=k k6 d s σ H _ I h;rw[f] at this |-;refine Ñ<|CN this λj z ⟨G,v,b,r,A,F⟩=>⟨U,?_,b.bk _ _ l,n.keeps b.bk,g.keeps b.bk,λi x p=>?_⟩
 .show j.length<=sizeLine;rw[<-r.length];exact fR<|Ax A
 .exact hl d σ v z i x _ b p F
end
theorem UV{w:_P}{K:_q}{O:_d}{o:_r _d}{d:Data}{m:_E (_r _k)}{b:_O}{Q:_O->_C->Prop}
  (X:K.In s.heap)(n:s.heap.get? x=_b ⟨.ref C,o,d,m⟩)(q:Ĉ K O bQ "ValueError.__new__" = _g)(l:ć K C (.ref O)=_b b)(h:Q b s):wpAny (_D prog w) A (excMatches (.ref x)<|.ref O) Q E s:=by
 obtain⟨i,N,y,S,bs,j,r,sub,t,k,P,u,z,D,H,R,I,e,B,J,p⟩:=Xv X q;have a:i.contains (.type "BaseException")=true:=p.hasType<|by decide
 have c:(_K O::i).contains (.type "BaseException")=true:=by rw[List.contains_cons,a,Bool.or_true]
 have L:=W.looks_mroIn (M:=_D prog w) X l;have f:=tc_notTuple;obtain⟨v,g,G,F,os⟩:=s;unfold excMatches;repeat (first | with_reducible refine FV n ?_ | with_reducible refine FV e ?_ | (with_reducible refine wpAny_isSubtype_exc e ?_;rw[c]) | with_reducible refine L.at ?_ | wp_step)
 cases b <;> (wp_walk;exact h)
noncomputable abbrev Cx.inX(X:Cx)(x:_d):Cx:={ X with A:=X.A.mark<|some<|.ref x,calm:=_p }
theorem Inv.inX(I:Inv X a8 σ H s)(x:_d):Inv (X.inX x) a8 σ H s :=
 ⟨⟨I.ok.mod,I.ok.kind,I.ok.glob,I.ok.blt,I.ok.above,I.ok.inj,I.ok.has,I.ok.cab,(λz=>nomatch z),I.ok.frames,I.ok.stk,I.ok.exf,I.ok.bs,I.ok.bsz,I.ok.noex,I.ok.exfs,I.ok.Mh,I.ok.frf⟩,
  I.os,I.bare,I.base,I.loc,I.cell,I.free,I.freeC,I.pin,I.hok,I.len⟩
theorem Inv.j6(ok:X.Ok)(I:Inv (X.inX x) a8 σ H s):Inv X a8 σ H s:=⟨ok,I.os,I.bare,I.base,I.loc,I.cell,I.free,I.freeC,I.pin,I.hok,I.len⟩
def Ends.drop(D:Ends)(i:_c):Ends:={ nx:=λσ H=>D.nx (σ.set i _o) H,rt:=D.rt,bk:=λσ H=>D.bk (σ.set i _o) H,ct:=λσ H=>D.ct (σ.set i _o) H }
section
variable{w:_P}{K:_q}
theorem Zb.okW{x:_m}{st:Ú}{N:_a _m}{k:_c}{sp:Sp}(F:Zb K x qual st f fd)(S:Am N ps<|Ae st)(len:∀vs H Q E,sp vs H Q E->vs.length=ps.length)
  (i:∀(b:_k)(A:ì)(a:_a ŀ)(s:_C)(H:Hp)(vs:_a V)(Q:VK)(E:XK),DN k (A.deeper<|envOfC qual (Ae st) s.heap.objs.size f b)->sp vs H Q E ->
   ∃t,RJ (Mp (HH P w) P w K mg base N qual (Ae st) f b A a s H E) (Cg st) t/\t { nx:=λ_ H'=>Q .non H',rt:=Q } (start N vs) H):GJ P w K mg base (HH P w) (k+1) f fd ps sp:=by
 obtain⟨o,p,kV,n,l,r,b,j,m,rfl,d,g⟩:=F.ex;refine dO d g S len λA a s H vs Q E c e=>?_;obtain⟨t,h,q⟩:=i b A a s H vs Q E c e;exact⟨t,h,q⟩
theorem Zb.LQ{x:_m}{st:Ú}{N:_a _m}{k:_c}{sp:Sp}(F:Zb K x qual st f fd)(S:Am N ps<|Ae st)
  (c:∀{b:_k}{A:ì}{a:_a ŀ}{s:_C}(H:Hp)(vs:_a V)(Q:VK)(E:XK),DN k (A.deeper<|envOfC qual (Ae st) s.heap.objs.size f b)->sp vs H Q E ->
   ∃t,RJ (Mp (HH P w) P w K mg base N qual (Ae st) f b A a s H E) (Cg st) t/\t { nx:=λ_ H'=>Q .non H',rt:=Q } (start N vs) H)
  (len:∀vs H Q E,sp vs H Q E->vs.length=ps.length:=by intro _ _ _ _ h;cases h;subst_vars;rfl):GJ P w K mg base (HH P w) (k+1) f fd ps sp:=F.okW S len λ_ _ _ _ H vs Q E=>c H vs Q E
end
theorem Un.thru{fs i:_a _d}{j l:χ}(a:Un fs [] H H1 h j)(b:Un i [] H1 H2 j l)(y:∀x∈i,x∈fs \/ h.get? x=_o):Un fs [] H H2 h l where
 keep:=λc o q n f d=>by
  have t:c ∉ i:=λz=>by
   rcases y c z with e | e
   .exact f e
   .rw[q] at e;cases e
  exact b.keep c o (a.keep c o q n f d) (a.free c o q n d) t d
 slot:=λc o q n f d=>by
  obtain⟨B,e⟩:=a.slot c o q n f d;obtain⟨w,s⟩:=b.any e (a.free c o q n d) d;exact⟨w,s⟩
 free:=λc o q n d=>by
  obtain⟨g,e⟩:=a.there c o q d;exact b.free c g e (a.free c o q n d) d
 there:=λc o q d=>by
  obtain⟨g,e⟩:=a.there c o q d;exact b.there c g e d
 tups:=λc k q=>b.tups c k<|a.tups c k q
 frzs:=λc o u q=>b.frzs c o u<|a.frzs c o u q
 tbls:=λc m q=>by
  obtain⟨v,p⟩:=a.tbls c m q;obtain⟨r,A⟩:=b.tbls c _ p;exact⟨v++r,by rw[A,į]⟩
theorem Nr{w:_P}{K:_q}{N:_a _m}{d:_k}{a:_a ŀ}{E:XK} :
  FZ (HH P w) (Mp (HH P w) P w K mg base N qual scope f d A a s H E) E:=by
 rintro a8 σ V j e s' I ⟨x,T,C,od,i,rfl,os,h,y,F,nT,M,tw,J,R,q⟩;have c:∀b,j.heap.get? b=_o->s.heap.get? b=none:=λb e=>by
  cases z:s.heap.get? b with
  |none=>rfl
  |some o =>
   obtain⟨o',n⟩:=I.base.there b o z<|by show b ∉ ([]:_a _d);simp
   rw[e] at n;cases n
 have G:j.os=s.os:=I.os;obtain⟨k,g,D,B,BB⟩:=s';obtain rfl:BB=j.os:=os;have Y:=I.call (h':=k) (g':=g) (d':=D) (t':=B) (ch:=[]) R J h<|λb z=>_z z<|by simp
 have t:(A.deeper<|envOfC qual scope s.heap.objs.size f d).frames=_b (envOfC qual scope s.heap.objs.size f d::a):=I.ok.frames;have r:k.FunFrames base<|envOfC qual scope s.heap.objs.size f d::a:=Y.stack
 have frees:∀b∈frs (envOfC qual scope s.heap.objs.size f d::a),i b=none:=Y.Kp;have m:∀b∈frs (envOfC qual scope s.heap.objs.size f d::a),b∈frs a \/ s.heap.get? b=none:=λb u=>by
  rcases Φ.mp (show b∈s.heap.objs.size::frs a from u) with z | z
  .rw[z];exact .inr<|ý<|al _
  .exact .inl z
 have u0:Un (frs a) [] H V s.heap j.heap:=I.base;have X:Un (frs a) [] H i s.heap k:=u0.thru (show Un (frs<|envOfC qual scope s.heap.objs.size f d::a) [] V i j.heap k from R) m;show wpAny (_D P w) (A.deeper<|envOfC qual scope s.heap.objs.size f d) (leaving (envOfC qual scope s.heap.objs.size f d)<|.ref x) _ _ _;unfold leaving;refine _e<|X3 (s:=⟨k,g,D,B,j.os⟩) (L:=s.heap.objs.size) t r U y λZ T3 y3 m3 S=>?_
 refine Gr (s:=⟨Z,g,D,B,j.os⟩) y3 λh4 y4 Q=>?_;have l:s.heap.get? T3=none:=by
  cases z:s.heap.get? T3 with
  |none=>rfl
  |some o =>
   obtain⟨o',n⟩:=X.there T3 o z<|by simp
   have v:k.get? T3=none:=S;rw[v] at n;cases n
 have p:i T3=none:=J.none_of S;have O:∀b∈frs (envOfC qual scope s.heap.objs.size f d::a),b ∉ frs a->s.heap.get? b=none:=λb u hn=>(m b u).resolve_left hn;have u3:=X.mv m3 (c x F) (c T nT) O;have u4:=u3.mv Q (c x F) l (λ_ z=>nomatch z);have k3:Gg P w i Z:=Gg.mv (P:=P) (w:=w) J m3 M tw frees;have k4:Gg P w i h4:=k3.mv Q M p (λ_ z=>nomatch z);exact⟨x,T3,C,od,i,U,G,h,y4,c x F,l,M,p,k4,u4,q⟩
abbrev XR:=_k->_r _d->St->Hp->Prop
inductive XT(X:Cx)(a8:_a<|_d×Þ)(ER:XR)(e:_k)(s':_C):Prop
|mk(σ H1 s1:_)(_:Inv X a8 σ H1 s1)(_:HH X.prog X.w X.stack H1 s1 (λC od H2=>ER C od σ H2) e s')
def PST(X:Cx)(ER:XR)(st:Ú)(t:TS):Prop :=
 ∀(a8:_a<|_d × Þ)(s:_C)(σ:St)(H:Hp)(D:Ends),Inv X a8 σ H s->t D σ H->wpAny (_D X.prog X.w) X.A (exec st X.env) (SP X a8 D) (XT X a8 ER) s
def AAr(X:Cx)(ER:XR)(st:_a Ú)(t:TS):Prop :=
 ∀(a8:_a<|_d × Þ)(s:_C)(σ:St)(H:Hp)(D:Ends),Inv X a8 σ H s->t D σ H->wpAny (_D X.prog X.w) X.A (execs st X.env) (SP X a8 D) (XT X a8 ER) s
def PET(X:Cx)(ER:XR)(e:Expr)(t:TE):Prop :=
 ∀(a8:_a<|_d × Þ)(s:_C)(σ:St)(H:Hp)(Q:VK),Inv X a8 σ H s->t σ H Q->wpAny (_D X.prog X.w) X.A (eval e X.env) (EP X a8 σ Q) (XT X a8 ER) s
section
variable{ER:XR}{st:Ú}{sts:_a Ú}{t u:TS}
theorem bM(a:PST X ER st t):AAr X ER [st] t:=by
 intro b s σ H D I h;refine Ş<|CN (a b s σ H D I h) λf c q=>?_
 cases f with
 |next=>exact ç q
 |brk=>exact q
 |cont=>exact q
 |ret u=>exact q
theorem eF{e:Expr}(d:PET X ER e te)(c:swapsWith e _o pos.line X.env=pure false:=by rfl):PST X ER (.Expr e pos)<|mX te:=by
 intro g s σ H D I h;exact LP (CN (d g s σ H _ I h) λv i ⟨x,f,a,j,b⟩=>⟨σ,f,a,b⟩) I.quiet c
end
section
variable{ER:XR}{k:_c}{sp:Sp}{pe:_a V}{ds:_a _k}{x m:_m}{p:ī}{e o:Expr}{t:TA}
abbrev tE(C:_d)(m:_m)(sp:Sp)(pe:_a V)(ER:XR)(ta:TE)(t:TA):TE:=λσ H Q=>Tj C m sp pe (λC od H2=>ER C od σ H2) ta t σ H Q
theorem il{Q:VK}{us:_a _k}(F:GJ X.prog X.w X.K X.mg X.base (HH X.prog X.w) k f fd ps sp)(c:DN k X.A)(d:Binds X.K fd ps ds)(g:Vals pe ds)
  (I:Inv X a8 σ H s)(r:Vals vs us)(h:sp (vs++pe) H Q<|λC od H2=>ER C od σ H2):wpAny (_D X.prog X.w) X.A (call (.ref f) us) (EP X a8 σ Q) (XT X a8 ER) s:=by
 have b:Vals (vs++pe)<|us++ds:=r.append g
 have hl:(us++ds).length=ps.length:=by rw[<-b.length];exact F.len _ _ _ _ h
 refine ž<|ö (F.run X.A X.stack s H ⟨us,[]⟩ (us++ds) (vs++pe) Q _ c I.env0 (d s us I.Ig hl) b h) λr i a=>?_
 cases r with
 |error e=>exact⟨σ,H,s,I,a⟩
 |ok fl =>
  cases fl with
  |ret u=>exact I.after a
  |next=>exact ς a
  |brk=>exact ς a
  |cont=>exact ς a
theorem aR{pl:ũ _O}(G:PE X o ta)(c:Py X.K C)(i:Meth X.K C m f)(F:GJ X.prog X.w X.K X.mg X.base (HH X.prog X.w) k f fd ps sp)(v:DN k X.A)(y:Binds X.K fd ps ds)(A:Vals pe ds)(w:PA X (e::es) t)
  (j:X.xe=λ_ _=>Α)(b:starEach (e::es) X.env=(_p,eval e X.env)::starEach es X.env:=by rfl)(d:(backTo pos<|starEach es X.env).any (·.1)=false:=by rfl)
  (D:eval (.Call (.Attribute o m i5) (e::es) [] pos) X.env=(do
   let ov <-eval o X.env
   standAt i5.atName
   let (f,first) <-holding [ov] (getMethod ov m pl)
   callWith pos f first (backTo pos<|starEach (e::es) X.env) (backToKw pos<|keywordEach [] X.env)):=by rfl) :
  PET X ER (.Call (.Attribute o m i5) (e::es) [] pos) (tE C m sp pe ER ta t):=by
 intro g s σ H Q I h;refine ā (pl:=pl) (ζ (G g s σ H _ I h) (λu K ⟨x,J,p,E,N⟩=>?_) λe L z=>?_) D
 .obtain⟨a,rfl,R,fs,B,l,q⟩:=Jw.e N;obtain rfl:u=_K a:=E;refine Ge p B c i l ?_;refine ñ (first:=[.ref a]) (h₀:=X.base) I.ok.mod.kin i.kp (ζ (w pos g K σ J _ p q) (λus O ⟨vs,P,n,r,M⟩=>⟨n.Ig,?_⟩) λe L z=>?_) b d
  .exact il (us:=.ref a::us) (vs:=.ref a::vs) F v y A n (.cons U r) M
  .rw[j] at z;exact z.elim
 .rw[j] at z;exact z.elim
end
end L2
namespace Og
open PySem L2 PyProof.Rows
theorem uT:∀n<26,letters.cps.toList[n]? = _b (97+n):=by decide
theorem uD{i:_j}(b:0<=i)(a:i<26):VJ letters.cps.toList i=_b (97+i.toNat):=by
 have h:=Av<|uT i.toNat<|by lia
 have e:((i.toNat:_c):_j)=i:=by lia
 rw[e] at h;exact h
theorem lA:(("" : _m)).cps = #[]:=by decide
theorem VR(d:_a _c):(Txt.join ("" : _m)<|d.map λc=>(⟨#[c]⟩:_m)).cps.toList=d:=by
 have b:∀(l:_a _c)(a:_E _c),((l.map λc=>(⟨#[c]⟩:_m)).foldl (λa p=>a++("" : _m).cps++p.cps) a).toList=a.toList++l:=by
  intro l
  induction l with
  |nil=>intro a;simp
  |cons c l e =>
   intro a;rw[ee,ng,e,lA];simp
 unfold Txt.join Builtin.Str.glued
 cases d with
 |nil=>decide
 |cons c l =>
  show (((((c::l).map λc=>(⟨#[c]⟩:_m)).drop 1)).foldl (λa p=>a++("" : _m).cps++p.cps) #[c]).toList=_;rw[ee,uj,ŗ,b];rfl
variable{K:_q}
structure fu(K:_q)(aB aP aM:_d):Prop where
 f:KF K aB aP aM
 pR:∃a,_W K aP "rank" = _b (_b<|.ref a)/\KTup K a (["new","pipes","wind"].map λs:ã=>V.str s)
 pL:∃a,_W K aP "line" = _b (_b<|.ref a)/\KTup K a (["rank","shift","low","high"].map λs:ã=>V.str s)
 bP:∃a,_W K aB "pipes" = _b (_b<|.ref a)/\KTup K a [.int 1,.int 97]
 bW:∃a,_W K aB "wind" = _b (_b<|.ref a)/\KTup K a [.int 0,.int 1000000000]
 bS:∃a,_W K aB "shift" = _b (_b<|.ref a)/\KTup K a [.int (-200),.int 200]
 bLo:∃a,_W K aB "low" = _b (_b<|.ref a)/\KTup K a [.int 0,.int 60]
 bHi:∃a,_W K aB "high" = _b (_b<|.ref a)/\KTup K a [.int 0,.int 60]
 bR:_W K aB "rank" = _b _o
 mR:∃t,_W K aM "rank" = _b (_b<|.int 12 t)
 mL:_W K aM "line" = _b _o
section
variable{wn:_a (_m×_m)}
theorem YQ(h:Su K aB aP aM ρ vs r)(a:GK ρ vs):Q9 K aB aP aM ρ vs r:=⟨h.ns,h.parts,.inr h.room,λz=>_z z h.nl,a⟩
theorem Yc(F:KF K aB aP aM){wd:_m}(o:wd = "stop" \/ wd = "mute")(e:JW ρ vs=wn)(q:isNm t)(h:∀w∈named,X5 wn w t=_p)(s:Zt wn wd<J_ wd){a:_m}(p:isNm a)(m:X5 wn "board" a=_g):Su K aB aP aM ρ vs ⟨wd,t,[.str a]⟩:=by
 have b:∀(j:_c) x (y:_m),[V.str t,.str a][j]? = _b x->(["new","board"]:_a _m)[j]? = _b y->KR K aB ρ vs x y:=λj x y d c=>by
  match j,d,c with
  |0,d,c =>
   cases (_h d)
   cases (_h c);exact Ks F e q h
  |1,d,c =>
   cases (_h d)
   cases (_h c);exact KY F e p m
  |j+2,d,c=>simp at c
 have f:=KQ ρ vs wd;rw[e] at f;rcases o with rfl | rfl
 .obtain⟨i,k,g⟩:=F.pS;obtain⟨l,n⟩:=F.mS;have r:J_ "stop" = 24:=by decide
  refine⟨by show ¬ ("stop" : _m) = "step";decide,by show ¬ ("stop" : _m) = "line";decide,⟨i,["new","board"],k,g,U,by decide,b⟩,⟨24,l,n,?_⟩⟩;show (((vs.filter<|pw ρ "stop").length:_c):_j)<24;lia
 .obtain⟨i,k,g⟩:=F.pM;obtain⟨l,n⟩:=F.mM;have r:J_ "mute" = 5:=by decide
  refine⟨by show ¬ ("mute" : _m) = "step";decide,by show ¬ ("mute" : _m) = "line";decide,⟨i,["new","board"],k,g,U,by decide,b⟩,⟨5,l,n,?_⟩⟩;show (((vs.filter<|pw ρ "mute").length:_c):_j)<5;lia
theorem Yg(F:fu K aB aP aM)(e:JW ρ vs=wn)(s:isNm t)(h:∀w∈named,X5 wn w t=_p)(C:Zt wn "rank" < 12){c:_j}(B:1<=n)(D:n<=97)(v:0<=c)(f:c<=1000000000)(p:GK ρ vs):Q9 K aB aP aM ρ vs<|Gh (t,n,c):=by
 obtain⟨o,q,d⟩:=F.pR;obtain⟨m,i,A⟩:=F.bP;obtain⟨r,g,k⟩:=F.bW;obtain⟨u,l⟩:=F.mR;refine⟨by show ¬ ("rank" : _m) = "step";decide,⟨o,["new","pipes","wind"],q,d,U,by decide,λj x y b a=>?_⟩,.inr ⟨12,u,l,?_⟩,λz=>_z z (by show ¬ ("rank" : _m) = "line";decide),p⟩
 .match j,b,a with
  |0,b,a =>
   cases (_h b)
   cases (_h a);exact Ks F.f e s h
  |1,b,a =>
   cases (_h b)
   cases (_h a);exact .inl ⟨((n:_c):_j),1,97,m,U,i,A,KK.mpr B,KK.mpr D⟩
  |2,b,a =>
   cases (_h b)
   cases (_h a);exact .inl ⟨_,0,1000000000,r,U,g,k,v,f⟩
  |j+3,b,a=>simp at a
 .rw[KQ,e];show ((Zt wn "rank" : _c):_j)<12;exact BT.mpr C
theorem Yl(F:fu K aB aP aM)(e:JW ρ vs=wn)(w:isNm t)(h:X5 wn "rank" t=_g){sh lo hi:_j}(n : -200<=sh)(r:sh<=200)(d:0<=lo)(u:lo<=60)(f:0<=hi)(g:hi<=60)(q:GK ρ vs)(hl:V9 ρ vs ⟨"line",t,[.int sh,.int lo,.int hi]⟩):Q9 K aB aP aM ρ vs ⟨"line",t,[.int sh,.int lo,.int hi]⟩:=by
 obtain⟨o,s,c⟩:=F.pL;obtain⟨B,k,A⟩:=F.bS;obtain⟨v,m,i⟩:=F.bLo;obtain⟨p,l,z⟩:=F.bHi;refine⟨by show ¬ ("line" : _m) = "step";decide,⟨o,["rank","shift","low","high"],s,c,U,by decide,λj x y b a=>?_⟩,.inl ⟨U,F.mL⟩,λ_=>hl,q⟩
 match j,b,a with
 |0,b,a =>
  cases (_h b)
  cases (_h a);exact .inr<|.inr ⟨F.bR,by decide,_,U,w,by rw[Mt,e];exact h⟩
 |1,b,a =>
  cases (_h b)
  cases (_h a);exact .inl ⟨_,-200,200,B,U,k,A,n,r⟩
 |2,b,a =>
  cases (_h b)
  cases (_h a);exact .inl ⟨_,0,60,v,U,m,i,d,u⟩
 |3,b,a =>
  cases (_h b)
  cases (_h a);exact .inl ⟨_,0,60,p,U,l,z,f,g⟩
 |j+4,b,a=>simp at a
end
section
variable{v:V}{bs KM:_a (_m×_c)}{rk Fn:_a (_m×_c×_j)}{KP:_a R}
theorem Nk{w:_m}:gB ρ us w t=_g ↔ ∃v∈us,(ρ v).w=w/\(ρ v).nm=t:=by
 unfold gB;rw[fq];constructor
 .rintro⟨v,b,d⟩;obtain⟨a,c⟩:=be.mp b;exact⟨v,a,V.str.inj<|_s c,V.str.inj<|_s d⟩
 .rintro⟨v,b,a,c⟩;exact⟨v,be.mpr ⟨b,_i<|congrArg V.str a⟩,_i<|congrArg V.str c⟩
theorem MN{w:_m}(h:w = "stop" \/ w = "coupler" \/ w = "mute"):Fj w=true:=by rcases h with rfl | rfl | rfl <;> decide
theorem Nz{p:V->_O}(h:p v=_g):(us++[v]).filter p=us.filter p++[v]:=by
 rw[fk,eR,_n h];rfl
theorem Eo{p:V->_O}(h:p v=_p):(us++[v]).filter p=us.filter p:=by
 rw[fk,eR,_l<|by rw[h];decide];simp
end
section
variable{bs:_a (_m×_c)}{rk:_a (_m×_c×_j)}
theorem Kz(e:us.map ρ=rows++[r]):∃sF v,us=sF++[v]/\sF.map ρ=rows/\ρ v=r:=by
 obtain⟨a,b,rfl,c,f⟩:=Ź.mp e;obtain⟨v,l,rfl,g,d⟩:=sD.mp f;rw[nE.mp d];exact⟨a,v,U,c,g⟩
inductive Tl(rows:_a R)(bd:_m)(cnt:_c):Prop
|mk(r0:_a R)(st:R)(lr:_a R)(_:rows=r0++st::lr)(_:st.w = "stop")(_:st.rest=[.str bd])(_:lr.length=cnt)(_:∀r∈lr,r.w = "line")
theorem Tl.stop(a:_a R)(t b:_m):Tl (a++[⟨"stop",t,[.str b]⟩]) b 0:=⟨a,_,[],U,U,U,U,λ_ h=>nomatch h⟩
theorem Tl.line{a:_m}{cnt:_c}(h:Tl rows a cnt)(e:r.w = "line"):Tl (rows++[r]) a<|cnt+1:=by
 obtain⟨f,st,b,rfl,c,i,k,d⟩:=h;refine⟨f,st,b++[r],by simp,c,i,by simp[k],λx j=>?_⟩;rcases aT.mp j with g | g
 .exact d x g
 .rw[av.mp g];exact e
end
variable{K:_q}
structure Kg(K:_q)(aB aP aM:_d)(ρ:V->R)(us:_a V)(bs:_a<|_m×_c)(rk:_a<|_m×_c×_j)(ks:_a R):Prop where
 eb:(us.filter<|pw ρ "board").map ρ=bs.map Fx
 er:(us.filter<|pw ρ "rank").map ρ=rk.map Gh
 ek:(us.filter<|λv=>Fj (ρ v).w).map ρ=ks
 ln:∀(i:_c) v,us[i]? = _b v->(ρ v).w = "line"->(∃(j:_c)(r:_m × _c × _j)(sh lo hi:_j),rk[j]? = _b r/\r.1=(ρ v).nm/\(ρ v).rest=[.int sh,.int lo,.int hi])/\∃u∈us.take i,Fj (ρ u).w=_g
 ok:∀(i:_c) v,us[i]? = _b v->JH K aB aP aM ρ (us.take i) (ρ v)
section
variable{v:V}{bs KM:_a (_m×_c)}{rk Fn:_a (_m×_c×_j)}{KP:_a R}
theorem Kg.nil:Kg K aB aP aM ρ [] [] [] []:=⟨U,U,U,(λi v h=>by simp at h),(λi v h=>by simp at h)⟩
theorem Kg.oM(h:Kg K aB aP aM ρ us bs rk ks)(a:v∈us)(c:(ρ v).w = "board"):∃b∈bs,Fx b=ρ v:=by
 have:ρ v∈(us.filter<|pw ρ "board").map ρ:=aE<|be.mpr ⟨a,_i<|congrArg V.str c⟩
 rw[h.eb] at this;exact ay.mp this
theorem Kg.zV(h:Kg K aB aP aM ρ us bs rk ks)(a:v∈us)(c:(ρ v).w = "rank"):∃b∈rk,Gh b=ρ v:=by
 have:ρ v∈(us.filter<|pw ρ "rank").map ρ:=aE<|be.mpr ⟨a,_i<|congrArg V.str c⟩
 rw[h.er] at this;exact ay.mp this
theorem Kg.a_(h:Kg K aB aP aM ρ us bs rk ks)(a:v∈us)(b:Fj (ρ v).w=_g):ρ v∈ks:=by
 have:ρ v∈(us.filter<|λv=>Fj (ρ v).w).map ρ:=aE<|be.mpr ⟨a,b⟩
 rw[h.ek] at this;exact this
theorem Kg.vZ(h:Kg K aB aP aM ρ us bs rk ks):GK ρ us:=λv a c=>by
 obtain⟨b,_,e⟩:=h.oM a c;exact⟨_,by rw[<-e]⟩
theorem Kg.lL(h:Kg K aB aP aM ρ us bs rk ks){b:_m×_c}(c:b∈bs):∃v∈us,ρ v=Fx b:=by
 have:Fx b∈(us.filter<|pw ρ "board").map ρ:=by rw[h.eb];exact aE c
 obtain⟨v,a,e⟩:=ay.mp this;exact⟨v,(be.mp a).1,e⟩
theorem Kg.z6(h:Kg K aB aP aM ρ us bs rk ks){r:_m×_c×_j}(a:r∈rk):∃v∈us,ρ v=Gh r:=by
 have:Gh r∈(us.filter<|pw ρ "rank").map ρ:=by rw[h.er];exact aE a
 obtain⟨v,b,e⟩:=ay.mp this;exact⟨v,(be.mp b).1,e⟩
theorem Kg.Vw(h:Kg K aB aP aM ρ us bs rk ks){b:_m×_c}(c:b∈bs):X5 (JW ρ us) "board" b.1=true:=by
 obtain⟨v,a,e⟩:=h.lL c;rw[<-Mt,Nk];exact⟨v,a,by rw[e],by rw[e]⟩
theorem Kg.qI(h:Kg K aB aP aM ρ us bs rk ks){r:_m×_c×_j}(a:r∈rk):X5 (JW ρ us) "rank" r.1=true:=by
 obtain⟨v,b,e⟩:=h.z6 a;rw[<-Mt,Nk];exact⟨v,b,by rw[e],by rw[e]⟩
theorem Kg.fresh(h:Kg K aB aP aM ρ us bs rk ks)(l:∀b∈bs,b.1≠t)(j:∀r∈rk,r.1≠t)(g:∀k∈ks,k.nm≠t):∀w∈named,X5 (JW ρ us) w t=false:=by
 intro w i;rw[<-Mt,<-ft,Nk];rintro⟨v,f,d,c⟩;simp only[Φ,ĵ,Ô,Œ] at i;rcases i with rfl | rfl | rfl | rfl | rfl
 .obtain⟨b,a,e⟩:=h.oM f d;exact l b a<|by rw[<-c,<-e]
 .obtain⟨b,a,e⟩:=h.zV f d;exact j b a<|by rw[<-c,<-e]
 .exact g _ (h.a_ f<|MN<|.inl d) c
 .exact g _ (h.a_ f<|MN<|.inr<|.inl d) c
 .exact g _ (h.a_ f<|MN<|.inr<|.inr d) c
theorem Kg.AAt(h:Kg K aB aP aM ρ us bs rk ks):Zt (JW ρ us) "board" = bs.length:=by
 rw[<-KQ,<-ah (f:=ρ),h.eb,ah]
theorem Kg.xM(h:Kg K aB aP aM ρ us bs rk ks):Zt (JW ρ us) "rank" = rk.length:=by
 rw[<-KQ,<-ah (f:=ρ),h.er,ah]
theorem Kg.mW(h:Kg K aB aP aM ρ us bs rk ks){w:_m}(a:w = "stop" \/ w = "coupler" \/ w = "mute"):Zt (JW ρ us) w=(ks.filter λr=>decide (V.str r.w=V.str w)).length:=by
 rw[<-KQ,<-h.ek,fg,ah,w_];refine congrArg Ε<|yy λv _=>?_
 show pw ρ w v=(pw ρ w v && Fj (ρ v).w);by_cases e:(ρ v).w=w
 .rw[MN (by rw[e];exact a),DO]
 .have:pw ρ w v=false:=_t λz=>e<|V.str.inj z
  rw[this,hV]
theorem Kg.snoc(h:Kg K aB aP aM ρ us bs rk ks)
  (p:((us++[v]).filter<|pw ρ "board").map ρ=KM.map Fx)(q:((us++[v]).filter<|pw ρ "rank").map ρ=Fn.map Gh)(m:((us++[v]).filter<|λv=>Fj (ρ v).w).map ρ=KP)
  (l:∀(j:_c) r,rk[j]? = _b r->Fn[j]? = _b r)
  (hl:(ρ v).w = "line"->(∃(j:_c)(r:_m × _c × _j)(sh lo hi:_j),Fn[j]? = _b r/\r.1=(ρ v).nm/\(ρ v).rest=[.int sh,.int lo,.int hi])/\∃u∈us,Fj (ρ u).w=_g)
  (ok:JH K aB aP aM ρ us<|ρ v):Kg K aB aP aM ρ (us++[v]) KM Fn KP:=by
 have c:∀{i:_c}{u:V},(us++[v])[i]? = _b u->us[i]? = _b u/\(us++[v]).take i=us.take i \/ u=v/\(us++[v]).take i=us:=λ{i u} hi=>by
  by_cases b:i<us.length
  .rw[fb b] at hi;exact .inl ⟨hi,fI<|fR b⟩
  .have a:=(ag.mp hi).1;rw[am,ax] at a;have f:i=us.length:=Fr (KE a) (me b)
   subst f;rw[bX (al _),iF] at hi;exact .inr ⟨(_h hi).symm,by rw[fI (al _),eP]⟩
 refine⟨p,q,m,λi u hi g=>?_,λi u hi=>?_⟩
 .rcases c hi with⟨d,a⟩ | ⟨rfl,a⟩
  .rw[a];obtain⟨⟨j,r,sh,lo,e,o,k,n⟩,s⟩:=h.ln i u d g;exact⟨⟨j,r,sh,lo,e,l j r o,k,n⟩,s⟩
  .rw[a];exact hl g
 .rcases c hi with⟨d,a⟩ | ⟨rfl,a⟩
  .rw[a];exact h.ok i u d
  .rw[a];exact ok
end
theorem WM{rk:_a (_m×_c×_j)}{x:_m×_c×_j}:∀{rows:_a R},(∀r∈rows,r.w = "line"->r.nm∈rk.map (·.1))->linesOf (rk++[x]) rows=linesOf rk rows:=by
 have d:∀(rows:_a R),(∀r∈rows,r.w = "line"->r.nm∈rk.map (·.1))->∀a,rows.foldl (Do<|rk++[x]) a=rows.foldl (Do rk) a:=by
  intro rows
  induction rows with
  |nil=>intro _ _;rfl
  |cons r f j =>
   intro h a;have e:Do (rk++[x]) a r=Do rk a r:=by
    unfold Do;by_cases c:Fj r.w=_g
    .rw[_n c,_n c]
    .rw[_l c,_l c];by_cases b:r.w = "line"
     .rw[_n b,_n b];have i:=h r (br ..) b;have:lnOf (rk++[x]) r=lnOf rk r:=by
       unfold lnOf;rw[ba,yB,_n i]
      rw[this]
     .rw[_l b,_l b]
   show f.foldl _ (Do (rk++[x]) a r)=f.foldl _ (Do rk a r);rw[e];exact j (λr g=>h r<|bg _ g) _
 exact λ{rows} h=>d rows h []
theorem az{k:R}(h:∀t∈Rh r,t∈ks.map (·.nm)):stN (ks++[k]) r=stN ks r:=by
 unfold stN;refine congrArg Wd.mk<|fN λt a=>?_
 rw[ba,yB,_n<|h t a]
abbrev iG(r:R):Bool:=decide (V.str r.w=V.str "step")
def WdK(w:_m):Prop:=w = "board" \/ w = "rank" \/ w = "stop" \/ w = "coupler" \/ w = "mute" \/ w = "line" \/ w = "step"
structure Hv(K:_q)(aB aP aM:_d)(rows:_a R)(bs:_a<|_m×_c)(rk:_a<|_m×_c×_j)(ks:_a R)(ls:_a<|_a Ln)(sts:_a _c):Prop where
 ok:∀(ρ:V->R)(us:_a V),us.map ρ=rows->Kg K aB aP aM ρ us bs rk ks
 ln:linesOf rk rows=ls
 st:(rows.filter iG).map (stN ks)=sts
 lm:∀r∈rows,r.w = "line"->r.nm∈rk.map (·.1)
 sm:∀r∈rows,r.w = "step"->∃ts:_a _m,V.str r.nm::r.rest=ts.map V.str/\ts.length<=24/\∀t∈ts,t∈ks.map (·.nm)
 wd:∀r∈rows,WdK r.w
 pk:∀r∈rows,(∀i:_j,V.int i∈r.rest->i.natAbs<10 ^ 12)/\r.rest.length<=24
section
variable{bs:_a (_m×_c)}{rk:_a (_m×_c×_j)}
theorem Hv.nil:Hv K aB aP aM [] [] [] [] [] []:=⟨λρ a e=>by rw[nE.mp e];exact Kg.nil,U,U,(λ_ z=>nomatch z),(λ_ z=>nomatch z),(λ_ z=>nomatch z),(λ_ z=>nomatch z)⟩
theorem YG(h:r.w≠"step"):(rows++[r]).filter iG=rows.filter iG:=by
 rw[fk,eR,_l<|by intro z;exact h<|V.str.inj<|_s z];simp
theorem Hs{Q:R->Prop}(h:∀r∈rows,Q r)(a:Q r):∀x∈rows++[r],Q x:=λx b=>by
 rcases aT.mp b with z | z
 .exact h x z
 .rw[av.mp z];exact a
theorem Hv.d_(F:fu K aB aP aM)(h:Hv K aB aP aM rows bs rk ks ls sts)(l:isNm t)(j:∀b∈bs,b.1≠t)(d:∀r∈rk,r.1≠t)(q:∀k∈ks,k.nm≠t)(f:bs.length<5)(c:1<=n)(m:n<=61):Hv K aB aP aM (rows++[Fx (t,n)]) (bs++[(t,n)]) rk ks ls sts:=by
 refine⟨λρ s e=>?_,?_,?_,Hs h.lm (λz=>_z z<|by show ¬ ("board" : _m) = "line";decide),Hs h.sm (λz=>_z z<|by show ¬ ("board" : _m) = "step";decide),Hs h.wd<|.inl U,Hs h.pk ⟨(λi o=>by simp only[Fx,Φ,Ô,Œ,V.int.injEq,reduceCtorEq,AR] at o;lia),by show 1<=24;decide⟩⟩
 .obtain⟨p,v,rfl,g,a⟩:=Kz e;have O:=h.ok ρ p g;refine O.snoc ?_ ?_ ?_ (λ_ _ h=>h) (λz=>_z (a ▸ z)<|by show ¬ ("board" : _m) = "line";decide) ?_
  .rw[Nz (by unfold pw;rw[a];exact _i U),â,O.eb,â,Ķ,a];rfl
  .rw[Eo (by unfold pw;rw[a];show decide (V.str "board" = V.str "rank")=_p;decide),O.er]
  .rw[Eo (by rw[a];show Fj "board" = _p;decide),O.ek]
  .rw[a];exact .inl<|YQ (Yw F.f U l (O.fresh j d q) (by rw[O.AAt];exact f) c m) O.vZ
 .rw[Cv,h.ln];rfl
 .rw[YG (by show ¬ ("board" : _m) = "step";decide)];exact h.st
theorem Hv.rank(F:fu K aB aP aM)(h:Hv K aB aP aM rows bs rk ks ls sts){c:_j}(q:isNm t)(p:∀b∈bs,b.1≠t)(d:∀r∈rk,r.1≠t)(y:∀k∈ks,k.nm≠t)(m:rk.length<12)(g:1<=n)(s:n<=97)(x:0<=c)(l:c<=1000000000):Hv K aB aP aM (rows++[Gh (t,n,c)]) bs (rk++[(t,n,c)]) ks ls sts:=by
 have f:∀r∈rows,r.w = "line"->r.nm∈(rk++[(t,n,c)]).map (·.1):=λr d z=>by
  rw[ba];exact bE _<|h.lm r d z
 refine⟨λρ A e=>?_,?_,?_,Hs f (λz=>_z z<|by show ¬ ("rank" : _m) = "line";decide),Hs h.sm (λz=>_z z<|by show ¬ ("rank" : _m) = "step";decide),Hs h.wd<|.inr<|.inl U,Hs h.pk ⟨(λi u=>by simp only[Gh,Φ,Ô,Œ,V.int.injEq,reduceCtorEq,AR] at u;lia),by show 2<=24;decide⟩⟩
 .obtain⟨w,v,rfl,o,a⟩:=Kz e;have O:=h.ok ρ w o;refine O.snoc ?_ ?_ ?_ (λj r h=>by rw[Ø (ţ.mp h).1];exact h) (λz=>_z (a ▸ z)<|by show ¬ ("rank" : _m) = "line";decide) ?_
  .rw[Eo (by unfold pw;rw[a];show decide (V.str "rank" = V.str "board")=_p;decide),O.eb]
  .rw[Nz (by unfold pw;rw[a];exact _i U),â,O.er,â,Ķ,a];rfl
  .rw[Eo (by rw[a];show Fj "rank" = _p;decide),O.ek]
  .rw[a];exact .inl<|Yg F U q (O.fresh p d y) (by rw[O.xM];exact m) g s x l O.vZ
 .rw[Cv,WM h.lm,h.ln];rfl
 .rw[YG (by show ¬ ("rank" : _m) = "step";decide)];exact h.st
theorem Hv.lX(h:Hv K aB aP aM rows bs rk ks ls sts)(a:r.w = "stop" \/ r.w = "coupler" \/ r.w = "mute")(m:(∀i:_j,V.int i∈r.rest->i.natAbs<10 ^ 12)/\r.rest.length<=24)(s:∀(ρ:V->R)(us:_a V),us.map ρ=rows->Su K aB aP aM ρ us r):Hv K aB aP aM (rows++[r]) bs rk (ks++[r]) (ls++[[]]) sts:=by
 have o:=MN a;have n:∀b∈rows,b.w = "step"->∃f:_a _m,V.str b.nm::b.rest=f.map V.str/\f.length<=24/\∀t∈f,t∈(ks++[r]).map (·.nm):=λb c z=>by
  obtain⟨f,l,j,k⟩:=h.sm b c z;exact⟨f,l,j,λt g=>by rw[ba];exact bE _<|k t g⟩
 refine⟨λρ us e=>?_,?_,?_,Hs h.lm<|λz=>?_,Hs n<|λz=>?_,Hs h.wd<|a.elim (λz=>.inr<|.inr<|.inl z)<|λz=>z.elim (λz=>.inr<|.inr<|.inr<|.inl z)<|λz=>.inr<|.inr<|.inr<|.inr<|.inl z,Hs h.pk m⟩
 .obtain⟨q,v,rfl,p,d⟩:=Kz e;have O:=h.ok ρ q p;refine O.snoc ?_ ?_ ?_ (λ_ _ h=>h) (λz=>?_) ?_
  .rw[Eo (by unfold pw;rw[d];rcases a with e | e | e <;> rw[e] <;> decide),O.eb]
  .rw[Eo (by unfold pw;rw[d];rcases a with e | e | e <;> rw[e] <;> decide),O.er]
  .rw[Nz (by rw[d];exact o),ba,O.ek,Ķ,d]
  .rw[d] at z;rcases a with e | e | e <;> rw[e] at z <;> exact _z z (by decide)
  .rw[d];exact .inl<|YQ (s ρ q p) O.vZ
 .rw[Cv,h.ln];unfold Do;rw[_n o]
 .rw[YG (by rcases a with e | e | e <;> rw[e] <;> decide),<-h.st];refine fN λb c=>az λt g=>?_;obtain⟨l,j⟩:=be.mp c;obtain⟨f,k,_,u⟩:=h.sm b l<|V.str.inj<|_s j;rw[Ji k] at g;exact u t g
 .rcases a with e | e | e <;> rw[e] at z <;> exact _z z (by decide)
 .rcases a with e | e | e <;> rw[e] at z <;> exact _z z (by decide)
theorem Hv.jt(F:fu K aB aP aM)(h:Hv K aB aP aM rows bs rk ks ls sts){a b:_m}{s:_j}(u:isNm t)(q:∀b∈bs,b.1≠t)(j:∀r∈rk,r.1≠t)(x:∀k∈ks,k.nm≠t)(p:(ks.filter λr=>decide (V.str r.w=V.str "coupler")).length<12)(o:isNm a)(d:(a,n)∈bs)(c:isNm b)(f:(b,m)∈bs)(g : -60<=s)(v:s<=60) :
  Hv K aB aP aM (rows++[⟨"coupler",t,[.str a,.str b,.int s]⟩]) bs rk (ks++[⟨"coupler",t,[.str a,.str b,.int s]⟩]) (ls++[[]]) sts :=
 h.lX (.inr<|.inl U) ⟨(λi w=>by simp only[Φ,Ô,Œ,V.int.injEq,reduceCtorEq,AR] at w;lia),by show 3<=24;decide⟩ λρ l e=>by
  have O:=h.ok ρ l e;exact Tw F.f U u (O.fresh q j x) (by rw[O.mW (.inr<|.inl U)];exact p) o (O.Vw d) c (O.Vw f) g v
theorem Hv.plain(F:fu K aB aP aM)(h:Hv K aB aP aM rows bs rk ks ls sts){wd a:_m}(f:wd = "stop" \/ wd = "mute")(p:isNm t)(o:∀b∈bs,b.1≠t)(g:∀r∈rk,r.1≠t)(s:∀k∈ks,k.nm≠t)(m:(ks.filter λr=>decide (V.str r.w=V.str wd)).length<J_ wd)(l:isNm a)(d:(a,n)∈bs) :
  Hv K aB aP aM (rows++[⟨wd,t,[.str a]⟩]) bs rk (ks++[⟨wd,t,[.str a]⟩]) (ls++[[]]) sts:=by
 have c:wd = "stop" \/ wd = "coupler" \/ wd = "mute":=by rcases f with e | e;exact .inl e;exact .inr<|.inr e
 exact h.lX c ⟨(λi q=>by rcases Φ.mp q with e | e <;> cases e),by show 1<=24;decide⟩ λρ j e=>by
  have O:=h.ok ρ j e;exact Yc F.f f U p (O.fresh o g s) (by rw[O.mW c];exact m) l<|O.Vw d
theorem Hv.line(F:fu K aB aP aM){w:_a Ln}(h:Hv K aB aP aM rows bs rk ks (ls++[w]) sts){o:_m}{cnt:_c}(T:Tl rows o cnt)(hc:cnt<4){n:_c}{R sh lo hi:_j}(c:rk[j]? = _b (t,m,R))(B:(rk.map (·.1)).Nodup)(P:isNm t)(H:(o,n)∈bs)(q:lo<=hi)(hn:hi<(n:_j))(Z : -200<=sh)(M:sh<=200)(X:0<=lo)(I:hi<=60) :
  Hv K aB aP aM (rows++[⟨"line",t,[.int sh,.int lo,.int hi]⟩]) bs rk ks (ls++[w++[⟨j,sh,lo,hi⟩]]) sts:=by
 obtain⟨r0,st,lr,er,s,W,J,Q⟩:=T;have G:Fj "line" = false:=by decide
 refine⟨λρ us e=>?_,?_,?_,Hs h.lm<|λ_=>Ľ.mpr ⟨_,List.mem_of_getElem? c,U⟩,Hs h.sm (λz=>_z z<|by show ¬ ("line" : _m) = "step";decide),Hs h.wd<|.inr<|.inr<|.inr<|.inr<|.inr<|.inl U,Hs h.pk ⟨(λi hi=>by simp only[Φ,Ô,Œ,V.int.injEq,reduceCtorEq,AR] at hi;lia),by show 3<=24;decide⟩⟩
 .obtain⟨a,v,rfl,C,b⟩:=Kz e;have O:=h.ok ρ a C;obtain⟨r,u1,k,m1,m2⟩:=Ź.mp<|C.trans er;obtain⟨d,y,Y,l,E⟩:=sD.mp m2;subst Y;have p:d∈a:=by rw[k];simp
  have x:y.length=cnt:=by rw[<-J,<-E,ah]
  have N:a.length=r.length+(cnt+1):=by rw[k,am,bi,x]
  refine O.snoc ?_ ?_ ?_ (λ_ _ h=>h) (λ_=>⟨⟨j,_,sh,lo,hi,c,by rw[b],by rw[b]⟩,d,p,by rw[l,s];decide⟩) ?_
  .rw[Eo (by unfold pw;rw[b];show decide (V.str "line" = V.str "board")=_p;decide),O.eb]
  .rw[Eo (by unfold pw;rw[b];show decide (V.str "line" = V.str "rank")=_p;decide),O.er]
  .rw[Eo (by rw[b];exact G),O.ek]
  .rw[b];have f:a[a.length - 1 - cnt]? = _b d:=by
    have:a.length - 1 - cnt=r.length:=by lia
    rw[this,k,bX<|al _,iF];rfl
   refine .inl ?_;refine Yl F U P (O.qI<|ai c) Z M X (YU q I) (YU X q) I O.vZ ⟨cnt,d,sh,lo,hi,o,[],U,⟨λi L=>?_,by lia,d,f,by rw[l,s];decide⟩,hc,f,by rw[l,s],by rw[l,W],q,?_⟩
   .have g:cnt - 1 - i<y.length:=by lia
    refine⟨y[cnt - 1 - i],?_,?_⟩
    .have:a.length - 1 - i=r.length+((cnt - 1 - i)+1):=by lia
     rw[this,k,bX<|zor _ _,kK,Ŵ];exact af g
    .refine Q _ ?_;rw[<-E];exact aE<|eJ g
   .obtain⟨u,hu,D⟩:=O.lL H;rw[fq];refine⟨u,be.mpr ⟨hu,?_⟩,?_⟩
    .unfold pw;rw[D];exact _i U
    .show (pn ρ o u && decide (hi<uG (ρ u)))=_g;unfold pn;rw[D,eM];exact⟨_i U,_i hn⟩
 .rw[Cv,h.ln];unfold Do;rw[_l (by show ¬ Fj "line" = _g;rw[G];decide),_n U,Hj];have A:=(ag.mp c).1;have:(rk.map (·.1)).idxOf t=j:=by
   have hl:j<(rk.map (·.1)).length:=by rw[ah];exact A
   have S:(rk.map (·.1))[j]=t:=by
    rw[ow];have:=(ag.mp c).2;rw[this]
   rw[<-S];exact B.idxOf_getElem j hl
  show ls++[w++[⟨(rk.map (·.1)).idxOf t,sh,lo,hi⟩]]=_;rw[this]
 .rw[YG (by show ¬ ("line" : _m) = "step";decide)];exact h.st
theorem Hv.step(h:Hv K aB aP aM rows bs rk ks ls sts)(f:∃t,_W K aM "step" = _b (_b<|.int 12 t)){t0:_m}{ts:_a _m}(q:(t0::ts).Nodup)(g:(t0::ts).length<=24)(b:∀t∈t0::ts,isNm t/\∃k∈ks,k.w = "stop" /\ k.nm=t)(D:sts.length<12):Hv K aB aP aM (rows++[⟨"step",t0,ts.map V.str⟩]) bs rk ks ls (sts++[Wd.mk ((t0::ts).map λt=>(ks.map (·.nm)).idxOf t)]):=by
 have d:V.str t0::ts.map V.str=(t0::ts).map V.str:=rfl;have c:∀t∈t0::ts,t∈ks.map (·.nm):=λt j=>by
  obtain⟨_,k,B,_,rfl⟩:=b t j;exact aE B
 refine⟨λρ C e=>?_,?_,?_,Hs h.lm (λz=>_z z<|by show ¬ ("step" : _m) = "line";decide),Hs h.sm<|λ_=>⟨t0::ts,d,g,c⟩,Hs h.wd<|.inr<|.inr<|.inr<|.inr<|.inr<|.inr U,Hs h.pk ⟨(λi w=>by obtain⟨t,_,e⟩:=Ľ.mp w;cases e),by show (ts.map V.str).length<=24;rw[Τ];rw[õ] at g;exact LT g⟩⟩
 .obtain⟨l,v,rfl,n,a⟩:=Kz e;have O:=h.ok ρ l n;refine O.snoc ?_ ?_ ?_ (λ_ _ h=>h) (λz=>_z (a ▸ z)<|by show ¬ ("step" : _m) = "line";decide) ?_
  .rw[Eo (by unfold pw;rw[a];show decide (V.str "step" = V.str "board")=_p;decide),O.eb]
  .rw[Eo (by unfold pw;rw[a];show decide (V.str "step" = V.str "rank")=_p;decide),O.er]
  .rw[Eo (by rw[a];show Fj "step" = _p;decide),O.ek]
  .rw[a];obtain⟨x,f⟩:=f;refine .inr ⟨U,⟨t0::ts,d,q,g,λt j=>?_⟩,12,x,f,?_⟩
   .obtain⟨s,k,m,o,y⟩:=b t j;refine⟨s,Nk.mpr ?_⟩;rw[<-O.ek] at m;obtain⟨u,A,rfl⟩:=ay.mp m;exact⟨u,(be.mp A).1,o,y⟩
   .have:(l.filter<|pw ρ "step").length=sts.length:=by
     rw[<-h.st,ah,<-n,fg,ah];rfl
    show (((l.filter<|pw ρ "step").length:_c):_j)<12;lia
 .rw[Cv,h.ln];rfl
 .rw[fk,ba,h.st];have p:([(⟨"step",t0,ts.map V.str⟩:R)]).filter iG=[⟨"step",t0,ts.map V.str⟩]:=rfl;rw[p];show sts++[stN ks _]=_;unfold stN;rw[Ji (r:=⟨"step",t0,ts.map V.str⟩) d]
theorem Hv.fin(h:Hv K aB aP aM rows bs rk ks ls sts)(c:Paired (λ(r:R) v=>TupAt H r.v v) rows vs)(g:1<=bs.length)(i:bs.length<=5)(sz:∀b∈bs,b.2<=61)(nr:rk.length<=12)(m:∀r∈rk,r.2.1<=97)(n:ks.length<=100)(nb:(bs.map (·.1)).Nodup)(d:(rk.map (·.1)).Nodup)(l:(ks.map (·.nm)).Nodup)(len:rows.length<=150) :
  Rows H (KJ H) vs/\Ok6 K aB aP aM (KJ H) vs bs rk ks/\linesOf rk (vs.map<|KJ H)=ls/\((vs.filter<|pw (KJ H) "step").map λv=>stN ks<|KJ H v)=sts:=by
 have a:=Q5 c;have O:=h.ok (KJ H) vs a;have j:Rows H (KJ H) vs:=λv e=>by
  obtain⟨r,_,f⟩:=Dg c e;rw[Nv f];exact f
 refine⟨j,⟨O.eb,O.er,O.ek,O.ln,λv e k=>?_,g,i,sz,nr,m,n,nb,d,l,by rw[<-c.length];exact len,O.ok⟩,by rw[a];exact h.ln,?_⟩
 .refine h.sm (KJ H v) ?_ k;rw[<-a];exact aE e
 .rw[<-h.st,<-a,fg,bb];rfl
end
open PySem L2
structure PlA where
 p:_d
 r:_d
 b:_d
 k:_d
 n:_d
 d:_d
 s:_d
inductive Dt where
 | stop(b:_c)(L:_d)
 | coup(a b:_c)(s:_j)
 | mute(b:_c)
def Dt.L:Dt->_a _d
 |.stop _ L=>[L]
 |_=>[]
structure Pl where
 rows:_a R
 bs:_a<|_m×_c
 rk:_a<|_m×_c×_j
 ks:_a R
 ls:_a<|_a Ln
 ds:_a Dt
 ch:_a<|_a _c
end Og
namespace L2
open PySem PySem.Spec PyProof.Rows
theorem oJ:∀{ns:_a _j}{us:_a _k},Vals (ns.map V.int) us->ÿ us ns
 |[],_,r=>by cases r;exact .nil
 |n::ns,_,r=>by
  cases r with
  |cons r t =>
   obtain⟨a,rfl⟩:=r;exact .cons n a<|oJ t
theorem nP:∀{ns:_a _j}{us:_a _k},ÿ us ns->Vals (ns.map V.int) us
 |_,_,.nil=>.nil
 |_,_,.cons n t r=>.cons ⟨t,U⟩<|nP r
end L2
namespace Og
open PySem L2
theorem Yh(a b:_a<|_m×_c):∃t,Eb (a++b)=Eb a++t:=by
 unfold Eb;rw[wP,List.flatMap_append];exact⟨_,U⟩
theorem Wo{bs:_a (_m×_c)}{b:_m×_c}(h:bs[i]? = _b b)(a:n<b.2):(Eb bs)[((bs.take i).map (·.2)).sum+n]? = _b (i,n):=by
 obtain⟨t,e⟩:=Yh (bs.take<|i+1)<|bs.drop<|i+1;rw[eW] at e;have hl:=Eg<|bs.take i
 rw[e,Hi h,dt,bX<|by lia,<-hl,kK,fb<|by rw[ah,fT];exact a,ar,uA a];rfl
def Tx(t:_m):Prop:=t.length<=1000/\∀c∈t.cps.toList,c<128
theorem isNm.tx(h:isNm t):Tx t:=⟨by have:=h.2.1;exact rx this (by decide),λc a=>by have:=h.2.2 c a;exact cc this.2 (by decide)⟩
inductive CZ(H:Hp):V->Prop where
 | non:CZ H .non
 | bl(b:_O):CZ H (.bl b)
 | int(i:_j):CZ H (.int i)
 | lst{a:_d}{xs:_a V}(h:H a=_b (.lst xs)):CZ H (.ref a)
 | tup{a:_d}{xs:_a V}(h:H a=_b (.tup xs)):CZ H (.ref a)
 | str{t:_m}(h:Tx t):CZ H (.str t)
theorem CZ.mono{v:V}(s:Aj H H')(h:CZ H v):CZ H' v:=by
 cases h with
 |non=>exact .non
 |bl b=>exact .bl b
 |int i=>exact .int i
 |lst h=>exact .lst<|s _ _ h
 |tup h=>exact .tup<|s _ _ h
 |str h=>exact .str h
noncomputable def G9(ns:_a _m):V->V
 |.str t=>if t∈ns then .int ((ns.idxOf t:_c):_j) else .non
 |_=>.non
theorem Gv(h:t∈ns):ns[ns.idxOf t]? = _b t:=by
 have hl:=gL h;rw[af hl,xi hl]
theorem Wr(a b:_m):U7 (.str a) (.str b)=decide (a=b):=by
 show (a == b)=_;rw[fh,_F,_H]
theorem cM(ns:_a _m)(t:_m):inV (.str t) (ns.map V.str)=decide (t∈ns):=by
 rw[fh,_H];unfold inV;rw[fq];constructor
 .rintro⟨y,b,e⟩;obtain⟨n,a,rfl⟩:=ay.mp b;rw[Wr] at e;rw[<-_s e];exact a
 .intro h;exact⟨_,aE h,by rw[Wr];exact _i U⟩
noncomputable def dN(K:_q)(C:_d):Bool:=(Ξ K (.ref C) "__getattribute__" == _b (_b<|.builtin "BaseException.__getattribute__")) && (Ξ K (.ref C) "__getattr__" == _b _o) &&
 (ć K C (.type "BaseException") == _b _g) && İ K C && (Ξ K (.ref C) "__class__" == _b (_b<|.builtin "object.__class__")) &&
 (ı K (.builtin "object.__class__") "__get__" == _b (_b<|.builtin "getset_descriptor.__get__")) && (CF K (.builtin "object.__class__") == _b _g) && (ć K C (.type "object") == _b _g) && Ö K (.ref C)
theorem Uy{K:_q}(h:dN K C=_g):zg K C/\Ö K (.ref C)=true:=by
 simp only[dN,Θ,_F] at h;obtain⟨⟨⟨⟨⟨⟨⟨⟨b,g⟩,i⟩,c⟩,e⟩,d⟩,f⟩,j⟩,a⟩:=h;exact⟨⟨b,g,i,c,e,d,f,j⟩,a⟩
noncomputable def nQ(K:_q)(C cO:_d)(ds:_a _d):Bool :=
 dN K C && (ξ K (.ref C) (.ref C) == _b _g) && (ξ K (.ref C) (.type "ValueError") == _b _g) && (W.kitAny K (.ref C) (ds.map _K) == _b _p) && (ds.all λD=>ξ K (.ref C) (.ref D) == _b _p) &&
 Ĉ K C bQ "ValueError.__new__" && (ć K C (.ref cO) == _b _g)
structure Rc(K:_q)(C cO:_d)(ds:_a _d):Prop where
 xc:zg K C
 kp:Ö K (.ref C)=_g
 k0:ξ K (.ref C) (.ref C)=_b _g
 kv:ξ K (.ref C) (.type "ValueError")=_b _g
 ka:W.kitAny K (.ref C) (ds.map _K)=_b _p
 kf:∀D∈ds,ξ K (.ref C) (.ref D)=_b _p
 ex:Ĉ K C bQ "ValueError.__new__" = _g
 mro:ć K C (.ref cO)=_b _g
theorem Rc.of{K:_q}{a:_d}{c:_a _d}(h:nQ K C a c=_g):Rc K C a c:=by
 unfold nQ at h;simp only[Θ,_F,List.all_eq_true] at h;obtain⟨⟨⟨⟨⟨⟨b,f⟩,j⟩,i⟩,e⟩,g⟩,d⟩:=h;exact⟨(Uy b).1,(Uy b).2,f,j,i,e,g,d⟩
structure Ex4(K:_q)(mg:_m->_r _k)(cK cP cB cS cO:_d):Prop where
 verr:mg "ValueError" = _o
 mK:mg "NoKnob" = _b (.ref cK)
 mP:mg "NoPiston" = _b (.ref cP)
 mB:mg "NoBoard" = _b (.ref cB)
 mS:mg "NoStep" = _b (.ref cS)
 mO:mg "OrganError" = _b (.ref cO)
 exO:Ĉ K cO bQ "ValueError.__new__" = _g
 rK:Rc K cK cO [cB,cP,cS]
 rP:Rc K cP cO [cB,cK,cS]
 rB:Rc K cB cO [cK,cP,cS]
 rS:Rc K cS cO [cB,cK,cP]
noncomputable abbrev Rm:_a Str:=["__init__","draw","pull","push","store","press","cancel","shoe","drawn","knobs","step"]
structure Dj(Cy:_d)(H:Hp)(y x:_d)(dr sh:_c)(sd:_d):Prop where
 ex:∃dy fs,H y=_b (.ins Cy dy fs)/\fs.lookup ("organ" : _m)=_b (.ref x)/\fs.lookup ("drawn_set" : _m)=_b (.int (dr:_c))/\fs.lookup ("shoe_step" : _m)=_b (.int (sh:_c))/\fs.lookup ("stored" : _m)=_b (.ref sd)/\fs.length<=4/\∀m∈Rm,fs.lookup m=_o
theorem Dj.mono(s:Aj H H')(h:Dj Cy H y x dr sh sd):Dj Cy H' y x dr sh sd:=by
 obtain⟨b,fs,a,c⟩:=h.ex;exact⟨b,fs,s _ _ a,c⟩
structure sJ(C Cy:_d)(Ho H:Hp)(y x:_d)(us:_a V)(bs:_a<|_m×_c)(rk:_a<|_m×_c×_j)(ks:_a R)(ls:_a<|_a Ln)(sts:_a _c)(dr sh:_c)(sd:_d):Prop where
 o:Jv C Ho x us bs rk ks ls sts
 s:Aj Ho H
 n:Ho y=_o
 c:Dj Cy H y x dr sh sd
theorem sJ.mono{bs:_a (_m×_c)}{rk:_a (_m×_c×_j)}(s:Aj H H')(h:sJ C Cy Ho H y x us bs rk ks ls sts dr sh sd):sJ C Cy Ho H' y x us bs rk ks ls sts dr sh sd :=
 ⟨h.o,h.s.trans s,h.n,h.c.mono s⟩
theorem Ot{f:_m}{v u:V}:∀{fs:_a (_m × V)},fs.lookup f=_b u->(Bj f v fs).length=fs.length
 |[],h=>by cases h
 |(g,x)::r,h=>by
  unfold Bj;by_cases e:g=f
  .rw[_n e];rfl
  .rw[_l e];rw[Ω,show (f == g)=_p from Ã.mpr<|_J e] at h;rw[bi,bi,Ot h]
theorem Fq(f:_m)(v:V):∀fs:_a<|_m×V,(Bj f v fs).length<=fs.length+1
 |[]=>al _
 |(g,x)::r=>by
  unfold Bj;split
  .exact kA _
  .exact md<|Fq f v r
theorem Dj.new{a:_d}(h:H y=_b (.ins Cy a<|Bj "stored" (.ref sd) (Bj "shoe_step" (.int 0) (Bj "drawn_set" (.int 0) (Bj "organ" (.ref x) []))))):Dj Cy H y x 0 0 sd:=by
 refine⟨a,_,h,?_,?_,?_,?_,?_,λm c=>?_⟩
 .rw[BW,_l<|by decide,BW,_l<|by decide,BW,_l<|by decide,BW,_n U]
 .rw[BW,_l<|by decide,BW,_l<|by decide,BW,_n U];rfl
 .rw[BW,_l<|by decide,BW,_n U];rfl
 .rw[BW,_n U]
 .have d:=Fq "stored" (.ref sd) (Bj "shoe_step" (.int 0) (Bj "drawn_set" (.int 0) (Bj "organ" (.ref x) [])));have j:=Fq "shoe_step" (.int 0) (Bj "drawn_set" (.int 0) (Bj "organ" (.ref x) []));have k:=Fq "drawn_set" (.int 0) (Bj "organ" (.ref x) []);have g:=Fq "organ" (.ref x) [];have i:([]:_a<|_m×V).length=0:=rfl;lia
 .have ne:∀f:_m,f ∉ Rm->¬ m=f:=λf b e=>b<|e ▸ c
  rw[BW,_l<|ne _<|by decide,BW,_l<|ne _<|by decide,BW,_l<|ne _<|by decide,BW,_l<|ne _<|by decide];rfl
theorem Dj.putD{b:_d}{g sh:_c}{fs:_a (_m×V)}(n:_c)(i:fs.lookup ("organ" : _m)=_b (.ref x))(d:fs.lookup ("drawn_set" : _m)=_b (.int (g:_c)))(f:fs.lookup ("shoe_step" : _m)=_b (.int (sh:_c)))(k:fs.lookup ("stored" : _m)=_b (.ref sd))(j:fs.length<=4)(c:∀m∈Rm,fs.lookup m=_o)(h:H y=_b (.ins Cy b<|Bj "drawn_set" (.int (n:_c)) fs)):Dj Cy H y x n sh sd:=by
 refine⟨b,_,h,?_,?_,?_,?_,by rw[Ot d];exact j,λm a=>?_⟩
 .rw[BW,_l<|by decide];exact i
 .rw[BW,_n U]
 .rw[BW,_l<|by decide];exact f
 .rw[BW,_l<|by decide];exact k
 .rw[BW,_l λe=>_z a<|by rw[e];decide];exact c m a
theorem Dj.vo{c:_d}{b sh:_c}{fs:_a (_m×V)}(n:_c)(i:fs.lookup ("organ" : _m)=_b (.ref x))(f:fs.lookup ("drawn_set" : _m)=_b (.int (b:_c)))(g:fs.lookup ("shoe_step" : _m)=_b (.int (sh:_c)))(k:fs.lookup ("stored" : _m)=_b (.ref sd))(j:fs.length<=4)(d:∀m∈Rm,fs.lookup m=_o)(h:H y=_b (.ins Cy c<|Bj "shoe_step" (.int (n:_c)) fs)):Dj Cy H y x b n sd:=by
 refine⟨c,_,h,?_,?_,?_,?_,by rw[Ot g];exact j,λm a=>?_⟩
 .rw[BW,_l<|by decide];exact i
 .rw[BW,_l<|by decide];exact f
 .rw[BW,_n U]
 .rw[BW,_l<|by decide];exact k
 .rw[BW,_l λe=>_z a<|by rw[e];decide];exact d m a
structure ExH(K:_q)(mg:_m->_r _k)(cH cO:_d):Prop where
 verr:mg "ValueError" = _o
 mH:mg "NotHeld" = _b (.ref cH)
 mO:mg "OrganError" = _b (.ref cO)
 exH:Ĉ K cH bQ "ValueError.__new__" = _g
 rH:Rc K cH cO []
 mHH:ć K cH (.ref cH)=_b _g
noncomputable abbrev dJ:_a Str:=["__init__","hold","leave","act","do","sound","held","knobs"]
structure La(Cp:_d)(H:Hp)(z x y hd:_d):Prop where
 ex:∃dz fs,H z=_b (.ins Cp dz fs)/\fs.lookup ("organ" : _m)=_b (.ref x)/\fs.lookup ("console" : _m)=_b (.ref y)/\fs.lookup ("hands" : _m)=_b (.ref hd)/\∀m∈dJ,fs.lookup m=_o
theorem La.mono{a:_d}(s:Aj H H')(h:La Cp H z x y a):La Cp H' z x y a:=by
 obtain⟨g,fs,b,f,d,e,c⟩:=h.ex;exact⟨g,fs,s _ _ b,f,d,e,c⟩
end Og
namespace L2
open PySem PySem.Spec PyProof.Rows
structure VG(K:_q)(x qual:_m)(st:Ú)(f:_d)(fd:ä):Prop where
 ex:∃(oc:_k)(od:_r _d)(dV kV qa pm:_k)(an:_r _d)(k8 ct:_k)(tS:_E<|_r _k),
  fd=ò x qual (Dq st) (Cg st) (Ae st) dV kV qa pm an k8 ct/\K.lookup f=_b ⟨oc,od,.func fd,tS⟩/\Ĳ K k8 qual=_g
 kp:Ö K (.ref f)=_g
section
variable{w:_P}{K:_q}
theorem jZ{x:_m}{st:Ú}{h:_k}{i d:_r _d}{j:_E (_r _k)}{g kV b e a ct:_k}(l:K.lookup f=_b ⟨h,i,.func<|ò x qual (Dq st) (Cg st) (Ae st) g kV b e d a ct,j⟩)
  (c:Ĳ K a qual=_g)(k:Ö K (.ref f)=_g):VG K x qual st f<|ò x qual (Dq st) (Cg st) (Ae st) g kV b e d a ct:=⟨⟨h,i,g,kV,b,e,d,a,ct,j,U,l,c⟩,k⟩
theorem pZ{t:_d}{b:_k}{i:_r _d}{a:_E _k}{f:_E (_r _k)}(lt:K.lookup t=_b ⟨b,i,.seq a n,f⟩)(e:fd.defaults=.ref t)
  (h:∀us:_a _k,us.length=ps.length->∃k,bindArgs fd ⟨us,[]⟩=seqItems? fd.defaults >>= k/\k (_b a)=pure (ps.zip us)):Binds K fd ps []:=λs us d hl=>by
 rw[cy] at hl |-;obtain⟨k,c,g⟩:=h us hl;exact BindsTo.of_defaults e (d _ _ lt) U c g
end
section
variable{K:_q}
theorem jP{a:_a _k}{t:_d}{c:_k}{j:_r _d}{b:_E _k}{g:_E (_r _k)}(lt:K.lookup t=_b ⟨c,j,.seq b n,g⟩)(f:fd.defaults=.ref t)
  (h:∀us:_a _k,(us++a).length=ps.length->∃k,bindArgs fd ⟨us,[]⟩=seqItems? fd.defaults >>= k/\k (_b b)=pure (ps.zip<|us++a)):Binds K fd ps a:=λs us e hl=>by
 obtain⟨k,d,i⟩:=h us hl;exact BindsTo.of_defaults f (e _ _ lt) U d i
end
open PySem PySem.Spec PySem.Calls PyProof.Rows
structure bf(K:_q)(C:_d)(m:_m)(f:_d)(mc:_k):Prop where
 ga:ı K (.ref C) "__getattribute__" = _b (_b<|.builtin "type.__getattribute__")
 rd:W.readsIn K C mc=_g
 fc:W.findCls K (.ref C) mc m=_b (.val<|.ref f)
 kp:Ö K (.ref f)=_g
section
variable{CX:V1}{k:_c}{sp:Sp}{pe:_a V}{ds:_a _k}{E:XK}{x m:_m}{p:ī}{e:Expr}{t:TA}{mc:_k}
theorem V0{pl:ũ _O}(l:Gl X x)(K:X.mg x=_b (.ref C))(M:bf X.K C m f mc)(F:GJ X.prog X.w X.K X.mg X.base CX k f fd ps sp)(y:DN k X.A)(B:Binds X.K fd ps ds)(G:Vals pe ds)(z:FZ CX X E)(A:PA X (e::es) t)
  (n:(x == ("__debug__" : _m))=false:=by decide)
  (c:starEach (e::es) X.env=(_p,eval e X.env)::starEach es X.env:=by rfl)(a:(backTo pos<|starEach es X.env).any (·.1)=false:=by rfl)
  (J:eval (.Call (.Attribute (.Name x p) m i5) (e::es) [] pos) X.env=(do
   let ov <-eval (.Name x p) X.env
   standAt i5.atName
   let (f,first) <-holding [ov] (getMethod ov m pl)
   callWith pos f first (backTo pos<|starEach (e::es) X.env) (backToKw pos<|keywordEach [] X.env)):=by rfl) :
  PE X (.Call (.Attribute (.Name x p) m i5) (e::es) [] pos) (cT sp pe E t):=by
 intro g s σ H Q I h;have o:PE X (.Name x p)<|tC<|.ref C:=Cu l K U n
 refine ā (pl:=pl) (CN (o g s σ H (λv d=>v=.ref C/\d=H) I ⟨U,U⟩) λu N ⟨v,d,b,D,j,q⟩=>?_) J;subst j;subst q;obtain rfl:u=_K C:=D;refine W.method_cls b.Ig M.ga<|W.cls_value b.Ig M.rd M.fc U ?_
 have L:=b.tok<|N.toks+1
 refine ñ (first:=[]) (h₀:=X.base) I.ok.mod.kin M.kp (CN (A pos g _ σ d _ L h) λus O ⟨vs,P,i,r,w⟩=>⟨i.Ig,?_⟩) c a;exact Mz (us:=us) (vs:=vs) F y B G z i r w
end
section
variable{CX:V1}{k:_c}{f1 f2 C1 C2:_d}{Tk RS:ä}{OV O0:_a _m}{BN Cc:Sp}{E:XK}{m:_m}{p:ī}{e o:Expr}{t:TA}
inductive XM(C1 C2:_d)(m:_m)(BN Cc:Sp)(E:XK)(t:TA)(σ:St)(Q:VK)(x:V)(H1:Hp):Prop
|mk(a dx fs:_)(_:x=.ref a)(_:fs.lookup m=_o)(_:(H1 a=_b (.ins C1 dx fs)/\t σ H1 λvs H2=>BN (x::(vs++[])) H2 Q E) \/ (H1 a=_b (.ins C2 dx fs)/\t σ H1 λvs H2=>Cc (x::(vs++[])) H2 Q E))
abbrev ug(C1 C2:_d)(m:_m)(BN Cc:Sp)(E:XK)(ta:TE)(t:TA):TE:=λσ H Q=>ta σ H λx H1=>XM C1 C2 m BN Cc E t σ Q x H1
theorem dw{pl:ũ _O}(O:PE X o ta)(M:Py X.K C1)(D:Meth X.K C1 m f1)(P:GJ X.prog X.w X.K X.mg X.base CX k f1 Tk OV BN)(i:Binds X.K Tk OV [])
  (R:Py X.K C2)(A:Meth X.K C2 m f2)(J:GJ X.prog X.w X.K X.mg X.base CX k f2 RS O0 Cc)(p:Binds X.K RS O0 [])(w:DN k X.A)(y:FZ CX X E)(z:PA X (e::es) t)
  (b:starEach (e::es) X.env=(_p,eval e X.env)::starEach es X.env:=by rfl)(c:(backTo pos<|starEach es X.env).any (·.1)=false:=by rfl)
  (K:eval (.Call (.Attribute o m i5) (e::es) [] pos) X.env=(do
   let ov <-eval o X.env
   standAt i5.atName
   let (f,first) <-holding [ov] (getMethod ov m pl)
   callWith pos f first (backTo pos<|starEach (e::es) X.env) (backToKw pos<|keywordEach [] X.env)):=by rfl) :
  PE X (.Call (.Attribute o m i5) (e::es) [] pos) (ug C1 C2 m BN Cc E ta t):=by
 intro j s σ H Q I h;refine ā (pl:=pl) (CN (O j s σ H _ I h) λu C ⟨x,B,g,N,a,S,fs,F,l,q⟩=>?_) K;subst F;obtain rfl:u=_K a:=N;rcases q with⟨n,q⟩ | ⟨n,q⟩
 .refine Ge g n M D l ?_;refine ñ (first:=[.ref a]) (h₀:=X.base) I.ok.mod.kin D.kp (CN (z pos j C σ B _ g q) λus G ⟨vs,L,d,r,v⟩=>⟨d.Ig,?_⟩) b c;exact Mz (us:=.ref a::us) (vs:=.ref a::vs) P w i .nil y d (.cons U r) v
 .refine Ge g n R A l ?_;refine ñ (first:=[.ref a]) (h₀:=X.base) I.ok.mod.kin A.kp (CN (z pos j C σ B _ g q) λus G ⟨vs,L,d,r,v⟩=>⟨d.Ig,?_⟩) b c;exact Mz (us:=.ref a::us) (vs:=.ref a::vs) J w p .nil y d (.cons U r) v
end
section
variable{w:_P}{K:_q}
theorem VG.okW{x:_m}{st:Ú}{N:_a _m}{k:_c}{sp:Sp}(F:VG K x qual st f fd)(S:Am N ps<|Ae st)(len:∀vs H Q E,sp vs H Q E->vs.length=ps.length)
  (i:∀(b:_k)(A:ì)(a:_a ŀ)(s:_C)(H:Hp)(vs:_a V)(Q:VK)(E:XK),DN k (A.deeper<|envOfC qual (Ae st) s.heap.objs.size f b)->sp vs H Q E ->
   ∃t,RJ (Mp (HH P w) P w K mg base N qual (Ae st) f b A a s H E) (Cg st) t/\t { nx:=λ_ H'=>Q .non H',rt:=Q } (start N vs) H):GJ P w K mg base (HH P w) (k+1) f fd ps sp:=by
 obtain⟨p,r,n,kV,o,l,u,b,j,m,rfl,d,g⟩:=F.ex;refine dO d g S len λA a s H vs Q E c e=>?_;obtain⟨t,h,q⟩:=i b A a s H vs Q E c e;exact⟨t,h,q⟩
theorem VG.LQ{x:_m}{st:Ú}{N:_a _m}{k:_c}{sp:Sp}(F:VG K x qual st f fd)(S:Am N ps<|Ae st)
  (c:∀{b:_k}{A:ì}{a:_a ŀ}{s:_C}(H:Hp)(vs:_a V)(Q:VK)(E:XK),DN k (A.deeper<|envOfC qual (Ae st) s.heap.objs.size f b)->sp vs H Q E ->
   ∃t,RJ (Mp (HH P w) P w K mg base N qual (Ae st) f b A a s H E) (Cg st) t/\t { nx:=λ_ H'=>Q .non H',rt:=Q } (start N vs) H)
  (len:∀vs H Q E,sp vs H Q E->vs.length=ps.length:=by intro _ _ _ _ h;cases h;subst_vars;rfl):GJ P w K mg base (HH P w) (k+1) f fd ps sp:=F.okW S len λ_ _ _ _ H vs Q E=>c H vs Q E
end
end L2
namespace Og
open PySem L2
structure AAg(K:_q)(mg:_m->_r _k)(pB pE pA:_d):Prop where
 mB:mg "Piston" = _b (.ref pB)
 mE:mg "Every" = _b (.ref pE)
 mA:mg "Part" = _b (.ref pA)
 cE:Py K pE
 cA:Py K pA
 nEk:CT K pE "knob_set"
 nAk:CT K pA "knob_set"
 nAw:CT K pA "whole_set"
 most:∃t,mg "PISTON_COUNT" = _b (.int 10 t)
inductive Ps where
 | every(k:_c)
 | part(k w:_c)
def Ps.put:Ps->_c->_c
 |.every k,_=>k
 |.part k w,d=>(d - (d &&& w)) ||| k
def Iu(pE pA:_d)(H:Hp)(o:_d):Ps->Prop
 |.every k=>∃dx,H o=_b (.ins pE dx [("knob_set",.int (k:_c))])
 |.part k w=>∃dx,H o=_b (.ins pA dx [("knob_set",.int (k:_c)),("whole_set",.int (w:_c))])
structure di(pE pA:_d)(H:Hp)(sd:_d)(m:_c->_r Ps)(c:_c):Prop where
 ex:∃kvs:_a<|Key×V,H sd=_b (.dK kvs)/\kvs.length<=c/\(∀p,p<10->m p=_o->CW kvs (Key.inl (p:_c))=_o)/\∀p ps,p<10->m p=_b ps->∃o,CW kvs (Key.inl (p:_c))=_b (.ref o)/\Iu pE pA H o ps
theorem Iu.keep{o:_d}{ps:Ps}(h:Iu pE pA H o ps)(f:∀c dx fs,H o=_b (.ins c dx fs)->H' o=_b (.ins c dx fs)):Iu pE pA H' o ps:=by
 cases ps with
 |every k =>
  obtain⟨dx,e⟩:=h;exact⟨dx,f _ _ _ e⟩
 |part k w =>
  obtain⟨dx,e⟩:=h;exact⟨dx,f _ _ _ e⟩
theorem di.mono{m:_c->_r Ps}{c:_c}(s:Aj H H')(h:di pE pA H sd m c):di pE pA H' sd m c:=by
 obtain⟨a,k,n,d,j⟩:=h.ex;refine⟨a,s _ _ k,n,d,λp g b i=>?_⟩;obtain⟨o,f,l⟩:=j p g b i;exact⟨o,f,l.keep λ_ _ _ e=>s _ _ e⟩
structure ExY(K:_q)(mg:_m->_r _k)(cY cD cP:_d):Prop where
 mY:mg "NoKey" = _b (.ref cY)
 mD:mg "NoDeed" = _b (.ref cD)
 exY:Ĉ K cY bQ "ValueError.__new__" = _g
 mPP:ć K cP (.ref cP)=_b _g
 exD:Ĉ K cD bQ "ValueError.__new__" = _g
noncomputable def pcL:_a<|_m×_a V:=[("hold",[.int 3]),("leave",[.int 3]),("pull",[.int 2]),("push",[.int 2]),("store",[.int 2,.int 3]),("press",[.int 2]),("cancel",[.int 1]),("shoe",[.int 2])]
abbrev Way:=_r<|_c×_j
def wy(w0 w1:Way)(b:_c):Way:=if b=0 then w0 else w1
end Og
namespace L2
open PySem PySem.Spec PySem.Calls PyProof.Rows
theorem UW(g:X.A.units<cLine):HW X (compareOp .NotEq) (λx y H Q=>∃p q xs,x=V.ref p/\y=V.ref q/\Dd X.K H p xs/\Dd X.K H q []/\Q (.bl<|!xs.isEmpty) H):=by
 intro C s σ H x y v u Q I m n h;obtain⟨p,q,xs,rfl,rfl,o,t,k⟩:=h
 cases m
 cases n;obtain⟨w,r,c,D⟩:=I.list o;obtain⟨B,l,d,A⟩:=I.list t;have f:=r.length
 cases l
 cases xs with
 |nil =>
  cases r;refine Ŗ (e:=λ_=>_g) c.isList d.isList U g (λj i E=>?_) _ _ _ _ ⟨.bl _,H,I,U,k⟩;exact _z i<|gd _
 |cons a b =>
  refine Ĵ c.isList d.isList (by simp;intro z;rw[z] at f;simp at f) g _ _ _ _ ⟨.bl _,H,I,U,k⟩
end L2
namespace Gn
theorem qt{a b:_c}(h:a &&& b=0):a+b=a ||| b:=by
 have d:a<2 ^ (a+b+1):=lh (cc (zor a b)<|gx _) nL;have e:b<2 ^ (a+b+1):=lh (cc (Nat.le_add_left b a)<|gx _) nL;have c:a+b<2 ^ (a+b+1):=lh (gx _) nL;have:=BitVec.add_eq_or_of_and_eq_zero (BF (a+b+1) a) (BF (a+b+1) b) (by
  apply BitVec.eq_of_toNat_eq;rw[BitVec.toNat_and,Ā,Ā,kz d,kz e,h];simp)
 have:=congrArg BitVec.toNat this;rw[BitVec.toNat_add,BitVec.toNat_or,Ā,Ā,kz d,kz e,kz c] at this;exact this
theorem Wy(D M k:_c):(D - (D &&& M)).testBit k=(D.testBit k && !M.testBit k):=by
 have a:(D &&& M) &&& (D ^^^ (D &&& M))=0:=ki λi=>by
  simp only[Ģ,œ,Ė]
  cases D.testBit i <;> cases M.testBit i <;> rfl
 have b:(D &&& M)+(D ^^^ (D &&& M))=D:=by
  rw[qt a];refine ki λi=>?_;simp only[Ģ,œ,Nat.testBit_or]
  cases D.testBit i <;> cases M.testBit i <;> rfl
 have e:D - (D &&& M)=D ^^^ (D &&& M):=by lia
 rw[e];simp only[Ģ,œ]
 cases D.testBit k <;> cases M.testBit k <;> rfl
end Gn
namespace L2
open PySem PySem.Spec PySem.Calls PyProof.Rows
inductive AAZ(K:_q)(O:_d)(ts:TS)(D:Ends)(C:_k)(od:_r _d)(σ:St)(H2:Hp):Prop
|mk(Ca:_)(_:C=.ref Ca)(_:ć K Ca (.ref O)=_b _g)(_:ts D σ H2)
abbrev wC(K:_q)(tb:XR->TS)(O:_d)(ts:TS):TS:=λD σ H=>tb (AAZ K O ts D) D σ H
section
variable{O:_d}{cn:_m}{np MC:ī}{body:_a Ú}{b0:Ú}{AQ:_a Ú}{ts:TS}{tb:XR->TS}
theorem lE(hb:∀ER,AAr X ER body<|tb ER)(YA:Gl X cn)(UZ:X.mg cn=_b (.ref O))(qO:Ĉ X.K O bQ "ValueError.__new__" = _g)
  (hs:∀x,RJ (X.inX x) (b0::AQ) ts) (HC:X.xe=λ_ _=>False:=by rfl) (w:X.stack=X.env::X.outer:=by rfl) (NJ:X.env.frame=_b X.env.locals:=by rfl) (VX:(cn == ("__debug__" : _m))=false:=by decide) :
  PS X (.Try body [.ExceptHandler (_b<|.Name cn np) _o (b0::AQ) MC] [] [] pos) (wC X.K tb O ts):=by
 intro m s₀ σ₀ H₀ D I₀ h₀;refine wpAny_Try_except<|ζ (hb _ m s₀ σ₀ H₀ D I₀ h₀) (λfl s' q=>?_) λA s' q=>?_
 .cases fl with
  |next=>exact ç q
  |brk=>exact q
  |cont=>exact q
  |ret u=>exact q
 .obtain⟨σ,H1,e,f,x,T,C,od,h,rfl,os,a,y,G,nT,N,tw,I,M,Ca,eC,FL,E⟩:=q
  cases eC;obtain⟨r,g,d,c,BB⟩:=s';obtain rfl:BB=e.os:=os;have I2:Inv X m σ h ⟨r,g,d,c,e.os⟩:=f.call (h':=r) (g':=g) (d':=d) (t':=c) (ch:=[]) M I a<|λb z=>_z z<|by simp
  have n:=f.ok.frames;have t:=I2.stack;rw[w] at n t;refine X3 (s:=⟨r,g,d,c,e.os⟩) n t NJ y λP T3 y3 m3 n3=>?_;refine Gr (s:=⟨P,g,d,c,e.os⟩) y3 λk Q R=>?_;have l:e.heap.get? T3=none:=by
   cases z:e.heap.get? T3 with
   |none=>rfl
   |some o =>
    obtain⟨o',A⟩:=M.there T3 o z<|by simp
    have K:r.get? T3=none:=n3;rw[K] at A;cases A
  have B:h T3=none:=I.none_of n3;have p:Mv (frs X.stack) x T r P:=by rw[w];exact m3
  have u3:=M.mv p G nT<|λb z z'=>_z z z'
  have Z:=u3.mv R G l (λ_ z=>nomatch z);have k3:Gg X.prog X.w h P:=I.mv p N tw I2.Kp;have S:Gg X.prog X.w h k:=k3.mv R N B (λ_ z=>nomatch z);have V:Inv X m σ h ⟨k,g,d,c,e.os⟩:=f.call (h':=k) (g':=g) (d':=d) (t':=c) (ch:=[]) Z S a<|λb z=>_z z<|by simp
  refine wpAny_handleBy_cons (codeAny_handlers_test<|Ku (V.inX x) YA UZ ?_ VX)<|by intro q;cases q
  obtain⟨ws,wt,sl,oT,ex,_⟩:=id Q;refine UV (s:=⟨k,g,d,c,e.os⟩) V.Ig ex qO FL ?_;refine codeAny_handlers_suite<|Gr (s:=⟨k,g,d,c,e.os⟩) Q λL y5 m5=>?_
  have u5:=Z.mv m5 G l (λ_ z=>nomatch z);have k5:Gg X.prog X.w h L:=S.mv m5 N B (λ_ z=>nomatch z);have I5:Inv X m σ h ⟨L,g,d,c,e.os⟩:=f.call (h':=L) (g':=g) (d':=d) (t':=c) (ch:=[]) u5 k5 a<|λb z=>_z z<|by simp
  refine ζ (hs x m _ _ _ _ (I5.inX x) E) (λfl s7 j=>?_) λA s7 j=>?_
  .cases fl with
   |next=>obtain⟨H,F,J,i⟩:=j;exact⟨_,_,J.j6 f.ok,i⟩
   |brk=>obtain⟨H,F,J,i⟩:=j;exact⟨_,_,J.j6 f.ok,i⟩
   |cont=>obtain⟨H,F,J,i⟩:=j;exact⟨_,_,J.j6 f.ok,i⟩
   |ret u=>obtain⟨v,H,F,J,rv,i⟩:=j;exact⟨_,_,_,J.j6 f.ok,rv,i⟩
  .have Y:X.xe A s7:=j;rw[HC] at Y;exact Y.elim
end
open PySem PySem.Spec PyProof.Rows
section
variable{o e f:Expr}{k6:ī}{td ty tx:TE}
inductive YC(K:_q)(P:Đ)(ty tx:TE)(σ:St)(Q:VK)(x:V)(H1:Hp):Prop
|mk(a:_)(_:x=.ref a)(_:KDict K P a)(_:ty σ H1 λy H2=>tx σ H2 λd H3=>∃z r,y=.str z/\_W K a z=_b r/\∃v,RelV v (r.getD .none)/\(r.isSome=_g->Q v H3)/\(r.isSome=_p->Q d H3))
abbrev uX(K:_q)(P:Đ)(td ty tx:TE):TE:=λσ H Q=>td σ H λx H1=>YC K P ty tx σ Q x H1
theorem cG(L:PE X o td)(N:PE X e ty)(T:PE X f tx)(m:M2 X o "get" i5 e f k6):PE X (.Call (.Attribute o "get" i5) [e,f] [] k6)<|uX X.K X.w.params td ty tx:=by
 intro c s σ H Q I h;refine Ő m.base m.few m.line iL fo lI<|CN (L c s σ H _ I h) λu S F=>?_
 obtain⟨x,O,i,M,a,p,d,q1⟩:=F;subst p;obtain rfl:u=_K a:=M;obtain⟨⟨es,n,hl,l⟩,lo⟩:=d;have Z:=ő (prog:=X.prog) i.Ig hl l;refine⟨Z.typeIs,λb q=>?_,?_⟩
 .cases q;exact⟨_,i.Ig _ _ hl,U⟩
 rw[m.trees];refine Β U (Ñ (Â (CN (N c S σ O _ i q1) λiv w ⟨y,K,R,P,Y⟩ =>
  Â (CN (T c w σ K _ R Y) λA s3 ⟨J,j,g,C,z,r,G,B,v,E,V,D⟩=>ċ ?_))))
 subst G;obtain⟨t,rfl⟩:=P;have k:=ő (prog:=X.prog) g.Ig hl l;refine Č fo k.typeIs PySem.F.entry_dict_get (PySem.F.args_dict_get_3 _ _ _) (xC (strKind X.prog X.w) a (Ī X.prog X.w z t) lo A) ⟨_,k,?_⟩;rw[yq hl B]
 cases r with
 |none=>exact⟨J,j,g.tok _,C,D U⟩
 |some u=>exact⟨v,j,g.tok _,E,V U⟩
end
theorem Be{X:Cx}{x:_m}{e:Expr}{a:TE}{b pos:ī}(i:_c)(d:X.N.Nodup)(hi:X.N[i]? = _b x)(g:Loc X.env.scope x)(h:PE X e a)(c:swapsWith e (_b<|.Name x b) pos.line X.env=pure _p)(f:X.fn x=_g \/ X.env.scope.names.lookup x=_b .local) :
  PS X (.Assign [.Name x b] e pos) (V_ a<|Df i):=BZ d hi g h c f
theorem Ao{X:Cx}{e:Expr}{a:_a Expr}{b:TE}{t:TA}(h:starEach (e::a) X.env=(_p,eval e X.env)::starEach a X.env)(c:PE X e b)(d:PA X a t):PA X (e::a)<|nJ b t:=Aa c d h
end L2
namespace Og
open PySem L2
structure CoS where
 rows:_a R
 bs:_a<|_m×_c
 rk:_a<|_m×_c×_j
 ks:_a R
 ls:_a<|_a Ln
 sts:_a _c
 sn:_a _m
end Og
namespace L2
open PySem PySem.Spec PySem.Calls PyProof.Rows
theorem Inv.freeze(I:Inv X a8 σ H s)(e:H a=_b (.dK kvs)):∃o,Inv X a8 σ (upd H a<|.frz o<|.dK kvs) s:=by
 have h:CG X.prog X.w H s.heap a<|.dK kvs:=I.hok a _ e
 obtain⟨_,_,p,j,f,t,r,k,_⟩:=id h;have up1:∀b x,H b=_b (.own x)->upd H a (.frz f<|.dK kvs) b=_b (.own x):=λb x q=>by
  rw[Ak λz=>by rw[z,e] at q;cases q];exact q
 have d:∀b g,H b=_b (.tup g)->upd H a (.frz f<|.dK kvs) b=_b (.tup g):=λb x q=>by
  rw[Ak λz=>by rw[z,e] at q;cases q];exact q
 refine⟨f,I.step (h':=s.heap) (g':=s.gens) (d':=s.drawn) (t':=s.toks) (ch:=[]) (λ_ z=>nomatch z) (λb o _ _ _ q _=>q) (λb o _ _ _ q _=>⟨o.slots,q⟩) (λb o _ _ n=>?_) (λb o _ q=>⟨o,q⟩) d (λb o u q=>?_) (λb l q=>⟨#[],?_⟩) (λm q=>q) (λb u q=>?_) I.bare⟩
 .rw[Ak λz=>by rw[z,e] at n;cases n];exact n
 .rw[Ak λz=>by rw[z,e] at q;cases q];exact q
 .rw[Ak (λz=>by rw[z,e] at q;cases q),q];simp
 .by_cases i:b=a
  .subst i;rw[Ah] at q
   cases q;exact⟨k,h.stay (λ_ _ _ q=>q) (λc q=>up1 c _ q) d⟩
  .rw[Ak i] at q;exact (I.hok b u q).stay (λ_ _ _ q=>q) (λc q=>up1 c _ q) d
def Pz(o:Þ):Nat:=match o.data with | .dict _ n=>n | _=>0
def Itd(a:_d)(o:Þ)(kvs:_a<|Key×V):It :=
 ⟨λi H=>H a=_b (.frz o<|.dK kvs)/\i<kvs.length,λi H v H'=>∃T kv,H T=_o/\v=.ref T/\kvs[i]? = _b kv/\H'=upd H T (.tup [kV kv.1,kv.2]),λi H=>H a=_b (.frz o<|.dK kvs)/\kvs.length<=i⟩
theorem lQ{w:_P}{k:Key}(h:(Bm P w).is k u=_g):RelV (kV k) u:=by
 rcases Cd (show M4 k u=_g from h) with⟨i,t,rfl,rfl⟩ | ⟨x,t,rfl,rfl⟩ | ⟨rfl,rfl⟩
 .exact⟨t,U⟩
 .exact⟨t,U⟩
 .exact rfl
theorem eZ:∀{l:_a (Key × V)}{m:_a (Key × _k)},KV l m->∀{j:_c}{p:Key × V},l[j]? = _b p->∃q,m[j]? = _b q/\p.1=q.1/\RelV p.2 q.2:=by
 intro l m h;unfold KV at h
 induction h with
 |nil=>intro j p c;simp at c
 |cons a b d =>
  intro j p c
  cases j with
  |zero =>
   simp at c;subst c;exact⟨_,U,a⟩
  |succ j=>exact d<|by simpa using c
theorem V4{w:_P}{K:_q}{k1:_c}(a d:_d)(o:Þ)(kvs:_a<|Key×V)(ab:a≠d) :
  Turn P w K (.Tuple es k1 pos) (Itd a o kvs) [d] d (λi h=>∃ok ov,IsItemIter h d a i kvs.length (Pz o) ok ov) where
 mem:=by simp
 obj:=λi h st b f=>by
  obtain⟨ok,ov,c⟩:=st;have q:b=d:=by simpa using f
  subst q;exact⟨_,c,λv z=>by
   have z':Ň _=ĩ v:=z
   cases z'⟩
 keep:=λi h h' st k=>by
  obtain⟨ok,ov,c⟩:=st;exact⟨ok,ov,k d (by simp) _ c⟩
 item:=by
  intro X R L B hc i a8 s σ H E I A st C;subst R L B;obtain⟨M,hi⟩:=C;obtain⟨ok,ov,c⟩:=st;have G:CG X.prog X.w H s.heap a<|.frz o<|.dK kvs:=I.hok a _ M
  obtain⟨m,_,_,y,e,ob,j,N,t,O,n,D,F,S⟩:=G;rw[m] at t
  cases t;have g:Pz o=N:=by unfold Pz;rw[n]
  have l:s.heap.DictAt (Bm X.prog X.w) a y<|Pz o:=⟨o,j,m,O,by rw[g];exact n,D,F,S⟩
  have hl:=e.length;obtain⟨⟨k,x⟩,Z⟩:∃p,kvs[i]? = _b p:=⟨kvs[i],by simp[hi]⟩;obtain⟨⟨k',u⟩,hu,ek,ru⟩:∃q,y[i]? = _b q/\k=q.1/\RelV x q.2:=by
   exact eZ e Z
  have J:k=k':=ek;subst J;rw[hl] at c;refine wpAny_pyNext_items_item c l hu λQ Y r n1 n3 n4 n5=>?_;refine⟨_,U,wpAny_letOwnedTupleGo_items (s:={ s with heap:=Y }) n1 λh2 m1 T=>?_⟩;have hT:s.heap.objs.size≠d:=iA<|_B c
  have fr:H s.heap.objs.size=none:=I.hok.fresh<|al _
  have nw:CG X.prog X.w (upd H s.heap.objs.size<|.tup [kV k,x]) h2 s.heap.objs.size (.tup [kV k,x]) :=
   ⟨by show 2<=sizeLine;decide,[Q,u],.cons (lQ r)<|.cons ru .nil,_,T.extBut _ _ hT n3,U,_,U⟩
  refine⟨.ref s.heap.objs.size,_,I.PL (t':=s.toks) (ch:=[d]) A (λb o f q=>?_) (al _) nw,U,⟨_,(k,x),fr,U,Z,U⟩,⟨_,_,by rw[hl];exact m1⟩,λb f=>?_⟩
  .exact T.extBut _ _ (λz=>f<|by simp[z])<|n5 b o (λz=>f<|by simp[z]) q
  .have q:b=d:=by simpa using f
   subst q;rw[Ak (_J hT)];exact (A _ f).1
 done:=by
  intro X R L B hc i a8 s σ H E I A st C;subst R L B;obtain⟨M,hi⟩:=C;obtain⟨ok,ov,c⟩:=st;have G:CG X.prog X.w H s.heap a<|.frz o<|.dK kvs:=I.hok a _ M
  obtain⟨m,_,_,y,e,ob,j,N,t,O,n,D,F,S⟩:=G;rw[m] at t
  cases t;have g:Pz o=N:=by unfold Pz;rw[n]
  have l:s.heap.DictAt (Bm X.prog X.w) a y<|Pz o:=⟨o,j,m,O,by rw[g];exact n,D,F,S⟩
  have hl:=e.length;rw[hl] at c;exact wpAny_pyNext_items_end (I.ok.hd hc) c l (List.getElem?_eq_none<|hl▸hi) λY eb=>⟨U,I.Rv (t':=s.toks) (ch:=[d]) A λb o f q=>eb b o (λz=>f<|by simp[z]) q⟩
 self:=λ_ _ _ _ _ st h=>by
  obtain⟨ok,ov,c⟩:=st;exact W.kcp_self c h
inductive Xn(R:It->Hp->Prop)(x:V)(H1:Hp):Prop
|mk(a o kvs:_)(_:x=.ref a)(_:H1 a=_b (.frz o (.dK kvs)))(_:R (Itd a o kvs) H1)
abbrev uO(td:TE):TI:=λσ H R=>td σ H λx H1=>Xn R x H1
theorem Zv{k1:_c}{M A:ī}{o:Expr}{w:TE}(N:PE X o w)
  (f:attributeBase o "items" X.env (eval o X.env)=eval o X.env:=by rfl)(T:(i5.endLine == A.line)=true:=by rfl):PI X (.Tuple es k1 M) (.Call (.Attribute o "items" i5) [] [] A)<|uO w:=by
 intro F s σ H R I h;refine wa f T<|CN (N F s σ H _ I h) λv c J=>?_
 obtain⟨x,B,r,O,a,g,kvs,C,u,q⟩:=J;subst C
 cases O;obtain⟨t,W,D⟩:=WF r<|.inl ⟨kvs,.inr ⟨g,u⟩⟩;refine⟨"dict","dict.items",iL,PySem.F.slot_dict_items,PySem.F.type_dict_items,t,W,Β U<|PySem.evalArgs_none ?_⟩;have S:CG X.prog X.w B c.heap a<|.frz g<|.dK kvs:=r.hok a _ u
 obtain⟨l,_,_,m,n,Y,k,L,y,P,z,K,Q,V⟩:=S;rw[l] at y
 cases y;have j:Pz g=L:=by unfold Pz;rw[z]
 have i:c.heap.DictAt (Bm X.prog X.w) a m<|Pz g:=⟨g,k,l,P,by rw[j];exact z,K,Q,V⟩
 have hl:=n.length;refine Č PySem.F.slot_dict_items t PySem.F.entry_dict_items (PySem.F.args_dict_items_1 _) (meets_dict_items (Bm X.prog X.w) a D) ⟨⟨m,i.dictOf⟩,?_⟩;have E:a<c.heap.objs.size:=_B l;refine wpAny_pyIter_items (v:=c.heap.objs.size) (d:=a) (kvs:=m) (ep:=Pz g) ⟨_,_A _ U,U,U⟩ (i.push _) ?_;have p:=r.kept (h':=c.heap.push { cls:=.type "dict_items",data:=.fields #[.ref a] }) (t':=c.toks) λb o e=>_f _ e;refine⟨_,[_],_,_,B,U,p.kept (t':=c.toks) λb o e=>_f _ e,V4 a _ g kvs ?_,⟨_,_,by rw[hl];exact _A _ U⟩,λb G=>?_,q⟩
 .rw[ε];exact db<|gI E
 .have e:b=(c.heap.push { cls:=.type "dict_items",data:=.fields #[.ref a] }).objs.size:=by simpa using G
  subst e;exact p.P0 (al _)<|p.hok.fresh<|al _
section
variable{Q:VK}
theorem WQ{K:_q}{o:Þ}(p:Key×V->_O)(f:Key×V->V)(t:H1 a=_b (.frz o<|.dK kvs))(C:kvs.length<sizeLine)
  (x:∀kv∈kvs,∀H,Aj H1 H->∀R:_O->Hp->Prop,(∀H',Aj H H'->R (p kv) H')->tt (_b (kV kv.1)::_b kv.2::σ) H R)
  (A:∀kv∈kvs,p kv=_g->∀H,Aj H1 H->∀R:VK,(∀H',Aj H H'->R (f kv) H')->te (_b (kV kv.1)::_b kv.2::σ) H R)
  (y:∀D H,H1 D=_o->Aj H1 H->H D=_b (.lst<|(kvs.filter p).map f)->Q (.ref D) H):Im (Itd a o kvs) σ H1 Q (Tr K 2<|GX (Df 0)<|GX (Df 1) Tf) tt te:=by
 intro D r;have w:Aj H1<|upd H1 D<|.lst []:=λb o e=>by rw[Ak (Ag e r)];exact e
 refine⟨λi m q H=>m=kvs.length - i/\i<=kvs.length/\q=(((kvs.take i).filter p).map f)/\H D=_b (.lst q)/\Aj H1 H,⟨kvs.length,by simp,Ζ _,by simp,Ah,w⟩,?_⟩;rintro i m q H ⟨rfl,L,rfl,n,c⟩;by_cases d:i<kvs.length
 .refine .inr ⟨⟨c _ _ t,d⟩,λv I B E G=>?_⟩;obtain⟨T,kv,z,rfl,s,rfl⟩:=B;have h:=ai s;have g:Aj H<|upd H T<|.tup [kV kv.1,kv.2]:=λb o e=>by rw[Ak (Ag e z)];exact e
  have k:(((kvs.take i).filter p).map f).length<sizeLine:=by
   rw[ah];refine cc (cr _ _)<|cc ?_ C
   rw[cm];lia
  refine⟨[kV kv.1,kv.2],oP Ah,U,U,⟨_,_,U⟩,?_⟩;refine x kv h _ (c.trans g) _ λF l=>?_;by_cases j:p kv=_g
  .rw[_n j];refine A kv h j _ (c.trans<|g.trans l) _ λJ u=>?_;refine⟨u _ _<|l _ _<|g _ _ n,k,kvs.length - (i+1),by lia,U,d,?_,Ah,λb o e=>?_⟩
   .rw[Ο p kvs i kv s,_n j,ba];rfl
   .rw[Ak (Ag e r)];exact u _ _<|l _ _<|g _ _<|c _ _ e
  .rw[_l j];refine⟨kvs.length - (i+1),by lia,U,d,?_,l _ _<|g _ _ n,c.trans<|g.trans l⟩;rw[Ο p kvs i kv s,_l j,cy]
 .have e:i=kvs.length:=Fr L (me d)
  subst e;rw[eP] at n;exact .inl ⟨⟨c _ _ t,al _⟩,y D H r c n⟩
end
theorem Inv.thaw{o:Þ}{u:HO}(I:Inv X a8 σ H s)(e:H a=_b (.frz o u))(nb:∀o' u',X.H₀ a≠_b (.frz o' u')):Inv X a8 σ (upd H a u) s:=by
 have r:CG X.prog X.w H s.heap a<|.frz o u:=I.hok a _ e
 obtain⟨y,k⟩:=id r;have up1:∀b x,H b=_b (.own x)->upd H a u b=_b (.own x):=λb x q=>by
  rw[Ak λz=>by rw[z,e] at q;cases q];exact q
 have d:∀b f,H b=_b (.tup f)->upd H a u b=_b (.tup f):=λb x q=>by
  rw[Ak λz=>by rw[z,e] at q;cases q];exact q
 have g:∀b,H b=_o->upd H a u b=none:=λb n=>by rw[Ak λz=>by rw[z,e] at n;cases n];exact n
 refine⟨I.ok,I.os,I.bare,⟨I.base.keep,I.base.slot,λb o q n t=>g b<|I.base.free b o q n t,I.base.there,λb f q=>d b f<|I.base.tups b f q,λb o' u' q=>?_,λb l q=>?_⟩,I.loc,I.cell,g _ I.free,λx c q=>g _<|I.freeC x c q,λp w=>?_,λb u' q=>?_,I.len⟩
 .have:=I.base.frzs b o' u' q;rw[Ak λz=>nb o' u'<|by rw[<-z];exact q];exact this
 .obtain⟨more,h⟩:=I.base.tbls b l q;exact⟨more,by rw[Ak λz=>by rw[z,e] at h;cases h];exact h⟩
 .obtain⟨v,j,m⟩:=I.pin p w;exact⟨v,g _ j,m⟩
 .by_cases i:b=a
  .subst i;rw[Ah] at q
   cases q;exact k.stay (λ_ _ _ q=>q) (λc q=>up1 c _ q) d
  .rw[Ak i] at q;exact (I.hok b u' q).stay (λ_ _ _ q=>q) (λc q=>up1 c _ q) d
theorem Inv.xT(I:Inv X a8 σ H s)(e:H a=_b (.dK kvs)):∀o' u',X.H₀ a≠_b (.frz o' u'):=λo' u' q=>by
 have:=I.base.frzs a o' u' q;rw[e] at this
 cases this
inductive b_(t:TE)(σ:St)(H:Hp)(Q:VK):Prop
|mk(a kvs:_)(_:H a=_b (.dK kvs))(_:∀o,t σ (upd H a (.frz o (.dK kvs))) λv H'=>H' a=_b (.frz o<|.dK kvs)/\Q v (upd H' a<|.dK kvs))
theorem Uj{e:Expr}{t:TE}(h:PE X e t):PE X e<|b_ t:=by
 intro c s σ H Q I q;obtain⟨a,i,b,q⟩:=q;have nb:=I.xT b;obtain⟨o,J⟩:=I.freeze b;refine CN (h c s σ _ _ J<|q o) λv k d=>?_;obtain⟨x,l,j,r,f,g⟩:=d;exact⟨x,_,j.thaw f nb,r,g⟩
end L2
namespace Og
open PySem L2
structure F_(kvs:_a<|Key×V)(c:_c->_c):Prop where
 e:∀kv∈kvs,∃k:_c,kv=(Key.inl (k:_j),V.int ((c k:_c):_j))/\k<1200
 v:∀k:_c,CW kvs (Key.inl (k:_j))=_b (.int ((c k:_c):_j)) \/ (CW kvs (Key.inl (k:_j))=_o/\c k=0)
theorem F_.nil:F_ [] λ_=>0:=⟨(λ_ h=>nomatch h),λk=>.inr ⟨U,U⟩⟩
theorem F_.getD{c:_c->_c}(h:F_ kvs c)(k:_c):(CW kvs<|Key.inl (k:_j)).getD (.int 0)=.int ((c k:_c):_j):=by
 rcases h.v k with e | ⟨e,z⟩
 .rw[e];rfl
 .rw[e,z];rfl
theorem Z0{k:Key}{v:V}{b:Key×V}(h:b∈putK kvs k v):b=(k,v) \/ (b∈kvs/\b.1≠k):=by
 unfold putK at h;split at h
 .obtain⟨p,d,e⟩:=ay.mp h;by_cases a:p.1=k
  .rw[_n a] at e;first | exact .inl e.symm | (left;rw[<-e,a])
  .rw[_l a] at e;exact .inr ⟨e ▸ d,e ▸ a⟩
 .rename_i c;rcases aT.mp h with z | z
  .refine .inr ⟨z,λa=>c ?_⟩;exact fq.mpr ⟨b,z,_i a⟩
  .exact .inl<|av.mp z
theorem Ut{k:Key}{v:V}:(putK kvs k v).length<=kvs.length+1:=by
 unfold putK;split
 .rw[ah];exact zor _ _
 .rw[am];exact al _
abbrev setC(c:_c->_c)(k n:_c):_c->Nat:=λj=>if j=k then n else c j
theorem F_.put{c:_c->_c}{k:_c}(h:F_ kvs c)(g:k<1200):F_ (putK kvs (Key.inl (k:_j))<|.int ((n:_c):_j))<|setC c k n:=by
 refine⟨λb e=>?_,λj=>?_⟩
 .rcases Z0 e with rfl | ⟨d,f⟩
  .exact⟨k,by rw[show setC c k n k=n from _n U],g⟩
  .obtain⟨j,rfl,a⟩:=h.e b d;refine⟨j,?_,a⟩;rw[show setC c k n j=c j from _l λz=>f<|by rw[z]]
 .rw[Ht];by_cases a:j=k
  .subst a;rw[_n U,show setC c j n j=n from _n U];exact .inl U
  .rw[_l (λz=>a (by have:=Key.inl.inj z;lia)),show setC c k n j=c j from _l a];exact h.v j
def El(kvs:_a<|Key×V):_a Nat:=(kvs.filter λkv=>match kv.2 with | .int n=>decide (0<n) | _=>_p).map λkv=>match kv.1 with | .inl i=>i.toNat | _=>0
theorem F_.mem{c:_c->_c}(h:F_ kvs c)(k:_c):k∈El kvs ↔ 0<c k:=by
 unfold El;rw[ay];constructor
 .rintro⟨a,g,e⟩;obtain⟨f,i⟩:=be.mp g;obtain⟨j,rfl,_⟩:=h.e a f;have m:decide (0<((c j:_c):_j))=true:=i;have:0<((c j:_c):_j):=_s m;have b:(j:_j).toNat=k:=e;rw[bp] at b;subst b;lia
 .intro q;rcases h.v k with e | ⟨_,z⟩
  .unfold CW at e;obtain⟨a,d,o⟩:=aI.mp e;have l:=List.mem_of_find?_eq_some d;have n:a.1=Key.inl (k:_j):=_s<|List.find?_some (p:=λa:Key×V=>decide (a.1=Key.inl (k:_j))) d
   refine⟨a,be.mpr ⟨l,?_⟩,?_⟩
   .rw[o];exact _i<|BT.mpr q
   .rw[n];exact bp k
  .lia
theorem F_.bound{c:_c->_c}(h:F_ kvs c):∀k∈El kvs,k<1200:=λk f=>by
 obtain⟨a,d,e⟩:=ay.mp f;obtain⟨j,rfl,g⟩:=h.e a (be.mp d).1;have b:(j:_j).toNat=k:=e;rw[bp] at b;exact b▸g
theorem Ym(kvs:_a<|Key×V):(El kvs).length<=kvs.length:=by
 unfold El;rw[ah];exact cr _ _
structure Zc(C Cy Cp:_d)(Ho H:Hp)(z x y hd:_d)(us:_a V)(bs:_a<|_m×_c)(rk:_a<|_m×_c×_j)(ks:_a R)(ls:_a<|_a Ln)(sts:_a _c)(dr sh:_c)(sd:_d)(kvs:_a<|Key×V)(c:_c->_c):Prop where
 con:sJ C Cy Ho H y x us bs rk ks ls sts dr sh sd
 U9:La Cp H z x y hd
 n:Ho hd=_o
 d:H hd=_b (.dK kvs)
 h:F_ kvs c
section
variable{hd:_d}{bs:_a (_m×_c)}{rk:_a (_m×_c×_j)}{i6:_a (Key×V)}{c c':_c->_c}
theorem Zc.mono(s:Aj H H')(p:Zc C Cy Cp Ho H z x y hd us bs rk ks ls sts dr sh sd kvs c):Zc C Cy Cp Ho H' z x y hd us bs rk ks ls sts dr sh sd kvs c :=
 ⟨⟨p.con.o,p.con.s.trans s,p.con.n,p.con.c.mono s⟩,p.U9.mono s,p.n,s _ _ p.d,p.h⟩
theorem Zc.put(p:Zc C Cy Cp Ho H z x y hd us bs rk ks ls sts dr sh sd kvs c)(h:F_ i6 c'):Zc C Cy Cp Ho (upd H hd<|.dK i6) z x y hd us bs rk ks ls sts dr sh sd i6 c':=by
 obtain⟨f,fs,a,k⟩:=p.con.c.ex;obtain⟨m,i,d,g⟩:=p.U9.ex;have j:y≠hd:=λe=>by rw[e,p.d] at a;cases a
 have l:z≠hd:=λe=>by rw[e,p.d] at d;cases d
 exact⟨⟨p.con.o,λb o e=>by rw[Ak (Ag e p.n)];exact p.con.s b o e,p.con.n,f,fs,by rw[Ak j];exact a,k⟩,⟨m,i,by rw[Ak l];exact d,g⟩,p.n,Ah,h⟩
end
end Og
namespace Sm
open PySem PyProof.Rows
noncomputable def Jj:_O->_I->_E _I->_c->_c->_c->yY _V ũ (_r _c):=sortPriv% PySem.Builtin.gallop
def Ls:_E _I->_E _I->yY _V ũ (_E _I):=sortPriv% PySem.Builtin.mergeLo
def Ko:_E _I->_E _I->yY _V ũ (_E _I):=sortPriv% PySem.Builtin.mergeHi
def lu:_c->yY _V ũ Unit:=sortPriv% PySem.Builtin.setMinGallop
theorem Jk:(sortPriv% PySem.Builtin.elem)=elem':=rfl
theorem Q6:(sortPriv% PySem.Builtin.lt)=lt':=rfl
theorem JV:(sortPriv% PySem.Builtin.gallop)=Jj:=rfl
theorem QJ:(sortPriv% PySem.Builtin.setMinGallop)=lu:=rfl
theorem RW:(sortPriv% PySem.Builtin.mergeLo)=Ls:=rfl
theorem Ru:(sortPriv% PySem.Builtin.mergeHi)=Ko:=rfl
local macro_rules | `(tactic| delta gallopOpen)=>`(tactic| delta $(Lean.mkCIdent (Lean.mkPrivateNameCore `PySem.Builtin.List.W1All `PySem.Builtin.gallop)))
theorem two1(c:Prop)[š c]{α:Type}{R:α->Prop}{G:Prop}(b:c->(∀x,R x)->G)(d:¬ c->(∀x,R x)->G)(h:∀x,R x):G:=if a:c then b a h else d a h
theorem two2(c:Prop)[š c]{α β:Type}{R:α->β->Prop}{G:Prop}(b:c->(∀x y,R x y)->G)(d:¬ c->(∀x y,R x y)->G)(h:∀x y,R x y):G:=if a:c then b a h else d a h
section
variable{w:_P}
def Ms(prog:Γ)(w:_P)(A:ì)(E:vSP)(s:_C)(S:_I->Prop)(L:_I->_I->_O)(κ:É):Prop :=
 ∀(x y:_I)(st:_V)(Q:_r _O->_V->Prop),S x->S y->kindOf st=κ->Q (_b<|L x y) st->wpS (_D prog w) A E s (lt' x y) Q st
theorem Kf{S:_I->Prop}{L:_I->_I->_O}{κ:É}{left:_O}{l:_I}{arr:_E _I}{m a:_c}{st:_V}{Q:_r _c->_V->Prop}{b:_c->_O}
  (V:Ms prog w A E s S L κ)(Y:kindOf st=κ)(Z:a<n)(hsz:m+n<=arr.size)(W:∀(i:_c) x,arr[i]? = _b x->S x)(C:S l)
  (hb:∀i x,i<n->arr[m+i]? = _b x->(if left then L x l else !L l x)=b i)(mono:∀i j,i<=j->j<n->b j=_g->b i=_g)
  (h:∀k,k<=n->(∀i,i<k->b i=_g)->(∀i,k<=i->i<n->b i=_p)->Q (_b k) st):wpS (_D prog w) A E s (Jj left l arr m n a) Q st:=by
 delta Jj;delta gallopOpen;dsimp only[Jk,Q6];have z:∀i,i<n->∀Q:_r _O->_V->Prop,Q (_b<|b i) st->wpS (_D prog w) A E s (do
   let x <-elem' arr (m+i)
   if left then lt' x l else return (<-lt' l x).map (!·)) Q st:=by
  intro i f Q q;obtain⟨x,P⟩:∃x,arr[m+i]? = _b x:=⟨_,_y<|by lia⟩;rw[Ê,P];refine _w<|_u ?_
  have e:=hb i x f P
  cases left with
  |true =>
   rw[_n U] at e |-;exact V x l st Q (W _ _ P) C Y<|by rw[e];exact q
  |false =>
   rw[_l eI] at e |-;exact _w<|V l x st _ C (W _ _ P) Y<|_u<|by show Q (_b<|!L l x) st;rw[e];exact q
 refine _w<|z a Z _ ?_
 dsimp only;have R:∀i j,i<=j->j<n->b i=_p->b j=false:=λi j T O X=>by
  cases hbj:b j with
  |false=>rfl
  |true=>rw[mono i j T O hbj] at X;cases X
 apply two2<|b a=_g
 .intro H rest;rw[_n H];refine _w (Υ (η (I:=λi c t=>st=t/\∃d o,c=(_o,d,o)/\d<o/\a+d<n/\b (a+d)=_g/\i<o)
   (Q:=λc t=>st=t/\∃d o,c=(_o,d,o)/\d<o/\a+d<n/\b (a+d)=_g/\(n - a<=o \/ b (a+o)=_p)) ?st1 ?en1 ⟨U,0,1,U,(by decide),Z,H,(by decide)⟩) ?po1)
  case en1 =>
   rintro c t ⟨rfl,d,o,rfl,v,u,r,p⟩;exact⟨U,d,o,U,v,u,r,.inl<|by lia⟩
  case st1 =>
   rintro i c t _ f ⟨rfl,d,o,rfl,v,u,r,p⟩;dsimp only;by_cases g:o ≥ n - a
   .rw[_n g];exact _u ⟨U,d,o,U,v,u,r,.inl g⟩
   .rw[_l g];refine _w<|z (a+o) (by lia) _ ?_
    cases hbo:b (a+o) with
    |true=>exact _u ⟨U,o,2 * o+1,U,by lia,by lia,hbo,by lia⟩
    |false=>exact _u ⟨U,d,o,U,v,u,r,.inr hbo⟩
  case po1 =>
   rintro c t ⟨rfl,d,o,rfl,v,u,r,p⟩;dsimp only;have B:a+d+1<=a+min o (n - a):=by lia
   have F:a+min o (n - a)<=n:=by lia
   have D:∀i,i<a+d+1->b i=true:=λi f=>mono i (a+d) (KE f) u r;have G:∀i,a+min o (n - a)<=i->i<n->b i=false:=λi f y=>by
    rcases p with p | p
    .lia
    .by_cases ho:o<=n - a
     .exact R (a+o) i (by lia) y p
     .lia
   generalize a+d+1=lo at B D |-;generalize a+min o (n - a)=f at B F G |-;revert B F D G;exact rest lo f
 .intro H rest;rw[_l H];rw[ft] at H;refine _w (Υ (η (I:=λi c t=>st=t/\∃d o,c=(_o,d,o)/\d<o/\d<=a/\b (a - d)=_p/\i<o)
   (Q:=λc t=>st=t/\∃d o,c=(_o,d,o)/\d<o/\d<=a/\b (a - d)=_p/\(a+1<=o \/ b (a - o)=_g)) ?st1 ?en1 ⟨U,0,1,U,(by decide),LE _ _,H,(by decide)⟩) ?po1)
  case en1 =>
   rintro c t ⟨rfl,d,o,rfl,v,u,r,p⟩;exact⟨U,d,o,U,v,u,r,.inl<|by lia⟩
  case st1 =>
   rintro i c t _ f ⟨rfl,d,o,rfl,v,u,r,p⟩;dsimp only;by_cases g:o ≥ a+1
   .rw[_n g];exact _u ⟨U,d,o,U,v,u,r,.inl g⟩
   .rw[_l g];refine _w<|z (a - o) (by lia) _ ?_
    cases hbo:b (a - o) with
    |true=>exact _u ⟨U,d,o,U,v,u,r,.inr hbo⟩
    |false=>exact _u ⟨U,o,2 * o+1,U,by lia,KE (Nat.lt_of_not_le g),hbo,by lia⟩
  case po1 =>
   rintro c t ⟨rfl,d,o,rfl,v,u,r,p⟩;dsimp only;have B:a+1 - min o (a+1)<=a - d:=by lia
   have F:a - d<=n:=by lia
   have D:∀i,i<a+1 - min o (a+1)->b i=true:=λi f=>by
    rcases p with p | p
    .lia
    .by_cases ho:o<=a
     .exact mono i (a - o) (by lia) (by lia) p
     .lia
   have G:∀i,a - d<=i->i<n->b i=false:=λi f y=>R (a - d) i f y r;generalize a+1 - min o (a+1)=lo at B D |-;generalize a - d=f at B F G |-;exact rest lo f D B F G
 intro lo f D B F G;refine _w (Υ (η (I:=λi c M=>st=M/\∃lo f,c=(_o,lo,f)/\lo<=f/\f<=n/\f - lo+i<=n/\(∀i,i<lo->b i=_g)/\∀i,f<=i->i<n->b i=_p)
  (Q:=λc M=>st=M/\∃k,c=(_o,k,k)/\k<=n/\(∀i,i<k->b i=_g)/\∀i,k<=i->i<n->b i=_p) ?st2 ?en2 ⟨U,lo,f,U,B,F,by lia,D,G⟩) ?po2)
 case en2 =>
  rintro c M ⟨rfl,lo,f,rfl,g1,K,g3,J,N⟩;obtain rfl:lo=f:=by lia
  exact⟨U,lo,U,K,J,N⟩
 case st2 =>
  rintro i c M _ y ⟨rfl,lo,f,rfl,g1,K,g3,J,N⟩;dsimp only;by_cases g:lo ≥ f
  .rw[_n g];obtain rfl:lo=f:=by lia
   exact _u ⟨U,lo,U,K,J,N⟩
  .rw[_l g];refine _w<|z (lo+(f - lo) / 2) (by lia) _ ?_
   cases hbo:b (lo+(f - lo) / 2) with
   |true=>exact _u ⟨U,lo+(f - lo) / 2+1,f,U,by lia,K,by lia,λj O=>mono j _ (by lia) (by lia) hbo,N⟩
   |false=>exact _u ⟨U,lo,lo+(f - lo) / 2,U,by lia,by lia,by lia,J,λj O TW=>R _ j O TW hbo⟩
 case po2 =>
  rintro c M ⟨rfl,k,rfl,K,J,N⟩;exact _u<|h k K J N
end
section
variable{α:Type}{L:α->α->_O}{A B:_a α}
structure ZJ(L:α->α->_O):Prop where
 asym:∀x y,L x y=_g->L y x=_p
 co:∀x y z,L x z=_g->L x y=_g \/ L y z=_g
def Cw(L:α->α->_O)(l:_a α):Prop:=l.Pairwise λx y=>L y x=_p
structure Jm(L:α->α->_O)(A B out:_a α)(ia ib:_c):Prop where
 la:ia<=A.length
 lb:ib<=B.length
 pm:out.Perm<|A.take ia++B.take ib
 rs:Cw L out
 lo:∀x∈out,∀y,y∈A.drop ia \/ y∈B.drop ib->L y x=_p
def Good(L:α->α->_O)(A B r:_a α):Prop:=r.Perm (A++B)/\Cw L r
theorem Cw.snoc{l:_a α}{x:α}(h:Cw L l)(d:∀y∈l,L x y=_p):Cw L (l++[x]) :=
 mn.mpr ⟨h,List.pairwise_singleton ..,λa e b c=>by rw[av] at c;rw[c];exact d a e⟩
theorem Fo{l:_a α}{x:α}(h:l[i]? = _b x):l.drop i=x::l.drop (i+1):=by
 obtain⟨a,e⟩:=ag.mp h;rw[ii a,e]
theorem gh{l:_a α}{x:α}(h:l[i]? = _b x):l.take (i+1)=l.take i++[x]:=by
 obtain⟨a,e⟩:=ag.mp h;rw[ľ a,e]
theorem Cw.tail{l:_a α}{x y:α}(hl:Cw L l)(h:l[i]? = _b x)(b:y∈l.drop (i+1)):L y x=false:=by
 have a:Cw L<|l.drop i:=hl.sublist<|ip ..
 rw[Fo h] at a;exact (oe.mp a).1 y b
theorem Jm.Ww{out:_a α}{ib:_c}{x:α}(J:Jm L A B out ia ib)(d:Cw L A)(c:A[ia]? = _b x)(hl:∀y∈B.drop ib,L y x=_p):Jm L A B (out++[x]) (ia+1) ib:=by
 have e:=(ag.mp c).1;refine⟨e,J.lb,?_,J.rs.snoc λy a=>J.lo y a x<|.inl<|by rw[Fo c];exact br ..,λz b y a=>?_⟩
 .rw[gh c,dt];exact (J.pm.append_right [x]).trans (by
   rw[dt];exact Ř _ jI)
 .rcases aT.mp b with b | b
  .exact J.lo z b y<|a.imp (λh=>by rw[Fo c];exact bg _ h) id
  .rw[av] at b;subst b;rcases a with a | a
   .exact d.tail c a
   .exact hl y a
theorem Jm.symm{out:_a α}{ib:_c}(J:Jm L A B out ia ib):Jm L B A out ib ia:=⟨J.lb,J.la,J.pm.trans jI,J.rs,λx b y a=>J.lo x b y a.symm⟩
theorem Jm.Xo{out:_a α}{ib:_c}{x:α}(J:Jm L A B out ia ib)(b:Cw L B)(a:B[ib]? = _b x)(hl:∀y∈A.drop ia,L y x=_p):Jm L A B (out++[x]) ia<|ib+1:=(J.symm.Ww b a hl).symm
theorem Jm.gY{out:_a α}{ib:_c}(b:Cw L A):∀(k ia:_c)(out:_a α),Jm L A B out ia ib->ia+k<=A.length->(∀i x,ia<=i->i<ia+k->A[i]? = _b x->∀y∈B.drop ib,L y x=_p)->Jm L A B (out++(A.drop ia).take k) (ia+k) ib
 |0,ia,out,J,_,_=>by rw[List.take_zero,cy];exact J
 |k+1,ia,out,J,f,hl=>by
  have a:A[ia]? = _b A[ia]:=af<|by lia
  have c:=J.Ww b a<|hl ia _ (al _) (cc (zor _ _) (gx _)) a
  have:=Jm.gY (out:=out) b k (ia+1) _ c (by lia) λi x d e=>hl i x (LT d)<|wT e (zab _ _ _)
  rw[Fo a,ve,show out++A[ia]::(A.drop<|ia+1).take k=(out++[A[ia]])++(A.drop<|ia+1).take k by simp,show ia+(k+1)=ia+1+k from Nat.eq_of_le_of_lt_succ (Ĝ (zab _ _ _)) (zag (gx _) _)];exact this
theorem Jm.xU{out:_a α}(b:Cw L B)(k ib:_c)(out:_a α)(J:Jm L A B out ia ib)(a:ib+k<=B.length)(hl:∀i x,ib<=i->i<ib+k->B[i]? = _b x->∀y∈A.drop ia,L y x=_p):Jm L A B (out++(B.drop ib).take k) ia<|ib+k:=(Jm.gY (out:=out) b k ib out J.symm a hl).symm
theorem Jm.fin'{out:_a α}{ib:_c}(J:Jm L A B out ia ib)(h:Cw L<|A.drop ia++B.drop ib):Good L A B<|out++A.drop ia++B.drop ib:=by
 rw[dt];refine⟨(J.pm.append_right _).trans ?_,mn.mpr ⟨J.rs,h,λx b y a=>J.lo x b y<|aT.mp a⟩⟩;have e:A++B=(A.take ia++A.drop ia)++(B.take ib++B.drop ib):=by rw[eW,eW]
 rw[e,dt,dt];refine Ř _ ?_;rw[<-dt,<-dt];exact SE _ jI
theorem Jm.fin{out:_a α}{ib:_c}(J:Jm L A B out ia ib)(a:Cw L A)(b:Cw L B)(h:ia=A.length \/ ib=B.length):Good L A B<|out++A.drop ia++B.drop ib:=J.fin' (by
 rcases h with h | h
 .rw[h,oy,ŋ];exact b.sublist (ip ..)
 .rw[h,oy,cy];exact a.sublist<|ip ..)
theorem Jm.oK{out:_a α}{ib:_c}{x:α}(J:Jm L A B out ia ib)(c:Cw L B)(hi:ia+1=A.length)(b:A[ia]? = _b x)(hl:∀y∈B,L x y=_p):Good L A B<|out++B.drop ib++A.drop ia:=by
 have g:=J.symm.fin' (by
  rw[Fo b,hi,oy];exact Cw.snoc (c.sublist<|ip ..) λy a=>hl y<|mw a)
 exact⟨g.1.trans jI,g.2⟩
end
section
variable{α:Type}{L:α->α->_O}{A B:_a α}
theorem ZJ.i_(c:ZJ L)(e:Cw L A){x z:α}(d:A[ia]? = _b x)(h:L z x=_g):∀y∈A.drop ia,L y z=false:=λy b=>by
 rw[Fo d] at b;rcases ce.mp b with rfl | b
 .exact c.asym _ _ h
 .rcases c.co z y x h with a | a
  .exact c.asym _ _ a
  .rw[e.tail d b] at a;cases a
theorem ZJ.jJ(d:ZJ L)(f:Cw L B){ib:_c}{x z:α}(c:B[ib]? = _b z)(h:L z x=_p):∀y∈B.drop ib,L y x=false:=λy b=>by
 rw[Fo c] at b;rcases ce.mp b with rfl | b
 .exact h
 .cases e:L y x with
  |false=>rfl
  |true =>
   rcases d.co y z x e with a | a
   .rw[f.tail c b] at a;cases a
   .rw[h] at a;cases a
theorem Cw.at{l:_a α}(hl:Cw L l){x y:α}(c:i<j)(b:l[i]? = _b x)(a:l[j]? = _b y):L y x=false:=by
 refine hl.tail b ?_;refine ai (i:=j - (i+1)) ?_;rw[List.getElem?_drop,show i+1+(j - (i+1))=j by lia];exact a
end
theorem Nj{a:_E _I}:(a.extract i a.size).toList=a.toList.drop i:=by
 rw[û,kq,fE<|by rw[iS,_G];exact al _]
theorem YB{a:_E _I}{k:_c}:(a.extract i<|i+k).toList=(a.toList.drop i).take k:=by
 rw[û,List.extract_eq_take_drop,show i+k - i=k by lia]
noncomputable abbrev Ib(st:_V)(g:_c):SortSt:=SortSt.mk' (kindOf st) (arrOf st) (pendingOf st) g<|failedOf st
theorem Hh(g:_c):lu g=modify (λst=>Ib st g):=rfl
section
variable{w:_P}{S:_I->Prop}{L:_I->_I->_O}{κ:É}{key:_I}{arr:_E _I}{base i4:_c}{st:_V}{Q:_r _c->_V->Prop}
theorem XC{left:_O}(t:ZJ L)(y:Ms prog w A E s S L κ)(H:kindOf st=κ)(B:i4<n)(hsz:base+n<=arr.size)(G:∀(i:_c) x,arr[i]? = _b x->S x)(d:S key)(r:Cw L arr.toList)
  (h:∀k,k<=n->(∀i x,base<=i->i<base+k->arr[i]? = _b x->(if left then L x key else !L key x)=_g)->(∀i x,base+k<=i->i<base+n->arr[i]? = _b x->(if left then L x key else !L key x)=_p)->Q (_b k) st):wpS (_D prog w) A E s (Jj left key arr base n i4) Q st:=by
 refine Kf (b:=λi=>match arr[base+i]? with | some x=>(if left then L x key else !L key x) | none=>_p) y H B hsz G d (λi x _ f=>by rw[f]) (λi j D I c=>?_) λk o u F=>h k o (λi x a b f=>?_) λi x a b f=>?_
 .obtain⟨g,p⟩:∃x,arr[base+i]? = _b x:=⟨_,_y<|by lia⟩;obtain⟨m,l⟩:∃x,arr[base+j]? = _b x:=⟨_,_y<|by lia⟩;rw[l] at c;rw[p];rcases nX i j with v | C
  .have q:=r.at (show base+i<base+j by lia) (by rw[_x];exact p)<|by rw[_x];exact l
   cases left with
   |true=>exact (t.co m g key c).resolve_left<|by rw[q];exact eI
   |false =>
    cases e:L key g with
    |false=>show (!L key g)=_g;rw[e];rfl
    |true =>
     have c:(!L key m)=true:=c;rcases t.co key m g e with z | z
     .rw[z] at c;cases c
     .rw[q] at z;cases z
  .obtain rfl:i=j:=by lia
   rw[p] at l
   cases l;exact c
 .have:=u (i - base)<|by lia
  rw[show base+(i - base)=i by lia,f] at this;exact this
 .have:=F (i - base) (by lia)<|by lia
  rw[show base+(i - base)=i by lia,f] at this;exact this
theorem AAG(j:ZJ L)(f:Ms prog w A E s S L κ)(p:kindOf st=κ)(g:i4<n)(hsz:base+n<=arr.size)(o:∀(i:_c) x,arr[i]? = _b x->S x)(c:S key)(r:Cw L arr.toList)
  (h:∀k,k<=n->(∀i x,base<=i->i<base+k->arr[i]? = _b x->L key x=_p)->(∀i x,base+k<=i->i<base+n->arr[i]? = _b x->L key x=_g)->Q (_b k) st):wpS (_D prog w) A E s (Jj _p key arr base n i4) Q st :=
 XC j f p g hsz o c r λk e l m=>h k e (λi x a b d=>by simpa using l i x a b d) λi x a b d=>by simpa using m i x a b d
theorem wL(d:ZJ L)(b:Ms prog w A E s S L κ)(f:kindOf st=κ)(c:i4<n)(hsz:base+n<=arr.size)(e:∀(i:_c) x,arr[i]? = _b x->S x)(a:S key)(r:Cw L arr.toList)
  (h:∀k,k<=n->(∀i x,base<=i->i<base+k->arr[i]? = _b x->L x key=_g)->(∀i x,base+k<=i->i<base+n->arr[i]? = _b x->L x key=_p)->Q (_b k) st):wpS (_D prog w) A E s (Jj _g key arr base n i4) Q st:=XC d b f c hsz e a r h
end
end Sm
section PartSortM2
set_option maxHeartbeats 800000
namespace Sm
open PySem PyProof.Rows
local macro_rules | `(tactic| delta mergeLoOpen)=>`(tactic| delta $(Lean.mkCIdent (Lean.mkPrivateNameCore `PySem.Builtin.List.W1All `PySem.Builtin.mergeLo)))
section
variable{w:_P}
inductive Gq{X:Type}(st:_V)(L:_I->_I->_O)(a b:_E _I)(K:_r (_E _I)×X->_V->Prop):_r (_E _I)×X->_V->Prop
 | go{c:_}{s:_}(h:K c s):Gq st L a b K c s
 | st{g:_}{r:_}{x:_}(h:Good L a.toList b.toList r.toList):Gq st L a b K (_b r,x) (Ib st g)
inductive Lw{T:Type}(st:_V)(L:_I->_I->_O)(a b:_E _I)(n:_c):_r (_E _I)×_E _I×_c×_c×T->_V->Prop
 | mk{g:_}{out:_}{i:_}{j:_}{r:_}(h:Jm L a.toList b.toList out.toList i j)(h1:i+1<a.size)(h2:j<b.size)(h3:n<=i+j):Lw st L a b n (_o,out,i,j,r) (Ib st g)
theorem Uu{S:_I->Prop}{L:_I->_I->_O}{κ:É}{a b:_E _I}{st:_V}{Q:_E _I->_V->Prop}
  (hw:ZJ L)(hL:Ms prog w A E s S L κ)(hk:kindOf st=κ)(ha:1<=a.size)(hb:1<=b.size)(NM:∀x∈a.toList,S x)(MW:∀x∈b.toList,S x)(rA:Cw L a.toList)(P:Cw L b.toList)
  (h0:∀x∈a.toList,∀y,b[0]? = _b y->L x y=_p)(h9:∀x,a[a.size - 1]? = _b x->∀y∈b.toList,L x y=_p)
  (h:∀r g,Good L a.toList b.toList r.toList->Q r (Ib st g)):wpS (_D prog w) A E s (Ls a b) Q st:=by
 delta Ls;delta mergeLoOpen;dsimp only[Jk,Q6,JV,QJ];refine _w<|ĸ<|Ρ ⟨U,?_⟩
 obtain⟨b0,AJ⟩:∃x,b[0]? = _b x:=⟨_,_y<|bq (gx _) hb⟩;rw[Ê,AJ];refine _w<|_u ?_
 have eA:∀i x,a[i]? = _b x->a.toList[i]? = _b x:=λi x e=>by rw[_x];exact e
 have eB:∀i x,b[i]? = _b x->b.toList[i]? = _b x:=λi x e=>by rw[_x];exact e
 have mA:∀i x,a[i]? = _b x->S x:=λi x e=>NM x<|ai<|eA i x e
 have mB:∀i x,b[i]? = _b x->S x:=λi x e=>MW x<|ai<|eB i x e
 have dn:∀(out:_E _I) d ib,Jm L a.toList b.toList out.toList d ib->(d=a.size \/ ib=b.size)->Good L a.toList b.toList (out++a.extract d a.size++b.extract ib b.size).toList:=λout d ib J e=>by
  rw[_T,_T,Nj,Nj];exact J.fin rA P<|by rw[_G,_G];exact e
 have ls:∀(out:_E _I) d ib,Jm L a.toList b.toList out.toList d ib->d+1=a.size->Good L a.toList b.toList (out++b.extract ib b.size++a.extract d a.size).toList:=λout d ib J e=>by
  obtain⟨x,u⟩:∃x,a[d]? = _b x:=⟨_,_y<|bq (gx _) (Ĝ e)⟩;rw[_T,_T,Nj,Nj];exact J.oK P (by rw[_G];exact e) (eA _ _ u)<|h9 x<|by rw[show a.size - 1=d by lia];exact u
 have pA:∀(out:_E _I) d ib l m,Jm L a.toList b.toList out.toList d ib->a[d]? = _b l->b[ib]? = _b m->L m l=_p->Jm L a.toList b.toList (out.push l).toList (d+1) ib:=λout d ib l m J ha hb hl=>by
  rw[æ];exact J.Ww rA (eA _ _ ha)<|hw.jJ P (eB _ _ hb) hl
 have pB:∀(out:_E _I) d ib l m,Jm L a.toList b.toList out.toList d ib->a[d]? = _b l->b[ib]? = _b m->L m l=_g->Jm L a.toList b.toList (out.push m).toList d (ib+1):=λout d ib l m J ha hb hl=>by
  rw[æ];exact J.Xo P (eB _ _ hb)<|hw.i_ rA (eA _ _ ha) hl
 have J0:Jm L a.toList b.toList (#[b0]:_E _I).toList 0 1:=by
  have:Jm L a.toList b.toList [] 0 0:=⟨eK _,eK _,.refl _,.nil,λx u=>_z u mh⟩;exact this.Xo P (eB _ _ AJ) λy hy=>h0 y hy b0 AJ
 by_cases M:(1 == b.size)=_g
 .rw[_n M];exact _u<|h _ (gallopOf st)<|dn _ _ _ J0<|.inr<|_F.mp M
 rw[_l M];by_cases N:(0+1 == a.size)=_g
 .rw[_n N];exact _u<|h _ (gallopOf st)<|ls _ _ _ J0<|_F.mp N
 rw[_l N];rw[_F] at M N;refine _w<|Ě<|_w ?_
 refine Υ (η (I:=λi c o=>Lw st L a b i c o)
  (Q:=λc o=>(∃g,o=Ib st g)/\∃r x,c=(_b r,x)/\Good L a.toList b.toList r.toList) ?st ?en (.mk J0 (IO ha N) (IO hb M)<|(by decide))) ?po
 case po =>
  rintro c o ⟨⟨g,rfl⟩,r,x,rfl,hG⟩;exact _u<|h r g hG
 case en =>
  rintro c o ⟨_,B,z,h3⟩;lia
 case st =>
  rintro i c o _ hi @⟨g,out,d,ib,X,J,UC,U1,as⟩;dsimp only;refine _w (Υ (η (I:=λj c o=>Lw st L a b (d+ib+j) c o)
   (Q:=Gq st L a b<|Lw st L a b<|d+ib+1) ?st1 ?en1 (.mk J UC U1<|al _)) ?po1)
  case en1 =>
   rintro c o ⟨J,B,z,h3⟩;exact .go<|.mk J B z<|by lia
  case st1 =>
   rintro j c o _ hj @⟨g',out,Y,W,⟨ac,bc⟩,J,B,z,h3⟩;obtain⟨l,F⟩:∃x,a[Y]? = _b x:=⟨_,_y<|oo B⟩;obtain⟨m,O⟩:∃x,b[W]? = _b x:=⟨_,_y z⟩;dsimp only;rw[Ê,O,Ê,F];refine _w<|_u<|_w<|_u<|_w<|hL m l _ _ (mB _ _ O) (mA _ _ F) hk ?_
   dsimp only
   cases hl:L m l with
   |true =>
    rw[_n U];refine _w<|_u ?_
    have q:=pB out Y W l m J F O hl;by_cases t:(W+1 == b.size)=_g
    .rw[_n t];exact _u<|.st<|dn _ _ _ q<|.inr<|_F.mp t
    .rw[_l t];rw[_F] at t;by_cases K:bc+1 ≥ X
     .rw[_n K];exact _u<|.go<|.mk q (B) (IO z t)<|md (Ty h3)
     .rw[_l K];exact _u<|.mk q (B) (IO z t)<|md h3
   |false =>
    rw[_l eI];refine _w<|_u ?_
    have q:=pA out Y W l m J F O hl;by_cases t:(Y+1+1 == a.size)=_g
    .rw[_n t];exact _u<|.st<|ls _ _ _ q<|_F.mp t
    .rw[_l t];rw[_F] at t;by_cases K:ac+1 ≥ X
     .rw[_n K];exact _u<|.go<|.mk q (IO B t) (z)<|by lia
     .rw[_l K];exact _u<|.mk q (IO B t) (z)<|by lia
  case po1 =>
   rintro c o (⟨@⟨g',out,Y,W,⟨ac,bc⟩,J,B,z,h3⟩⟩ | hG)
   .dsimp only;refine _w<|ĸ<|Ρ ⟨U,?_⟩
    refine _w (Υ (η (I:=λj c o=>Lw st L a b (Y+W+j) c o)
     (Q:=Gq st L a b<|Lw st L a b<|Y+W) ?st2 ?en2 (.mk J B z<|al _)) ?po2)
    case en2 =>
     rintro c o ⟨J,g1,g2,g3⟩;exact .go<|.mk J g1 g2<|Ty g3
    case po2 =>
     rintro c o (⟨@⟨_,out,p,f,⟨X,ac,bc⟩,J,g1,g2,g3⟩⟩ | hG)
     .dsimp only;rw[Hh];exact _w<|Ï<|_u<|.mk J g1 g2<|by lia
     .exact _u ⟨⟨_,U⟩,_,_,U,hG⟩
    case st2 =>
     clear B z h3 J;rintro j c o _ hj @⟨g,out,p,f,⟨X,ac,bc⟩,J,g1,g2,g3⟩;obtain⟨m,O⟩:∃x,b[f]? = _b x:=⟨_,_y g2⟩;dsimp only;apply two1<|X > 1
     .intro hm rest;rw[_n hm,Hh];refine _w<|Ï ?_
      generalize X - 1=F7;exact rest F7
     .intro hm rest;rw[_l hm,Hh];refine _w<|Ï ?_
      exact rest X
     intro F7;rw[Ê,O];refine _w<|_u<|_w<|AAG hw hL hk (by lia) (by lia) mA (mB _ _ O) rA λk PV kt kf=>?_
     have C:∀x,a[p+k]? = _b x->L m x=true:=λx u=>kf _ x (al _) (by have:=(υ.mp u).1;lia) u;dsimp only;apply two2<|k > 0
     .intro T rest;have FX:=C;rw[_n T];have q:Jm L a.toList b.toList (out++a.extract p (p+k)).toList (p+k) f:=by
       rw[_T,YB];exact Jm.gY (out:=out.toList) rA k p _ J (by rw[_G];lia) λi x B z u=>hw.jJ P (eB _ _ O)<|kt i x B z<|by rw[<-_x];exact u
      generalize out++a.extract p (p+k)=sR at q |-;have R:p<=p+k:=zor _ _
      have an:p+k<=a.size:=by lia
      generalize p+k=H at q FX R an |-;by_cases t:(H+1 == a.size)=_g
      .rw[_n t];exact _u<|.st<|ls _ _ _ q<|_F.mp t
      rw[_l t];by_cases K:(H == a.size)=_g
      .rw[_n K];exact _u<|.st<|dn _ _ _ q<|.inl<|_F.mp K
      rw[_l K];rw[_F] at t K;have ab:H+1<a.size:=by lia
      revert q FX R ab;exact rest sR H
     .intro T rest;rw[_l T];exact rest out p J (by rw[show p+k=p by lia] at C;exact C) (Η _) g1
     intro sR H q C R ab;obtain⟨l,F⟩:∃x,a[H]? = _b x:=⟨_,_y<|oo ab⟩;have hl:=C l F;have J2:=pB sR H f l m q F O hl;refine _w<|_u ?_
     generalize sR.push m=v at J2 |-;by_cases e3:(f+1 == b.size)=_g
     .rw[_n e3];exact _u<|.st<|dn _ _ _ J2<|.inr<|_F.mp e3
     rw[_l e3];rw[_F] at e3;rw[Ê,F];refine _w<|_u<|_w<|wL hw hL hk (by lia) (by lia) mB (mA _ _ F) P λG ED K0 NH=>?_
     have n:∀x,b[f+1+G]? = _b x->L x l=false:=λx u=>NH _ x (al _) (by have:=(υ.mp u).1;lia) u;dsimp only;apply two2<|G > 0
     .intro xw rest;have AW:=n;rw[_n xw];have Z:Jm L a.toList b.toList (v++b.extract (f+1) (f+1+G)).toList H<|f+1+G:=by
       rw[_T,YB];exact Jm.xU (out:=v.toList) P G (f+1) _ J2 (by rw[_G];lia) λi x B z u=>hw.i_ rA (eA _ _ F)<|K0 i x B z<|by rw[<-_x];exact u
      generalize v++b.extract (f+1) (f+1+G)=vc at Z |-;have V:f+1<=f+1+G:=zor _ _
      have ap:f+1+G<=b.size:=by lia
      generalize f+1+G=DA at Z AW V ap |-;by_cases e4:(DA == b.size)=_g
      .rw[_n e4];exact _u<|.st<|dn _ _ _ Z<|.inr<|_F.mp e4
      rw[_l e4];rw[_F] at e4;have D:DA<b.size:=IO ap e4
      revert Z AW V D;exact rest vc DA
     .intro xw rest;rw[_l xw];exact rest v (f+1) J2 (by rw[show f+1+G=f+1 by lia] at n;exact n) (Η _)<|IO g2 e3
     intro vc DA Z n V D;obtain⟨x3,BI⟩:∃x,b[DA]? = _b x:=⟨_,_y D⟩;have J4:=pA vc H DA l x3 Z F BI<|n x3 BI
     refine _w<|_u ?_
     by_cases e5:(H+1+1 == a.size)=_g
     .rw[_n e5];exact _u<|.st<|ls _ _ _ J4<|_F.mp e5
     rw[_l e5];rw[_F] at e5;split
     .exact _u<|.go<|.mk J4 (IO ab e5) (D)<|by lia
     .exact _u<|.mk J4 (IO ab e5) (D)<|by lia
   .exact _u ⟨⟨_,U⟩,_,_,U,hG⟩
end
end Sm
end PartSortM2
section PartSortM3
set_option maxHeartbeats 800000
namespace Sm
open PySem PyProof.Rows
local macro_rules | `(tactic| delta mergeHiOpen)=>`(tactic| delta $(Lean.mkCIdent (Lean.mkPrivateNameCore `PySem.Builtin.List.W1All `PySem.Builtin.mergeHi)))
section
variable{α:Type}{L:α->α->_O}{A B:_a α}
abbrev Fl(L:α->α->_O):α->α->Bool:=λx y=>L y x
theorem ZJ.fl(h:ZJ L):ZJ<|Fl L:=⟨λx y e=>h.asym y x e,λx y z e=>(h.co z y x e).symm⟩
theorem Cw.fl(h:Cw L A):Cw (Fl L) A.reverse:=f_.mpr h
theorem Good.fl{r:_a α}(h:Good (Fl L) B.reverse A.reverse r.reverse):Good L A B r:=by
 refine⟨?_,f_.mp h.2⟩;have a:=(y1 r).symm.trans h.1;refine a.trans ?_;rw[<-iN];exact y1 _
theorem Jb{l:_a α}(h:n<=l.length):l.reverse.drop (l.length - n)=(l.take n).reverse:=by
 rw[List.drop_reverse,show l.length - (l.length - n)=n by lia]
theorem aF{l:_a α}(h:n<=l.length)(a:1<=n):l.reverse[l.length - n]? = l[n - 1]?:=by
 rw[ģ (by lia),show l.length - 1 - (l.length - n)=n - 1 by lia]
theorem Xe{l:_a α}(h:n<=l.length)(a:m<=n):(l.reverse.drop<|l.length - n).take (n - m)=((l.take n).drop m).reverse:=by
 rw[Jb h,List.take_reverse,zl,ġ h,show n - (n - m)=m by lia]
end
theorem RV{a:_E _I}:(a.extract 0 i).toList=a.toList.take i:=by
 rw[û,kq,ŗ,p']
theorem Jr{a:_E _I}:(a.extract i j).toList=(a.toList.take j).drop i:=by
 rw[û,kq,ř]
section
variable{w:_P}
inductive Hw{T:Type}(st:_V)(J:_E _I->_c->_c->Prop)(A B n m:_c):_r (_E _I)×_c×_c×_E _I×T->_V->Prop
 | mk{g:_}{i:_}{j:_}{out:_}{r:_}(h:J out i j)(h1:1<=i)(h2:i<=A)(h3:2<=j)(h4:j<=B)(h5:n+i+j<=m):Hw st J A B n m (_o,i,j,out,r) (Ib st g)
theorem U0{S:_I->Prop}{L:_I->_I->_O}{κ:É}{a b:_E _I}{st:_V}{Q:_E _I->_V->Prop}
  (hw:ZJ L)(hL:Ms prog w A E s S L κ)(hk:kindOf st=κ)(ha:1<=a.size)(hb:1<=b.size)(NM:∀x∈a.toList,S x)(MW:∀x∈b.toList,S x)(rA:Cw L a.toList)(rB:Cw L b.toList)
  (h0:∀x∈a.toList,∀y,b[0]? = _b y->L x y=_p)(h9:∀x,a[a.size - 1]? = _b x->∀y∈b.toList,L x y=_p)
  (h:∀r g,Good L a.toList b.toList r.toList->Q r (Ib st g)):wpS (_D prog w) A E s (Ko a b) Q st:=by
 delta Ko;delta mergeHiOpen;dsimp only[Jk,Q6,JV,QJ];refine _w<|ĸ<|Ρ ⟨U,?_⟩
 obtain⟨a9,NV⟩:∃x,a[a.size - 1]? = _b x:=⟨_,_y<|by lia⟩;rw[Ê,NV];refine _w<|_u ?_
 have la:=_G (xs:=a);have Y:=_G (xs:=b);have yk:=hw.fl;have A4:=rA.fl;have EN:=rB.fl;have eA:∀n x,1<=n->n<=a.size->a[n - 1]? = _b x->a.toList.reverse[a.size - n]? = _b x:=λn x v u e=>by
  have:=aF (l:=a.toList) (n:=n) u v;rw[la] at this;rw[this,_x];exact e
 have eB:∀n x,1<=n->n<=b.size->b[n - 1]? = _b x->b.toList.reverse[b.size - n]? = _b x:=λn x v u e=>by
  have:=aF (l:=b.toList) (n:=n) u v;rw[Y] at this;rw[this,_x];exact e
 have fA:∀i x,a[i]? = _b x->a.toList[i]? = _b x:=λi x e=>by rw[_x];exact e
 have fB:∀i x,b[i]? = _b x->b.toList[i]? = _b x:=λi x e=>by rw[_x];exact e
 have mA:∀i x,a[i]? = _b x->S x:=λi x e=>NM x<|ai<|fA i x e
 have mB:∀i x,b[i]? = _b x->S x:=λi x e=>MW x<|ai<|fB i x e
 let J:=λ(out:_E _I) d nb=>Jm (Fl L) b.toList.reverse a.toList.reverse out.toList (b.size - nb)<|a.size - d
 have dn:∀(out:_E _I) d nb,J out d nb->d<=a.size->nb<=b.size->(d=0 \/ nb=0)->Good L a.toList b.toList (a.extract 0 d++b.extract 0 nb++out.reverse).toList:=λout d nb j l1 l2 e=>by
  have:=j.fin EN A4<|by rw[iO,iO,la,Y];lia
  have H:=Jb (l:=a.toList) (n:=d)<|l1
  have d2:=Jb (l:=b.toList) (n:=nb)<|l2
  rw[la] at H;rw[Y] at d2;rw[H,d2] at this;refine Good.fl ?_;rw[_T,_T,RV,RV,ü,iN,iN,sL,<-dt];exact this
 have ls:∀(out:_E _I) d nb,J out d nb->d<=a.size->nb=1->Good L a.toList b.toList (b.extract 0 nb++a.extract 0 d++out.reverse).toList:=λout d nb j l1 e=>by
  subst e;obtain⟨x,o⟩:∃x,b[0]? = _b x:=⟨_,_y<|bq (gx _) hb⟩;have:=j.oK A4 (by rw[iO,Y];lia) (eB 1 x (al _) hb o) λy hy=>h0 y (zn.mp hy) x o;have H:=Jb (l:=a.toList) (n:=d)<|l1
  have d2:=Jb (l:=b.toList) (n:=1)<|hb
  rw[la] at H;rw[Y] at d2;rw[H,d2] at this;refine Good.fl ?_;rw[_T,_T,RV,RV,ü,iN,iN,sL,<-dt];exact this
 have pB:∀(out:_E _I) d nb p q,J out d nb->1<=d->d<=a.size->1<=nb->nb<=b.size->a[d - 1]? = _b p->b[nb - 1]? = _b q->L q p=_g->J (out.push p) (d - 1) nb:=λout d nb p q j l1 l2 l3 l4 ha hb hl=>by
  show Jm _ _ _ (out.push p).toList _ (a.size - (d - 1));rw[æ,show a.size - (d - 1)=a.size - d+1 by lia];exact j.Xo A4 (eA _ _ l1 l2 ha)<|yk.i_ EN (eB _ _ l3 l4 hb) hl
 have pA:∀(out:_E _I) d nb p q,J out d nb->1<=d->d<=a.size->1<=nb->nb<=b.size->a[d - 1]? = _b p->b[nb - 1]? = _b q->L q p=_p->J (out.push q) d (nb - 1):=λout d nb p q j l1 l2 l3 l4 ha hb hl=>by
  show Jm _ _ _ (out.push q).toList (b.size - (nb - 1)) _;rw[æ,show b.size - (nb - 1)=b.size - nb+1 by lia];exact j.Ww EN (eB _ _ l3 l4 hb)<|yk.jJ A4 (eA _ _ l1 l2 ha) hl
 have aw:∀(out:_E _I) d nb f q,J out d nb->d<=a.size->1<=nb->nb<=b.size->f<=d->b[nb - 1]? = _b q->(∀i x,f<=i->i<d->a[i]? = _b x->L q x=_g)->J (out++(a.extract f d).reverse) f nb:=λout d nb f q j l2 l3 l4 l5 hb hl=>by
  show Jm _ _ _ (out++(a.extract f d).reverse).toList _ (a.size - f);have H:=Xe (l:=a.toList) (n:=d) (m:=f) l2 l5;rw[la] at H;rw[_T,ü,Jr,<-H,show a.size - f=a.size - d+(d - f) by lia];refine Jm.xU (out:=out.toList) A4 _ _ _ j (by rw[iO,la];lia) λi x v u o=>yk.i_ EN (eB _ _ l3 l4 hb) ?_;rw[ģ (by lia),_x,la] at o;exact hl (a.size - 1 - i) x (by lia) (by lia) o
 have aK:∀(out:_E _I) d nb f p,J out d nb->1<=d->d<=a.size->nb<=b.size->f<=nb->a[d - 1]? = _b p->(∀i x,f<=i->i<nb->b[i]? = _b x->L x p=_p)->J (out++(b.extract f nb).reverse) d f:=λout d nb f p j l2 l3 l4 l5 ha hl=>by
  show Jm _ _ _ (out++(b.extract f nb).reverse).toList (b.size - f) _;have H:=Xe (l:=b.toList) (n:=nb) (m:=f) l4 l5;rw[Y] at H;rw[_T,ü,Jr,<-H,show b.size - f=b.size - nb+(nb - f) by lia];refine Jm.gY (out:=out.toList) EN _ _ _ j (by rw[iO,Y];lia) λi x v u o=>yk.jJ A4 (eA _ _ l2 l3 ha) ?_;rw[ģ (by lia),_x,Y] at o;exact hl (b.size - 1 - i) x (by lia) (by lia) o
 have J0:J #[a9] (a.size - 1) b.size:=by
  have:Jm (Fl L) b.toList.reverse a.toList.reverse [] 0 0:=⟨eK _,eK _,.refl _,.nil,λx o=>_z o mh⟩;have j:=this.Xo A4 (x:=a9) (by have:=eA a.size a9 ha (al _) NV;rwa [iF] at this) λy hy=>h9 a9 NV y<|zn.mp hy
  show Jm _ _ _ _ (b.size - b.size) (a.size - (a.size - 1));rw[Nat.sub_self,show a.size - (a.size - 1)=0+1 by lia];exact j
 by_cases R:(a.size - 1 == 0)=_g
 .rw[_n R];exact _u<|h _ (gallopOf st)<|dn _ _ _ J0 (XL _ _) (al _)<|.inl<|_F.mp R
 rw[_l R];by_cases W:(b.size == 1)=_g
 .rw[_n W];exact _u<|h _ (gallopOf st)<|ls _ _ _ J0 (XL _ _)<|_F.mp W
 rw[_l W];rw[_F] at R W;refine _w<|Ě<|_w ?_
 refine Υ (η (I:=λi c z=>Hw st J a.size b.size i (a.size+b.size) c z)
  (Q:=λc z=>(∃g,z=Ib st g)/\∃r x,c=(_b r,x)/\Good L a.toList b.toList r.toList) ?st ?en (.mk J0 (by lia) (XL _ _) (by lia) (Ĝ Y)<|by lia)) ?po
 case po =>
  rintro c z ⟨⟨g,rfl⟩,r,x,rfl,hG⟩;exact _u<|h r g hG
 case en =>
  rintro c z ⟨_,v,u,G,B,h5⟩;lia
 case st =>
  rintro i c z _ hi @⟨g,d,nb,out,mg,j,v,u,G,B,h5⟩;dsimp only;clear_value J;refine _w<|Υ (η (I:=λt c z=>Hw st J a.size b.size t (d+nb) c z) (Q:=Gq st L a b<|Hw st J a.size b.size 1<|d+nb) ?st1 ?en1<|.mk j v u G B<|zah (Ĝ (zac _ _)) _) ?po1
  case en1 =>
   rintro c z ⟨J,v,u,G,B,h5⟩;exact .go<|.mk J v u G B<|by lia
  case st1 =>
   clear j v u G B h5;rintro t c z _ hj @⟨g',BE,B5,out,⟨ac,bc⟩,j,v,u,G,B,h5⟩;obtain⟨p,O⟩:∃x,a[BE - 1]? = _b x:=⟨_,_y<|by lia⟩;obtain⟨q,X⟩:∃x,b[B5 - 1]? = _b x:=⟨_,_y<|by lia⟩;dsimp only;rw[Ê,X,Ê,O];refine _w<|_u<|_w<|_u<|_w<|hL q p _ _ (mB _ _ X) (mA _ _ O) hk ?_
   dsimp only
   cases hl:L q p with
   |true =>
    rw[_n U];refine _w<|_u ?_
    have D:=pB out BE B5 p q j v u (LT G) B O X hl;by_cases C:(BE - 1 == 0)=_g
    .rw[_n C];exact _u<|.st<|dn _ _ _ D (by lia) B<|.inl<|_F.mp C
    .rw[_l C];rw[_F] at C;by_cases e2:ac+1 ≥ mg
     .rw[_n e2];exact _u<|.go<|.mk D (by lia) (by lia) G B<|by lia
     .rw[_l e2];exact _u<|.mk D (by lia) (by lia) G B<|by lia
   |false =>
    rw[_l eI];refine _w<|_u ?_
    have D:=pA out BE B5 p q j v u (LT G) B O X hl;by_cases C:(B5 - 1 == 1)=_g
    .rw[_n C];exact _u<|.st<|ls _ _ _ D u<|_F.mp C
    .rw[_l C];rw[_F] at C;by_cases e2:bc+1 ≥ mg
     .rw[_n e2];exact _u<|.go<|.mk D v u (by lia) (by lia)<|by lia
     .rw[_l e2];exact _u<|.mk D v u (by lia) (by lia)<|by lia
  case po1 =>
   clear j v u G B;rintro c z (⟨@⟨g',BE,B5,out,⟨ac,bc⟩,j,v,u,G,B,h6⟩⟩ | hG);rotate_left
   .exact _u ⟨⟨_,U⟩,_,_,U,hG⟩
   .dsimp only;refine _w<|ĸ<|Ρ ⟨U,?_⟩
    refine _w<|Υ (η (I:=λt c z=>Hw st J a.size b.size t (BE+B5) c z) (Q:=Gq st L a b<|Hw st J a.size b.size 0<|BE+B5) ?st2 ?en2<|.mk j v u G B<|zah (Ĝ (zac _ _)) _) ?po2
    case en2 =>
     rintro c z ⟨J,g1,g2,g3,g4,g5⟩;exact .go<|.mk J g1 g2 g3 g4<|by lia
    case po2 =>
     rintro c z (⟨@⟨_,B4,P,out,⟨mg,ac,bc⟩,J,g1,g2,g3,g4,g5⟩⟩ | hG)
     .dsimp only;rw[Hh];exact _w<|Ï<|_u<|.mk J g1 g2 g3 g4<|by lia
     .exact _u ⟨⟨_,U⟩,_,_,U,hG⟩
    case st2 =>
     clear v u G B h5 h6 j;rintro t c z _ hj @⟨g,B4,P,out,⟨mg,ac,bc⟩,j,g1,g2,g3,g4,g5⟩;obtain⟨q,X⟩:∃x,b[P - 1]? = _b x:=⟨_,_y<|by lia⟩;dsimp only;apply two1<|mg > 1
     .intro hm rest;rw[_n hm,Hh];refine _w<|Ï ?_
      generalize mg - 1=F7;exact rest F7
     .intro hm rest;rw[_l hm,Hh];refine _w<|Ï ?_
      exact rest mg
     intro F7;rw[Ê,X];refine _w<|_u<|_w<|AAG hw hL hk (by lia) (by lia) mA (mB _ _ X) rA λk PV kt kf=>?_
     have as:∀i x,i<k->a[i]? = _b x->L q x=false:=λi x u o=>kt i x (eK _) (bq u (LE _ _)) o;dsimp only;generalize aN:B4 - k=aD;apply two2<|aD > 0
     .intro ab rest;have FR:=as;rw[_n ab];have D:=aw out B4 P k q j g2 (LT g3) g4 PV X λi x v u o=>kf i x (by lia) (bq u (LE _ _)) o;generalize out++(a.extract k B4).reverse=sR at D |-;by_cases C:(k == 0)=_g
      .rw[_n C];exact _u<|.st<|dn _ _ _ D (rx PV g2) g4<|.inl<|_F.mp C
      rw[_l C];rw[_F] at C;have F:1<=k:=by lia
      have ap:k<=B4:=PV
      have V:∀x,a[k - 1]? = _b x->L q x=false:=λx o=>FR (k - 1) x (by lia) o;clear FR C;generalize k=AS at D F ap V |-;revert D V F ap;exact rest sR AS
     .intro ab rest;rw[_l ab];exact rest out B4 j g1 (al _)<|λx o=>as (B4 - 1) x (by lia) o
     intro sR AS D F ap V;obtain⟨p,O⟩:∃x,a[AS - 1]? = _b x:=⟨_,_y<|by lia⟩;have hl:=V p O;have J2:=pA sR AS P p q D F (rx ap g2) (LT g3) g4 O X hl;refine _w<|_u ?_
     generalize sR.push q=M at J2 |-;by_cases e3:(P - 1 == 1)=_g
     .rw[_n e3];exact _u<|.st<|ls _ _ _ J2 (rx ap g2)<|_F.mp e3
     rw[_l e3];rw[_F] at e3;rw[Ê,O];refine _w<|_u<|_w<|wL hw hL hk (by lia) (by lia) mB (mA _ _ O) rB λK ED K0 NH=>?_
     have Z:∀i x,i<K->b[i]? = _b x->L x p=true:=λi x u o=>K0 i x (eK _) (bq u (LE _ _)) o;dsimp only;generalize aM:P - 1 - K=aB;apply two2<|aB > 0
     .intro xw rest;have AI:=Z;rw[_n xw];have J3:=aK M AS (P - 1) K p J2 F (rx ap g2) (by lia) ED O λi x v u o=>NH i x (by lia) (bq u (LE _ _)) o;generalize M++(b.extract K (P - 1)).reverse=vc at J3 |-;by_cases e4:(K == 1)=_g
      .rw[_n e4];exact _u<|.st<|ls _ _ _ J3 (rx ap g2)<|_F.mp e4
      rw[_l e4];by_cases e6:(K == 0)=_g
      .rw[_n e6];exact _u<|.st<|dn _ _ _ J3 (rx ap g2) (by lia)<|.inr<|_F.mp e6
      rw[_l e6];rw[_F] at e4 e6;have N:2<=K:=by lia
      have an:K<=P - 1:=ED
      have T:∀x,b[K - 1]? = _b x->L x p=true:=λx o=>AI (K - 1) x (by lia) o;clear AI e4 e6;generalize K=Ic at J3 T N an |-;revert J3 T N an;exact rest vc Ic
     .intro xw rest;rw[_l xw];exact rest M (P - 1) J2 (λx o=>Z (P - 1 - 1) x (by lia) o) (by lia)<|al _
     intro vc Ic J3 T N an;obtain⟨x3,BI⟩:∃x,b[Ic - 1]? = _b x:=⟨_,_y<|by lia⟩;have J4:=pB vc AS Ic p x3 J3 F (by lia) (by lia) (by lia) O BI<|T x3 BI
     refine _w<|_u ?_
     by_cases e5:(AS - 1 == 0)=_g
     .rw[_n e5];exact _u<|.st<|dn _ _ _ J4 (by lia) (by lia)<|.inl<|_F.mp e5
     rw[_l e5];rw[_F] at e5;split
     .exact _u<|.go<|.mk J4 (by lia) (by lia) N (by lia)<|by lia
     .exact _u<|.mk J4 (by lia) (by lia) N (by lia)<|by lia
end
end Sm
end PartSortM3
section PartSortN
set_option maxHeartbeats 800000
namespace Sm
open PySem PyProof.Rows
section
variable{w:_P}{ρ:_I->_c}{S:_I->Prop}{κ:É}{p0:_E (_c×_c×_c)}{a0:_E _I}{lo:_c}
abbrev Lr(ρ:_I->_c)(x y:_I):Bool:=decide (ρ x<ρ y)
theorem Zr:ZJ<|Lr ρ:=⟨λx y h=>by simp at h |-;exact fR h,λx y z h=>by simp at h |-;lia⟩
noncomputable def R(ρ:_I->_c)(xs:_E _I)(i:_c):Nat:=match xs[i]? with
 |some x=>ρ x
 |none=>0
theorem Kd{xs ys:_E _I}(h:xs[i]? = ys[j]?):R ρ xs i=R ρ ys j:=by unfold R;rw[h]
theorem Ju{xs:_E _I}{x:_I}(h:xs[i]? = _b x):R ρ xs i=ρ x:=by unfold R;rw[h]
structure Bs(κ:É)(p0:_E<|_c×_c×_c)(a0:_E _I)(lo:_c)(st:_V):Prop where
 kind:kindOf st=κ
 pend:pendingOf st=p0
 fail:failedOf st=_o
 perm:(arrOf st).Perm a0
 pre:∀i,i<lo->(arrOf st)[i]? = a0[i]?
theorem Bs.size{st:_V}(h:Bs κ p0 a0 lo st):(arrOf st).size=a0.size:=h.perm.size_eq
theorem Bs.set{st:_V}{xs:_E _I}(h:Bs κ p0 a0 lo st)(c:xs.Perm<|arrOf st)(b:∀i,i<lo->xs[i]? = (arrOf st)[i]?):Bs κ p0 a0 lo (setArr st xs) :=
 ⟨h.kind,h.pend,h.fail,c.trans h.perm,λi a=>(b i a).trans<|h.pre i a⟩
theorem Bs.mem{st:_V}(h:Bs κ p0 a0 lo st)(b:∀x∈a0.toList,S x):∀x∈(arrOf st).toList,S x:=λx a=>b x<|(Ι.mp h.perm).mem_iff.mp a
theorem MP{st:_V}{Q:_r _O->_V->Prop}(d:Ms prog w A E s S (Lr ρ) κ)(e:∀x∈a0.toList,S x)(a:Bs κ p0 a0 lo st)(hi:i<a0.size)(f:j<a0.size)
  (h:Q (_b (decide (R ρ (arrOf st) i<R ρ (arrOf st) j))) st):wpS (_D prog w) A E s (ltAt' i j) Q st:=by
 rw[ltAt'_eq];refine _w<|Ě ?_
 have sz:=a.size;obtain⟨x,c⟩:∃x,(arrOf st)[i]? = _b x:=⟨_,_y<|wT hi sz.symm⟩;obtain⟨y,b⟩:∃x,(arrOf st)[j]? = _b x:=⟨_,_y<|wT f sz.symm⟩;show wpS _ _ _ _ (do let u <-elem' (arrOf st) i;let v <-elem' (arrOf st) j;lt' u v) Q st;rw[Ê,Ê,c,b];have m:=a.mem e;refine _w<|_u<|_w<|_u<|d x y st Q (m x<|ai<|by rw[_x];exact c) (m y<|ai<|by rw[_x];exact b) a.kind ?_
 rw[Ju c,Ju b] at h;exact h
def Up(ρ:_I->_c)(xs:_E _I)(a b:_c):Prop:=∀i j,a<=i->i<=j->j<b->R ρ xs i<=R ρ xs j
def Dn(ρ:_I->_c)(xs:_E _I)(a b:_c):Prop:=∀i j,a<=i->i<=j->j<b->R ρ xs j<=R ρ xs i
theorem m6{xs:_E _I}(a:j<=xs.size)(k:_c):R ρ (mirror xs i j<|(j - i) / 2) k=if i<=k/\k<j then R ρ xs (i+j - 1 - k) else R ρ xs k:=by
 have e:=BG (i:=i) a k;split
 .rename_i h;rw[_n h] at e;exact Kd e
 .rename_i h;rw[_l h] at e;exact Kd e
theorem gQ{xs:_E _I}(a:j<=xs.size)(k:_c)(b:k<i):(mirror xs i j<|(j - i) / 2)[k]? = xs[k]?:=by
 have e:=BG (i:=i) a k;rw[_l (by lia)] at e;exact e
theorem O6{xs:_E _I}{c:_c}(b:j<=xs.size)(a:∀k,i<=k->k<j->R ρ xs k=c)(k:_c):R ρ (mirror xs i j<|(j - i) / 2) k=R ρ xs k:=by
 rw[m6 b];split
 .rw[a k (by lia) (by lia),a _ (by lia)<|by lia]
 .rfl
theorem Bs.mir{st:_V}(h:Bs κ p0 a0 lo st)(hi:lo<=i)(a:j<=a0.size):Bs κ p0 a0 lo (setArr st<|mirror (arrOf st) i j<|(j - i) / 2) :=
 h.set (mirror_perm _ _ _ _) λk b=>gQ (by rw[h.size];exact a) k<|bq b hi
theorem Up.snoc{xs:_E _I}{a b:_c}(h:Up ρ xs a b)(e:a<b->R ρ xs (b - 1)<=R ρ xs b):Up ρ xs a<|b+1:=λi j c d k=>by
 by_cases g:j<b
 .exact h i j c d g
 .obtain rfl:j=b:=Fr (KE k) (me g)
  by_cases f:i=j
  .rw[f];exact al _
  .exact cq (h i (j - 1) c (by lia)<|by lia)<|e<|cc c (IO d f)
theorem Dn.snoc{xs:_E _I}{a b:_c}(h:Dn ρ xs a b)(e:a<b->R ρ xs b<=R ρ xs (b - 1)):Dn ρ xs a<|b+1:=λi j c d k=>by
 by_cases g:j<b
 .exact h i j c d g
 .obtain rfl:j=b:=Fr (KE k) (me g)
  by_cases f:i=j
  .rw[f];exact al _
  .exact cq (e<|cc c (IO d f))<|h i (j - 1) c (by lia)<|by lia
theorem Dn.of{xs ys:_E _I}{a b:_c}(h:Dn ρ xs a b)(e:∀k,R ρ ys k=R ρ xs k):Dn ρ ys a b:=λi j c d f=>by rw[e,e];exact h i j c d f
theorem Vj{f:_c}{st:_V}{Q:_r _c->_V->Prop}(y:Ms prog w A E s S (Lr ρ) κ)(B:∀x∈a0.toList,S x)(u:Bs κ p0 a0 lo st)(p:1<=f)(hn:lo+f<=a0.size)
  (h:∀m b9,Bs κ p0 a0 lo b9->1<=m->m<=f->Up ρ (arrOf b9) lo (lo+m)->Q (_b m) b9):wpS (_D prog w) A E s (countRun' lo f) Q st:=by
 rw[countRun'_eq];dsimp only;refine _w (Υ (η (I:=λx c b9=>b9=st/\c=(_o,x)/\Up ρ (arrOf st) lo (lo+x))
  (Q:=λc b9=>b9=st/\∃n,c=(_o,n)/\1<=n/\n<=f/\Up ρ (arrOf st) lo (lo+n)/\(n=f \/ R ρ (arrOf st) (lo+n)<R ρ (arrOf st) (lo+n - 1))) ?st1 ?en1 ⟨U,U,λi j p V L=>Ĝ<|by rw[show i=j by lia]⟩) ?po1)
 case en1 =>
  rintro c b9 ⟨rfl,rfl,a⟩;rw[oz p] at a |-;exact⟨U,f,U,p,al _,a,.inl U⟩
 case st1 =>
  rintro x c b9 z tJ ⟨rfl,rfl,a⟩;refine _w<|MP y B u (by lia) (by lia) ?_
  by_cases hl:R ρ (arrOf b9) (lo+x)<R ρ (arrOf b9) (lo+x - 1)
  .simp only[hl,ě,ê];exact _u ⟨U,x,U,z,fR tJ,a,.inr hl⟩
  .simp only[hl,č,π,å];exact _u ⟨U,U,a.snoc λ_=>me hl⟩
 case po1 =>
  rintro c b9 ⟨rfl,n,rfl,n1,X,a,M⟩;dsimp only;by_cases H:(n == f)=_g
  .rw[_n H];exact _u<|h n b9 u n1 X a
  rw[_l H];rw[_F] at H;have T:=M.resolve_left H;have sz:=u.size;have dk:(∀k,lo<=k->k<lo+n->R ρ (arrOf b9) k=R ρ (arrOf b9) (lo+n - 1))->Dn ρ (arrOf b9) lo (lo+(n+1)):=λY=>Dn.snoc (b:=lo+n) (λi j p V L=>by rw[Y i p (cc V L),Y j (rx p V) L];exact al _) λ_=>fR T;apply two1<|n > 1
  .intro P rest;rw[_n P];refine _w<|MP y B u (by lia) (by lia) ?_
   by_cases hl:R ρ (arrOf b9) lo<R ρ (arrOf b9) (lo+n - 1)
   .simp only[hl,ě,ê];exact _u<|h n b9 u n1 X a
   simp only[hl,č,π,å];have o:∀k,lo<=k->k<lo+n->R ρ (arrOf b9) k=R ρ (arrOf b9) (lo+n - 1):=λk l t=>by
    have a1:=a lo k (al _) l t;have a2:=a k (lo+n - 1) l (by lia)<|by lia
    lia
   have G:Dn ρ (arrOf<|setArr b9<|mirror (arrOf b9) lo (lo+n)<|(lo+n - lo) / 2) lo<|lo+(n+1):=(dk o).of<|O6 (by lia) o
   have F:=u.mir (i:=lo) (j:=lo+n) (al _)<|by lia
   refine _w<|Ű ?_
   generalize setArr b9 (mirror (arrOf b9) lo (lo+n) ((lo+n - lo) / 2))=st2 at F G |-;revert G F;exact rest st2
  .intro P rest;rw[_l P];exact rest b9 u (dk λk l t=>by rw[show k=lo+n - 1 by lia])
  intro st2 F G;refine _w<|ĸ<|Ρ ⟨U,?_⟩
  refine _w (Υ (η (I:=λx c b9=>∃q,c=(_o,x,q)/\Bs κ p0 a0 lo b9/\Dn ρ (arrOf b9) lo (lo+x)/\q+1<=x/\∀k,lo+x - (q+1)<=k->k<lo+x->R ρ (arrOf b9) k=R ρ (arrOf b9) (lo+x - 1))
   (Q:=λc b9=>∃m q,c=(_o,m,q)/\Bs κ p0 a0 lo b9/\Dn ρ (arrOf b9) lo (lo+m)/\q+1<=m/\1<=m/\m<=f/\∀k,lo+m - (q+1)<=k->k<lo+m->R ρ (arrOf b9) k=R ρ (arrOf b9) (lo+m - 1)) ?st2 ?en2 ⟨0,U,F,G,iq n1,λk l t=>by rw[show k=lo+(n+1) - 1 by lia]⟩) ?po2)
  case en2 =>
   rintro c st3 ⟨q,rfl,d,g,C,r⟩;rw[oz (KE (Y' (IO X H)))] at g C r |-;exact⟨f,q,U,d,g,C,p,al _,r⟩
  case st2 =>
   rintro x c st3 x1 x2 ⟨q,rfl,d,g,C,r⟩;have UB:=d.size;have ab:=hn;dsimp only;refine _w<|MP y B d (by lia) (by lia) ?_
   by_cases hl:R ρ (arrOf st3) (lo+x)<R ρ (arrOf st3) (lo+x - 1)
   .simp only[hl,ě,ê];have W:Dn ρ (arrOf st3) lo<|lo+(x+1):=g.snoc λ_=>fR hl
    by_cases o:q > 0
    .rw[_n o];exact _w<|Ű<|_u ⟨0,U,d.mir (by lia)<|by lia,W.of<|O6 (by lia) r,LE _ _,λk l t=>by rw[show k=lo+(x+1) - 1 by lia]⟩
    .rw[_l o];exact _u ⟨0,U,d,W,LE _ _,λk l t=>by rw[show k=lo+(x+1) - 1 by lia]⟩
   .simp only[hl,č,π,å];refine _w<|MP y B d (by lia) (by lia) ?_
    by_cases O:R ρ (arrOf st3) (lo+x - 1)<R ρ (arrOf st3) (lo+x)
    .simp only[O,ě,ê];exact _u ⟨x,q,U,d,g,C,rx n1 (LT x1),fR x2,r⟩
    .simp only[O,č,π,å];refine _u ⟨q+1,U,d,g.snoc λ_=>me O,md C,λk l t=>?_⟩;rw[show lo+(x+1) - 1=lo+x by lia];by_cases hk:k=lo+x
     .rw[hk]
     .have:=r k (by lia)<|IO (KE t) hk
      lia
  case po2 =>
   rintro c st3 ⟨m,q,rfl,d,g,C,m1,m2,r⟩;have UB:=d.size;dsimp only;apply two1<|q > 0
   .intro o rest;rw[_n o];refine _w<|Ű ?_
    have D:=d.mir (i:=lo+m - (q+1)) (j:=lo+m) (by lia)<|by lia
    have K:Dn ρ (arrOf<|setArr st3<|mirror (arrOf st3) (lo+m - (q+1)) (lo+m)<|(lo+m - (lo+m - (q+1))) / 2) lo<|lo+m:=g.of<|O6 (by lia) r
    generalize setArr st3 (mirror (arrOf st3) (lo+m - (q+1)) (lo+m) ((lo+m - (lo+m - (q+1))) / 2))=v at D K |-;revert D K;exact rest v
   .intro o rest;rw[_l o];exact rest st3 d g
   intro v D K;have ac:=D.size;refine _w<|Ű ?_
   have N:=D.mir (i:=lo) (j:=lo+m) (al _)<|by lia
   have Z:Up ρ (arrOf<|setArr v<|mirror (arrOf v) lo (lo+m)<|(lo+m - lo) / 2) lo<|lo+m:=λi j p V L=>by
    have e:=m6 (ρ:=ρ) (xs:=arrOf v) (i:=lo) (j:=lo+m)<|by lia
    show R ρ (mirror _ _ _ _) i<=R ρ (mirror _ _ _ _) j;rw[e,e,_n ⟨p,cc V L⟩,_n ⟨rx p V,L⟩];exact K _ _ (by lia) (by lia)<|by lia
   generalize setArr v (mirror (arrOf v) lo (lo+m) ((lo+m - lo) / 2))=J at N Z |-;refine _w<|Υ (η (I:=λx c b9=>b9=J/\c=(_o,x)/\Up ρ (arrOf J) lo (lo+x)) (Q:=λc b9=>b9=J/\∃k,c=(_o,k)/\1<=k/\k<=f/\Up ρ (arrOf J) lo (lo+k)) ?st3 ?en3 ⟨U,U,Z⟩) ?po3
   case en3 =>
    rintro c b9 ⟨rfl,rfl,a⟩;rw[oz m2] at a |-;exact⟨U,f,U,p,al _,a⟩
   case st3 =>
    rintro x c b9 z tJ ⟨rfl,rfl,a⟩;refine _w<|MP y B N (by lia) (by lia) ?_
    by_cases hl:R ρ (arrOf b9) (lo+x)<R ρ (arrOf b9) (lo+x - 1)
    .simp only[hl,ě,ê];exact _u ⟨U,x,U,rx m1 z,fR tJ,a⟩
    .simp only[hl,č,π,å];exact _u ⟨U,U,a.snoc λ_=>me hl⟩
   case po3 =>
    rintro c b9 ⟨rfl,k,rfl,l,t,a⟩;exact _u<|h k b9 N l t a
theorem l_{xs:_E _I}{z d:_c}(a:z<xs.size)(b:d<=z)(k:_c):R ρ (bubble xs z d) k=if k=z - d then R ρ xs z else if z - d<k/\k<=z then R ρ xs (k - 1) else R ρ xs k:=by
 have e:=JO a d b k;split
 .rename_i h;rw[_n h] at e;exact Kd e
 .rename_i h;rw[_l h] at e;split
  .rename_i g;rw[_n g] at e;exact Kd e
  .rename_i g;rw[_l g] at e;exact Kd e
theorem jM{xs:_E _I}{z d:_c}(a:z<xs.size)(b:d<=z)(k:_c)(c:k<z - d):(bubble xs z d)[k]? = xs[k]?:=by
 have e:=JO a d b k;rw[_l (db c),_l<|by lia] at e;exact e
theorem Z4{ok:_c}{st:_V}{Q:_O->_V->Prop}(D:Ms prog w A E s S (Lr ρ) κ)(H:∀x∈a0.toList,S x)(C:Bs κ p0 a0 lo st)(o:1<=ok)(G:ok<=n)(O:lo+n<=a0.size)(J:Up ρ (arrOf st) lo<|lo+ok)
  (h:∀b9,Bs κ p0 a0 lo b9->Up ρ (arrOf b9) lo (lo+n)->Q _g b9):wpS (_D prog w) A E s (binarySort' lo n ok) Q st:=by
 rw[binarySort'_eq];refine _w (Υ (η (I:=λk c b9=>c=(_o,())/\Bs κ p0 a0 lo b9/\Up ρ (arrOf b9) lo (lo+k))
  (Q:=λc b9=>c=(_o,())/\Bs κ p0 a0 lo b9/\Up ρ (arrOf b9) lo (lo+n)) ?sa ?ea ⟨U,C,by rw[Nat.max_eq_left o];exact J⟩) ?pa)
 case pa =>
  rintro c b9 ⟨rfl,f,b⟩;exact _u<|h b9 f b
 case ea =>
  rintro c b9 ⟨e,f,b⟩;rw[show max (max ok 1) n=n by lia] at b;exact⟨e,f,b⟩
 case sa =>
  rintro k c b9 L M ⟨rfl,f,b⟩;have sz:=f.size;refine _w (Υ (η (I:=λx c a=>a=b9/\∃l r,c=(_o,l,r)/\l<=r/\r<=k/\r - l+x<=k/\(∀i,lo<=i->i<lo+l->R ρ (arrOf b9) i<=R ρ (arrOf b9) (lo+k))/\∀i,lo+r<=i->i<lo+k->R ρ (arrOf b9) (lo+k)<R ρ (arrOf b9) i)
   (Q:=λc a=>a=b9/\∃l r,c=(_o,l,r)/\l<=k/\(∀i,lo<=i->i<lo+l->R ρ (arrOf b9) i<=R ρ (arrOf b9) (lo+k))/\∀i,lo+l<=i->i<lo+k->R ρ (arrOf b9) (lo+k)<R ρ (arrOf b9) i) ?sb ?eb ⟨U,0,k,U,LE _ _,Η _,Η _,λi _ _=>by lia,λi _ _=>by lia⟩) ?pb)
  case eb =>
   rintro c a ⟨rfl,l,r,rfl,z,v,F,m,g⟩;obtain rfl:l=r:=by lia
   exact⟨U,l,l,U,v,m,g⟩
  case sb =>
   rintro x c a _ K ⟨rfl,l,r,rfl,z,v,F,m,g⟩;dsimp only;by_cases p:l ≥ r
   .rw[_n p];obtain rfl:l=r:=Fr z p
    exact _u ⟨U,l,l,U,v,m,g⟩
   .rw[_l p];refine _w<|MP D H f (by lia) (by lia) ?_
    by_cases hl:R ρ (arrOf a) (lo+k)<R ρ (arrOf a) (lo+(l+r) / 2)
    .simp only[hl,ě,ê];refine _u ⟨U,l,(l+r) / 2,U,by lia,by lia,by lia,m,λi u B=>?_⟩;have:=b (lo+(l+r) / 2) i (zor _ _) u B;exact bq hl this
    .simp only[hl,č,π,å];refine _u ⟨U,(l+r) / 2+1,r,U,by lia,v,by lia,λi u B=>?_,g⟩;have:=b i (lo+(l+r) / 2) u (KE B)<|by lia
     exact rx this (me hl)
  case pb =>
   rintro c a ⟨rfl,l,r,rfl,z,m,g⟩;show wpS _ _ _ _ (do moveDown' (lo+k) (lo+l);pure (À (_o,()))) _ _;rw[moveDown'_eq];have d:lo+k<(arrOf a).size:=by lia
   refine _w<|Ï<|_u ⟨U,f.set (bubble_perm _ _ _) λi y=>jM d (XL _ _) i<|by lia,λi j o N P=>?_⟩
   show R ρ (bubble (arrOf a) (lo+k)<|lo+k - (lo+l)) i<=R ρ (bubble (arrOf a) (lo+k)<|lo+k - (lo+l)) j;rw[l_ d (XL _ _),l_ d<|XL _ _,show lo+k - (lo+k - (lo+l))=lo+l by lia];by_cases y:i=lo+l
   .rw[_n y];by_cases q:j=lo+l
    .rw[_n q];exact al _
    .rw[_l q,_n<|by lia];exact fR<|g _ (by lia)<|by lia
   .rw[_l y];by_cases t:lo+l<i/\i<=lo+k
    .rw[_n t,_l<|iA (bq t.1 N),_n<|by lia];exact b _ _ (by lia) (by lia)<|by lia
    .rw[_l t];by_cases q:j=lo+l
     .rw[_n q];exact m _ o<|by lia
     .rw[_l q];split
      .exact b _ _ o (by lia)<|by lia
      .exact b _ _ o N<|by lia
end
end Sm
end PartSortN
section PartSortO
set_option maxHeartbeats 800000
namespace Sm
open PySem PyProof.Rows
local macro_rules | `(tactic| delta mergeAtOpen)=>`(tactic| delta $(Lean.mkCIdent (Lean.mkPrivateNameCore `PySem.Builtin.List.W1All `PySem.Builtin.mergeAt)))
section
variable{w:_P}{ρ:_I->_c}{S:_I->Prop}{κ:É}
theorem gG{σ:Type}{M:z5}{v:σ}{Q:PUnit->σ->Prop}{st:σ}(h:Q ⟨⟩ v):wpS M A E s (set v:yY σ ũ PUnit) Q st:=by
 unfold wpS;show wpAny M A ((MonadStateOf.set v:yY σ ũ PUnit).run st) _ E s;rw[StateT.run_set];exact _v ⟨U,h⟩
theorem Us:∀(r:_a _I)(k n:_c)(a:_E _I),n+k+r.length<=a.size->((r.zipIdx k).foldl (λa (p:_I×_c)=>a.setIfInBounds (n+p.2) p.1) a).toList=a.toList.take (n+k)++r++a.toList.drop (n+k+r.length)
 |[],k,n,a,_=>by simp
 |x::r,k,n,a,h=>by
  rw[bi] at h;rw[Ń,ng,Us r (k+1) n _<|by rw[Array.size_setIfInBounds];lia,Ŕ];have l:=_G (xs:=a);rw[show n+(k+1)=n+k+1 from Fr (Η _) (Η _),ľ<|by rw[As];lia,List.getElem_set_self,List.take_set_of_le<|Η _,List.drop_set_of_lt<|bq (gx _) (zor _ _),õ,show n+k+1+r.length=n+k+(r.length+1) from zab _ _ _];simp
theorem Jd{a:_E _I}{x:_I}(h:x∈(a.extract i j).toList):∃t,i<=t/\t<j/\a[t]? = _b x:=by
 obtain⟨k,b⟩:=ri.mp h;rw[Jr,oi] at b;rw[oj] at b;split at b
 .exact⟨i+k,zor _ _,by assumption,by rw[<-_x];exact b⟩
 .cases b
theorem RM{a:_E _I}{k:_c}{x:_I}(h:(a.extract i j)[k]? = _b x):a[i+k]? = _b x/\i+k<j:=by
 rw[<-_x,Jr,oi,oj] at h;split at h
 .exact⟨by rw[<-_x];exact h,by assumption⟩
 .cases h
theorem Jq{a:_E _I}(d:Up ρ a i j):Cw (Lr ρ) (a.extract i j).toList:=by
 refine ic.mpr λp q e g f=>?_;have c:=RM (a:=a) (i:=i) (j:=j) (k:=p)<|by rw[<-_x];exact af e
 have b:=RM (a:=a) (i:=i) (j:=j) (k:=q)<|by rw[<-_x];exact af g
 have:=d (i+p) (i+q) (zor _ _) (fR (Nat.add_lt_add_left f _)) b.2;rw[Ju c.1,Ju b.1] at this;exact _t<|Tm this
theorem Tv{α:Type}{x y z:α}{r:_a α}:∀l:_a α,((l++x::y::r).set l.length z).eraseIdx (l.length+1)=l++z::r
 |[]=>rfl
 |a::l=>congrArg (a :: ·)<|Tv l
theorem Sw{l r:_a (_c×_c×_c)}{c d pw a nb qw:_c}{st:_V}{Q:_O->_V->Prop}(Y:Ms prog w A E s S (Lr ρ) κ)(hS:∀x∈(arrOf st).toList,S x)(L:kindOf st=κ)(hf:failedOf st=_o)
  (hp:pendingOf st=(l++(c,d,pw)::(a,nb,qw)::r).toArray)(e0:a=c+d)(AS:1<=d)(aw:1<=nb)(hz:a+nb<=(arrOf st).size)(G:Up ρ (arrOf st) c a)(F:Up ρ (arrOf st) a<|a+nb)
  (h:∀xs g,xs.Perm (arrOf st)->(∀i,i<c \/ a+nb<=i->xs[i]? = (arrOf st)[i]?)->Up ρ xs c (a+nb)->Q _g (SortSt.mk' κ xs (l++(c,d+nb,pw)::r).toArray g _o)):wpS (_D prog w) A E s (mergeAt' l.length) Q st:=by
 delta mergeAt';delta mergeAtOpen;dsimp only[Jk,JV,RW,Ru];refine _w<|Ě ?_
 have g1:(pendingOf st)[l.length]? = _b (c,d,pw):=by rw[hp];simp
 have g2:(pendingOf st)[l.length+1]? = _b (a,nb,qw):=by rw[hp];simp
 rw[g1,g2];dsimp only;refine _w<|gG ?_
 have ep:((pendingOf st).setIfInBounds l.length (c,d+nb,pw)).eraseIdxIfInBounds (l.length+1)=(l++(c,d+nb,pw)::r).toArray:=by
  rw[hp];apply Ē.mp;have hl:l.length+1<((l++(c,d,pw)::(a,nb,qw)::r).toArray.setIfInBounds l.length (c,d+nb,pw)).size:=by simp
  unfold Array.eraseIdxIfInBounds;rw[dif_pos hl,Array.toList_eraseIdx,Ŕ];exact Tv l
 rw[ep];have u:∀(i:_c) x,(arrOf st)[i]? = _b x->S x:=λi x e=>hS x<|ai<|by rw[_x];exact e
 obtain⟨xb,qE⟩:∃x,(arrOf st)[a]? = _b x:=⟨_,_y<|by lia⟩;have rb:=Ju (ρ:=ρ) qE;rw[Ê,qE];refine _w<|_u<|_w<|Kf (arr:=arrOf st) (b:=λi=>!decide (ρ xb<R ρ (arrOf st) (c+i))) Y L (by lia) (by lia) u (u _ _ qE) ?_ ?_ ?_
 .intro i x D f;rw[Ju f];rfl
 .intro i j K I;have:=G (c+i) (c+j) (by lia) (by lia)<|by lia
  simp;lia
 intro k PV kt kf;have W:∀i,c<=i->i<c+k->R ρ (arrOf st) i<=ρ xb:=λi n o=>by
  have:=kt (i - c)<|by lia
  rw[show c+(i - c)=i by lia] at this;simpa using this
 have ab:∀i,c+k<=i->i<a->ρ xb<R ρ (arrOf st) i:=λi n o=>by
  have:=kf (i - c) (by lia)<|by lia
  rw[show c+(i - c)=i by lia] at this;simpa using this
 clear kt kf;dsimp only;by_cases e1:(d - k == 0)=_g
 .rw[_n e1];rw[_F] at e1;have:=h (arrOf st) (gallopOf st) (ķ _) (λ_ _=>rfl) λi j n o v=>by
   by_cases D:i<a
   .by_cases I:j<a
    .exact G i j n o I
    .have a1:=W i n<|by lia
     have a2:=F a j (al _) (by lia) v;lia
   .exact F i j (by lia) o v
  refine _u ?_;rw[<-L,<-hf] at this;exact this
 rw[_l e1];rw[_F] at e1;obtain⟨xa,qr⟩:∃x,(arrOf st)[c+k+(d - k) - 1]? = _b x:=⟨_,_y<|by lia⟩;have ra:R ρ (arrOf st) (a - 1)=ρ xa:=by rw[show a - 1=c+k+(d - k) - 1 by lia];exact Ju qr
 rw[Ê,qr];refine _w<|_u<|_w<|Kf (arr:=arrOf st) (b:=λi=>decide (R ρ (arrOf st) (a+i)<ρ xa)) Y L (by lia) (by lia) u (u _ _ qr) ?_ ?_ ?_
 .intro i x D f;rw[Ju f];rfl
 .intro i j K I;have:=F (a+i) (a+j) (by lia) (by lia)<|by lia
  simp;lia
 intro m as mt mf;have an:∀i,a<=i->i<a+m->R ρ (arrOf st) i<ρ xa:=λi n o=>by
  have:=mt (i - a)<|by lia
  rw[show a+(i - a)=i by lia] at this;simpa using this
 have T:∀i,a+m<=i->i<a+nb->ρ xa<=R ρ (arrOf st) i:=λi n o=>by
  have:=mf (i - a) (by lia)<|by lia
  rw[show a+(i - a)=i by lia] at this;simpa using this
 clear mt mf;dsimp only;by_cases e2:(m == 0)=_g
 .rw[_n e2];rw[_F] at e2;have:=h (arrOf st) (gallopOf st) (ķ _) (λ_ _=>rfl) λi j n o v=>by
   by_cases D:i<a
   .by_cases I:j<a
    .exact G i j n o I
    .have a1:=G i (a - 1) n (by lia)<|by lia
     have a2:=T j (by lia) v;lia
   .exact F i j (by lia) o v
  refine _u ?_;rw[<-L,<-hf] at this;exact this
 rw[_l e2];rw[_F] at e2;have O:Up ρ (arrOf st) (c+k) a:=λi j n o v=>G i j (by lia) o v;have X:Up ρ (arrOf st) a<|a+m:=λi j n o v=>F i j n o<|by lia
 have z1:((arrOf st).extract (c+k) a).size=d - k:=by rw[vr];lia
 have z2:((arrOf st).extract a<|a+m).size=m:=by rw[vr];lia
 have mr:∀M,M=Ls ((arrOf st).extract (c+k) a) ((arrOf st).extract a<|a+m) \/ M=Ko ((arrOf st).extract (c+k) a) ((arrOf st).extract a<|a+m)->∀Q:_E _I->_V->Prop,(∀y g,Good (Lr ρ) ((arrOf st).extract (c+k) a).toList ((arrOf st).extract a<|a+m).toList y.toList->Q y (Ib (setPending st (l++(c,d+nb,pw)::r).toArray) g))->wpS (_D prog w) A E s M Q (setPending st (l++(c,d+nb,pw)::r).toArray):=by
  intro M hM Q q;have s1:∀x∈((arrOf st).extract (c+k) a).toList,S x:=λx f=>by
   obtain⟨t,_,_,e⟩:=Jd f;exact u t x e
  have s2:∀x∈((arrOf st).extract a<|a+m).toList,S x:=λx f=>by
   obtain⟨t,_,_,e⟩:=Jd f;exact u t x e
  have q1:∀x∈((arrOf st).extract (c+k) a).toList,∀y,((arrOf st).extract a<|a+m)[0]? = _b y->Lr ρ x y=false:=λx f y hy=>by
   obtain⟨t,B,C,e⟩:=Jd f;have P:=(RM hy).1;rw[HE,qE] at P
   cases P;have:=ab t B C;rw[Ju e] at this;exact _t<|by lia
  have q2:∀x,((arrOf st).extract (c+k) a)[((arrOf st).extract (c+k) a).size - 1]? = _b x->∀y∈((arrOf st).extract a<|a+m).toList,Lr ρ x y=false:=λx f y hy=>by
   obtain⟨t,B,C,e⟩:=Jd hy;have P:=(RM f).1;rw[z1,show c+k+(d - k - 1)=c+k+(d - k) - 1 by lia,qr] at P
   cases P;have:=an t B C;rw[Ju e] at this;exact _t<|by lia
  rcases hM with rfl | rfl
  .exact Uu Zr Y L (by lia) (by lia) s1 s2 (Jq O) (Jq X) q1 q2 q
  .exact U0 Zr Y L (by lia) (by lia) s1 s2 (Jq O) (Jq X) q1 q2 q
 apply two2<|d - k<=m
 .intro hc rest;rw[_n hc];refine _w<|mr _ (.inl U) _ λy g N=>?_
  revert N;exact rest y g
 .intro hc rest;rw[_l hc];exact _w<|mr _ (.inr U) _ rest
 clear mr;intro y g N;refine _w<|Ï<|_w<|Ě ?_
 have V:y.toList.length=d - k+m:=by rw[N.1.length_eq,am,_G,_G,z1,z2]
 have pb:=Us y.toList 0 (c+k) (arrOf st)<|by rw[V];lia
 rw[V,HE] at pb;have lT:=_G (xs:=arrOf st);have eT:(arrOf st).toList=(arrOf st).toList.take (c+k)++(((arrOf st).extract (c+k) a).toList++((arrOf st).extract a<|a+m).toList)++(arrOf st).toList.drop (c+k+(d - k+m)):=by
  have d1:((arrOf st).toList.take a).drop (c+k)++((arrOf st).toList.take<|a+m).drop a=((arrOf st).toList.drop<|c+k).take (d - k+m):=by
   rw[ř,ř,show a+m - a=m by lia,show a - (c+k)=d - k by lia,List.take_add,BU,show c+k+(d - k)=a by lia]
  have d2:(arrOf st).toList.drop (c+k+(d - k+m))=((arrOf st).toList.drop<|c+k).drop (d - k+m):=by rw[BU]
  rw[Jr,Jr,d1,d2,dt,eW,eW]
 have f:∀xs:_E _I,xs.toList=(arrOf st).toList.take (c+k)++y.toList++(arrOf st).toList.drop (c+k+(d - k+m))->Q _g (SortSt.mk' κ xs (l++(c,d+nb,pw)::r).toArray g _o):=λxs ex=>by
  have lk:((arrOf st).toList.take<|c+k).length=c+k:=by rw[cm,lT];lia
  have p:∀i,i<c+k \/ a+m<=i->xs[i]? = (arrOf st)[i]?:=λi D=>by
   rw[<-_x,<-_x,ex];rcases D with D | D
   .rw[dt,fb<|by lia,oj,_n D]
   .rw[bX (by rw[am,lk,V];lia),am,lk,V,oi];congr 1;lia
  have J:∀i,c+k<=i->i<a+m->∃x,xs[i]? = _b x/\y.toList[i - (c+k)]? = _b x:=λi n o=>by
   have e:xs[i]? = y.toList[i - (c+k)]?:=by
    rw[<-_x,ex,fb<|by rw[am,lk,V];lia,bX<|by lia,lk]
   have hl:i - (c+k)<y.toList.length:=by lia
   exact⟨_,e.trans<|af hl,af hl⟩
  have val:∀x∈y.toList,(∃t,c+k<=t/\t<a/\R ρ (arrOf st) t=ρ x) \/ ∃t,a<=t/\t<a+m/\R ρ (arrOf st) t=ρ x:=λx f=>by
   rcases aT.mp (N.1.mem_iff.mp f) with f | f
   .obtain⟨t,B,C,e⟩:=Jd f;exact .inl ⟨t,B,C,Ju e⟩
   .obtain⟨t,B,C,e⟩:=Jd f;exact .inr ⟨t,B,C,Ju e⟩
  refine h xs g ?_ (λi D=>p i<|by lia) λi j n o v=>?_
  .refine Ι.mpr ?_;have pp:=((N.1.append_left<|(arrOf st).toList.take<|c+k).append_right<|(arrOf st).toList.drop<|c+k+(d - k+m));rw[<-eT,<-ex] at pp;exact pp
  .by_cases D:i<c+k
   .rw[Kd (p i<|.inl D)];have a1:=W i n D;by_cases I:j<c+k
    .rw[Kd (p j<|.inl I)];exact G i j n o<|by lia
    .by_cases H:j<a+m
     .obtain⟨x,HM,Z⟩:=J j (by lia) H;rw[Ju HM];rcases val x (ai Z) with⟨t,B,C,t3⟩ | ⟨t,B,C,t3⟩
      .have:=G i t n (by lia) C;lia
      .have:=F a t (al _) B<|by lia
       lia
     .rw[Kd (p j<|.inr<|by lia)];have:=F a j (al _) (by lia) v;lia
   .by_cases ap:i<a+m
    .obtain⟨x,HM,Z⟩:=J i (by lia) ap;rw[Ju HM];by_cases H:j<a+m
     .obtain⟨z,Nw,ac⟩:=J j (by lia) H;rw[Ju Nw];rcases nX i j with K | K
      .have:=ē<|N.2.at (show i - (c+k)<j - (c+k) by lia) Z ac
       lia
      .obtain rfl:i=j:=by lia
       rw[HM] at Nw;cases Nw;exact al _
     .rw[Kd (p j<|.inr<|by lia)];rcases val x (ai Z) with⟨t,B,C,t3⟩ | ⟨t,B,C,t3⟩
      .have a2:=G t (a - 1) (by lia) (by lia)<|by lia
       have a3:=T j (by lia) v;lia
      .have:=F t j B (by lia) v;lia
    .rw[Kd (p i<|.inr<|by lia),Kd<|p j<|.inr<|by lia];exact F i j (by lia) o v
 have fin:=f _ pb;refine _u ?_;have en:(failedOf st).isNone=true:=by rw[hf];rfl
 show Q (failedOf st).isNone _;rw[en];rw[<-L,<-hf] at fin;exact fin
end
end Sm
end PartSortO
section PartSortP
set_option maxHeartbeats 800000
namespace Sm
open PySem PyProof.Rows
section
variable{w:_P}{ρ:_I->_c}{S:_I->Prop}{κ:É}
def J6(ρ:_I->_c)(xs:_E _I):_c->_a (_c×_c×_c)->_c->Prop
 |a,[],b=>a=b
 |a,(p,n,_)::r,b=>p=a/\1<=n/\Up ρ xs a (a+n)/\J6 ρ xs (a+n) r b
theorem J6.le{xs:_E _I}:∀{a b:_c}(ps:_a<|_c × _c × _c),J6 ρ xs a ps b->a+ps.length<=b
 |a,b,[],h=>Ĝ h
 |a,b,(p,n,q)::r,h=>by
  have:=J6.le r h.2.2.2;have:=h.2.1;rw[bi];lia
theorem J6.congr{xs ys:_E _I}:∀{a b:_c}(ps:_a<|_c × _c × _c),(∀i,a<=i->i<b->ys[i]? = xs[i]?)->J6 ρ xs a ps b->J6 ρ ys a ps b
 |a,b,[],_,h=>h
 |a,b,(p,n,q)::r,e,h=>by
  have l:=J6.le r h.2.2.2;refine⟨h.1,h.2.1,λi j c d f=>?_,J6.congr r (λi c d=>e i (Ty c) d) h.2.2.2⟩;rw[Kd (e i c<|cc d (bq f (Ty l))),Kd<|e j (rx c d)<|bq f (Ty l)];exact h.2.2.1 i j c d f
theorem J6.split{xs:_E _I}:∀{a b:_c}(l r:_a<|_c × _c × _c),J6 ρ xs a (l++r) b->∃c,J6 ρ xs a l c/\J6 ρ xs c r b
 |a,b,[],r,h=>⟨a,U,h⟩
 |a,b,(p,n,q)::l,r,h=>by
  obtain⟨c,d,e⟩:=J6.split l r h.2.2.2;exact⟨c,⟨h.1,h.2.1,h.2.2.1,d⟩,e⟩
theorem J6.join{xs:_E _I}:∀{a b c:_c}(l r:_a<|_c × _c × _c),J6 ρ xs a l c->J6 ρ xs c r b->J6 ρ xs a (l++r) b
 |a,b,c,[],r,h,g=>by cases h;exact g
 |a,b,c,(p,n,q)::l,r,h,g=>⟨h.1,h.2.1,h.2.2.1,J6.join l r h.2.2.2 g⟩
theorem J6.modify{xs:_E _I}{f:_c×_c×_c->_c×_c×_c}(g:∀x,(f x).1=x.1/\(f x).2.1=x.2.1):∀{a b:_c}(ps:_a<|_c × _c × _c)(i:_c),J6 ρ xs a ps b->J6 ρ xs a (ps.modify i f) b
 |a,b,[],i,h=>by rw[List.modify_nil];exact h
 |a,b,(p,n,q)::r,0,h=>by
  rw[List.modify_zero_cons];have e:=g (p,n,q);revert e;generalize f (p,n,q)=y;obtain⟨k,j,l⟩:=y;rintro⟨c,d⟩;have c:k=p:=c;have d:j=n:=d;subst c d;exact h
 |a,b,(p,n,q)::r,i+1,h=>by
  rw[List.modify_succ_cons];exact⟨h.1,h.2.1,h.2.2.1,J6.modify g r i h.2.2.2⟩
structure Gs(ρ:_I->_c)(κ:É)(a0:_E _I)(ps:_a<|_c×_c×_c)(hi:_c)(st:_V):Prop where
 kind:kindOf st=κ
 pend:pendingOf st=ps.toArray
 fail:failedOf st=_o
 perm:(arrOf st).Perm a0
 adj:J6 ρ (arrOf st) 0 ps hi
theorem Gs.size{a:_E _I}{ps:_a (_c×_c×_c)}{hi:_c}{st:_V}(h:Gs ρ κ a ps hi st):(arrOf st).size=a.size:=h.perm.size_eq
theorem Gs.push{a:_E _I}{ps:_a (_c×_c×_c)}{lo:_c}{st:_V}(h:Gs ρ κ a ps lo st)(u:Up ρ (arrOf st) lo<|lo+n)(b:1<=n):Gs ρ κ a (ps++[(lo,n,0)]) (lo+n) (setPending st<|(pendingOf st).push (lo,n,0)) :=
 ⟨h.kind,by show (pendingOf st).push _=_;rw[h.pend,List.push_toArray],h.fail,h.perm,J6.join ps _ h.adj ⟨U,b,u,U⟩⟩
theorem Gs.mod{a:_E _I}{ps:_a (_c×_c×_c)}{lo pw:_c}{st:_V}(h:Gs ρ κ a ps lo st):Gs ρ κ a (ps.modify i λx=>(x.1,x.2.1,pw)) lo (setPending st<|(pendingOf st).modify i λx=>(x.1,x.2.1,pw)) :=
 ⟨h.kind,by
  show (pendingOf st).modify i (λx=>(x.1,x.2.1,pw))=_;rw[h.pend];apply Ē.mp;rw[Array.toList_modify],h.fail,h.perm,J6.modify (f:=λx:_c×_c×_c=>(x.1,x.2.1,pw)) (λ_=>⟨U,U⟩) ps i h.adj⟩
theorem Nt{b:_E _I}{ps:_a (_c×_c×_c)}{hi:_c}{st:_V}{Q:_O->_V->Prop}(m:Ms prog w A E s S (Lr ρ) κ)(q:∀x∈b.toList,S x)(G:Gs ρ κ b ps hi st)(K:hi<=b.size)(v:i+1<ps.length)
  (h:∀b9 HP,Gs ρ κ b HP hi b9->HP.length+1=ps.length->(∀i,hi<=i->(arrOf b9)[i]? = (arrOf st)[i]?)->Q _g b9):wpS (_D prog w) A E s (mergeAt' i) Q st:=by
 have e:ps=ps.take i++ps.drop i:=(eW ..).symm;have f:(ps.take i).length=i:=by rw[cm];lia
 obtain⟨⟨I,H,pw⟩,t,d⟩:∃x t,ps.drop i=x::t:=by
  cases hd:ps.drop i with
  |nil=>have:=congrArg Ε hd;rw[iS,kF] at this;lia
  |cons x t=>exact⟨x,t,U⟩
 obtain⟨⟨L,nb,D⟩,r,rfl⟩:∃x r,t=x::r:=by
  cases t with
  |nil=>have:=congrArg Ε d;rw[iS,bi,kF] at this;lia
  |cons x r=>exact⟨x,r,U⟩
 rw[d] at e;generalize ps.take i=l at e f;subst e f;clear d;obtain⟨c,u,rfl,C,z,rfl,y,B,j⟩:=J6.split l _ G.adj;have J:=J6.le r j;refine Sw m (λx o=>q x<|(Ι.mp G.perm).mem_iff.mp o) G.kind G.fail G.pend U C y (by rw[G.size];lia) z B λF g n a up=>?_;refine h _ _ ⟨U,U,U,n.trans G.perm,?_⟩ ?_ λi hi=>a i<|.inr<|by lia
 .refine J6.join l _ (J6.congr l (λi _ p=>a i<|.inl p) u) ⟨U,rx y (LE _ _),by rw[<-oq];exact up,?_⟩;rw[<-oq];exact J6.congr r (λi k _=>a i<|.inr k) j
 .rw[am,am];rfl
theorem Tz{d:_E _I}{st:_V}{Q:Cn->_V->Prop}(K:Ms prog w A E s S (Lr ρ) κ)(R:∀x∈d.toList,S x)(hk:kindOf st=κ)(hp:pendingOf st = #[])(Z:failedOf st=_o)(ha:arrOf st=d)
  (h:∀b9,(arrOf b9).Perm d->failedOf b9=_o->Up ρ (arrOf b9) 0 d.size->Q () b9):wpS (_D prog w) A E s sortRuns' Q st:=by
 rw[sortRuns'_eq];refine _w<|Ě ?_
 dsimp only;rw[ha];generalize minRun' d.size d.size 0=L;refine _w (Υ (η (I:=λx c b9=>∃lo a,c=(_o,lo)/\Gs ρ κ d a lo b9/\x<=lo/\lo<=d.size)
  (Q:=λc b9=>∃a,c=(_o,d.size)/\Gs ρ κ d a d.size b9) ?sa ?ea ⟨0,[],U,⟨hk,hp,Z,by rw[ha],U⟩,al _,eK _⟩) ?pa)
 case ea =>
  rintro c b9 ⟨lo,a,rfl,G,g,J⟩;obtain rfl:lo=d.size:=by lia
  exact⟨a,U,G⟩
 case pa =>
  rintro c b9 ⟨a,rfl,G⟩;dsimp only;have l0:=J6.le a G.adj;refine _w<|Υ (η (I:=λx c b9=>∃a,c=(_o,())/\Gs ρ κ d a d.size b9/\(a.length<=1 \/ a.length+x<=d.size)) (Q:=λc b9=>∃a,c=(_o,())/\Gs ρ κ d a d.size b9/\a.length<=1) ?sb ?eb ⟨a,U,G,.inr<|by lia⟩) ?pb
  case eb =>
   rintro c b9 ⟨a,rfl,G,g⟩;exact⟨a,U,G,by lia⟩
  case pb =>
   rintro c b9 ⟨a,rfl,G,g⟩;refine _u<|h b9 G.perm G.fail ?_
   have ad:=G.adj
   match a,g,ad with
   |[],_,ad=>exact λi j g J h3=>by have:0=d.size:=ad;lia
   |[(p,n,q)],_,ad =>
    obtain⟨rfl,z,u,e⟩:=ad;have e:0+n=d.size:=e;rw[e] at u;exact u
   |_::_::_,g,_=>simp at g
  case sb =>
   rintro x c b9 _ V ⟨a,rfl,G,g⟩;refine _w<|Ě ?_
   have sz:(pendingOf b9).size=a.length:=by rw[G.pend,bo]
   rw[sz];by_cases v:a.length<=1
   .rw[_n v];exact _u ⟨a,U,G,v⟩
   .rw[_l v];refine _w<|Nt K R G (al _) ?ix λl HP G' l' _=>?_
    case ix =>
     generalize Option.any _ _=b
     cases b
     .rw[_l eI];lia
     .rw[_n U];lia
    exact _u ⟨HP,U,G',by lia⟩
 case sa =>
  rintro x c b9 _ V ⟨lo,a,rfl,G,g,J⟩;dsimp only;by_cases v:lo ≥ d.size
  .rw[_n v];obtain rfl:lo=d.size:=Fr J v
   exact _u ⟨a,U,G⟩
  rw[_l v];have B0:Bs κ a.toArray (arrOf b9) lo b9:=⟨G.kind,G.pend,G.fail,ķ _,λ_ _=>rfl⟩;have sz:=G.size;have D:∀x∈(arrOf b9).toList,S x:=λx V=>R x<|(Ι.mp G.perm).mem_iff.mp V
  refine _w<|Vj K D B0 (by lia) (by lia) λm l O X m2 N=>?_
  dsimp only;have nx:∀n f,Bs κ a.toArray (arrOf b9) lo f->Up ρ (arrOf f) lo (lo+n)->Gs ρ κ d a lo f:=λn f B u=>⟨B.kind,B.pend,B.fail,B.perm.trans G.perm,J6.congr a (λi _ J=>B.pre i J) G.adj⟩;by_cases W:m<L
  case' pos =>
   rw[_n W];refine _w<|ĸ<|Ρ ⟨U,?_⟩
   refine _w<|Z4 K D O X (by lia) (by lia) N λf B2 k=>?_
   simp only[Bool.not_true,π,å];have z:1<=min (d.size - lo) L:=by lia
   have C:lo+min (d.size - lo) L<=d.size:=by lia
   have M:=nx _ f B2 k;generalize min (d.size - lo) L=n at k z C |-
  case' neg =>
   rw[_l W];have M:=nx _ l O N;have k:=N;have z:=X;have C:lo+m<=d.size:=by lia
   clear N X m2 W;generalize m=n at k z C |-;clear O;generalize l=f at M k |-
  all_goals
   refine _w<|Ě ?_
   generalize (pendingOf f).back? = bk
   match bk with
   |none=>exact _w<|Ï<|_u ⟨_,_,U,M.push k z,zai g z,C⟩
   |some (s1,P,q1) =>
    dsimp only;generalize power' d.size (2 * s1+P) (2 * s1+P+P+n) d.size=pw;refine _w<|Υ (η (I:=λx c b9=>c=(_o,())/\∃a,Gs ρ κ d a lo b9/\Up ρ (arrOf b9) lo (lo+n)) (Q:=λc b9=>c=(_o,())/\∃a,Gs ρ κ d a lo b9/\Up ρ (arrOf b9) lo (lo+n)) ?sc ?ec ⟨U,a,M,k⟩) ?pc
    case ec=>exact λc b9 h=>h
    case pc =>
     rintro c Y ⟨rfl,r,o,H⟩;exact _w<|Ï<|_w<|Ï<|_u ⟨_,_,U,Gs.push o.mod H z,zai g z,C⟩
    case sc =>
     rintro t c Y _ ht ⟨rfl,r,o,H⟩;refine _w<|Ě ?_
     have T:(pendingOf Y).size=r.length:=by rw[o.pend,bo]
     rw[T];by_cases hl:r.length > 1
     .rw[_n hl];obtain⟨⟨f1,f2,EO⟩,Z⟩:∃y,(pendingOf Y)[r.length - 2]? = _b y:=⟨_,_y<|by lia⟩;rw[Z];dsimp only;by_cases ho:EO<=pw
      .rw[_n ho];exact _u ⟨U,r,o,H⟩
      .rw[_l ho];refine _w<|Nt K R o J (by lia) λyY YO G5 l5 F=>?_
       refine _u ⟨U,YO,G5,λi j i1 i2 i3=>?_⟩;rw[Kd (F i i1),Kd<|F j<|rx i1 i2];exact H i j i1 i2 i3
     .rw[_l hl];exact _u ⟨U,r,o,H⟩
end
end Sm
end PartSortP
namespace Sq
open PySem PySem.W PyProof.Rows
structure Ord(lt:_c->_c->_O):Prop where
 irr:∀a,lt a a=_p
 asy:∀a b,lt a b=_g->lt b a=_p
 tr:∀a b c,lt b a=_p->lt c b=_p->lt c a=_p
def run{α:Type}(lt:_c->_c->_O):KasT α->α
 |.ret a=>a
 |.ask i j k=>run lt<|k<|lt i j
def K(p:_E _c)(i:_c):Nat:=(p[i]?).getD 0
section
variable{lt:_c->_c->_O}(O:Ord lt)
include O
def Up(lt:_c->_c->_O)(p:_E _c)(n:_c):Prop:=∀i j,i<=j->j<n->lt (K p j) (K p i)=_p
def Dn(lt:_c->_c->_O)(p:_E _c)(n:_c):Prop:=∀i j,i<=j->j<n->lt (K p i) (K p j)=_p
structure De(lt:_c->_c->_O)(p:_E _c)(n q:_c):Prop where
 dn:Dn lt p n
 hq:q+1<=n
 eq:∀i,n - (q+1)<=i->i<n->lt (K p i) (K p<|n - 1)=_p/\lt (K p<|n - 1) (K p i)=_p
end
end Sq
namespace Sq
open PySem PySem.W PyProof.Rows
abbrev T3:=_j×_j×_j
end Sq
namespace Sq
open PySem PySem.W PySem.Calls PyProof.Rows
section
variable{w:_P}
theorem ju(vs:_a _k):(_L vs.length).map (λi=>vs.getD i _N)=vs:=by
 refine ń (by simp) λi b a=>?_;simp[_X,a]
end
end Sq
namespace Sq
open PySem PySem.W PySem.Calls PyProof.Rows
abbrev T2:=_j×_j
end Sq
section PartSortX
set_option maxHeartbeats 800000
namespace Sx
open PySem PySem.W PySem.Calls PyProof.Rows Sm Sq
section
variable{β:Type}{blt:β->β->_O}
structure Or(blt:β->β->_O):Prop where
 irr:∀a,blt a a=_p
 asy:∀a b,blt a b=_g->blt b a=_p
 tr:∀a b c,blt b a=_p->blt c b=_p->blt c a=_p
theorem VL{p q:β->_O}(h:∀z,p z=_g->q z=_g):∀l:_a β,l.countP p<=l.countP q
 |[]=>al _
 |z::l=>by
  have:=VL h l;rw[mm,mm]
  cases hp:p z with
  |false=>simp;exact rx this (zor _ _)
  |true=>rw[h z hp];simp;exact this
theorem aV{p q:β->_O}(h:∀z,p z=_g->q z=_g){a:β}(c:q a=_g)(d:p a=_p):∀l:_a β,a∈l->l.countP p<l.countP q
 |z::l,b=>by
  rw[mm,mm];rcases ce.mp b with rfl | b
  .have:=VL h l;rw[c,d];simp;exact zaa this
  .have:=aV h c d l b
   cases hp:p z with
   |false=>simp;exact bq this (zor _ _)
   |true=>rw[h z hp];simp;exact this
def rk(blt:β->β->_O)(ts:_a β)(c:β):Nat:=ts.countP λz=>blt z c
theorem oG(O:Or blt){ts:_a β}{a b:β}(d:a∈ts):decide (rk blt ts a<rk blt ts b)=blt a b:=by
 cases h:blt a b with
 |true =>
  refine _i<|aV (p:=λz=>blt z a) (q:=λz=>blt z b) (λz c=>?_) h (O.irr a) ts d
  cases hq:blt z b with
  |true=>rfl
  |false=>rw[O.tr a b z (O.asy a b h) hq] at c;cases c
 |false =>
  refine _t<|Nat.not_lt.mpr<|VL (p:=λz=>blt z b) (q:=λz=>blt z a) (λz c=>?_) ts
  cases hq:blt z a with
  |true=>rfl
  |false=>rw[O.tr b a z h hq] at c;cases c
theorem R7{α γ:Type}{f:α->γ}:∀(l:_a γ)(r:_a α),l.Perm (r.map f)->∃ix:_a α,ix.Perm r/\l=ix.map f
 |[],r,h=>by
  have:=h.symm.eq_nil;rw[nE] at this;subst this;exact⟨[],.refl _,U⟩
 |x::l,r,h=>by
  obtain⟨i,d,rfl⟩:=ay.mp<|h.mem_iff.mp<|br ..;obtain⟨b,a,rfl⟩:=List.append_of_mem d;have c:(f i::l).Perm<|f i::(b++a).map f:=h.trans<|by rw[<-ee];exact zv.map f
  obtain⟨ix,p,e⟩:=R7 l (b++a)<|List.perm_cons _ |>.mp c;exact⟨i::ix,(p.cons i).trans zv.symm,by rw[e];rfl⟩
end
section
variable{w:_P}{β:Type}{blt:β->β->_O}{d:β}
theorem jW{κ:É}{ks vs:_a _k}{ts:_a β}{Q:Cn×_V->_C->Prop}(O:Or blt)(P:ks.length=vs.length)(hl:ks.length=ts.length)(fn:∀(i j:_c) v a b,ks[i]? = _b v->ks[j]? = _b v->ts[i]? = _b a->ts[j]? = _b b->a=b)
  (Db:∀(i j:_c) u v a b,ks[i]? = _b u->ks[j]? = _b v->ts[i]? = _b a->ts[j]? = _b b->∀C:_O->_C->Prop,C (blt a b) s->wpAny (_D prog w) A (keyLt' κ u v) C (λ_ _=>Α) s)
  (h:∀(st:_V)(f:_a _c),(arrOf st).map (·.2)=(f.map λi=>vs.getD i _N).toArray->failedOf st=_o->f.Perm (_L vs.length)->f.Pairwise (λi j=>blt (ts.getD j d) (ts.getD i d)=_p)->Q ((),st) s) :
  wpAny (_D prog w) A (sortRuns'.run<|SortSt.mk' κ (ks.toArray.zip vs.toArray) #[] 7 _o) Q E s:=by
 have H:∀v,(∃i:_c,ks[i]? = _b v)->∃c,∀(i:_c) a,ks[i]? = _b v->ts[i]? = _b a->c=a:=λv ⟨i,l⟩=>by
  have W:=(ag.mp l).1;exact⟨ts[i]'(wT W hl),λj a m r=>fn i j v _ _ l m (af<|wT W hl) r⟩
 obtain⟨val,D⟩:∃val:_k->β,∀(i:_c) v a,ks[i]? = _b v->ts[i]? = _b a->val v=a:=by
  refine⟨λv=>by
   classical
   exact if g:∃i:_c,ks[i]? = _b v then Classical.choose (H v g) else d,λi v a B r=>?_⟩
  dsimp only;rw[dif_pos ⟨i,B⟩];exact Classical.choose_spec (H v ⟨i,B⟩) i a B r
 have za:∀i:_c,(ks.toArray.zip vs.toArray).toList[i]? = (ks.zip vs)[i]?:=λi=>by rw[Ĕ]
 have S:Ms prog w A E s (λx=>∃i:_c,ks[i]? = _b x.1) (Lr λx=>rk blt ts<|val x.1) κ:=by
  rintro x y st Q ⟨i,l⟩ ⟨j,m⟩ kd q;have W:=(ag.mp l).1;have lj:=(ag.mp m).1;have L:ts[i]? = _b (ts[i]'(wT W hl)):=af<|wT W hl
  have G:ts[j]? = _b (ts[j]'(wT lj hl)):=af<|wT lj hl
  rw[lt'_eq];refine _w<|Ě ?_
  rw[kd];refine _w<|ĸ<|sT<|ζ (Db i j _ _ _ _ l m L G (λb F=>F=s/\b=blt (ts[i]'(wT W hl)) (ts[j]'(wT lj hl))) ⟨U,U⟩) (λb F z=>?_) λ_ _ z=>z.elim
  obtain⟨rfl,rfl⟩:=z;refine⟨U,_u ?_⟩;have e:=oG O (b:=ts[j]'(wT lj hl)) (show ts[i]'(wT W hl)∈ts from List.getElem_mem _);rw[<-e,<-D i _ _ l L,<-D j _ _ m G];exact q
 have hS:∀x∈(ks.toArray.zip vs.toArray).toList,∃i:_c,ks[i]? = _b x.1:=λx K=>by
  rw[Ĕ] at K;have:=(ĝ (show (x.1,x.2)∈ks.zip vs from K)).1;exact ri.mp this
 refine ζ (Tz (Q:=λ_ k=>∃f:_a _c,(arrOf k).map (·.2)=(f.map λi=>vs.getD i _N).toArray/\failedOf k=_o/\f.Perm (_L vs.length)/\f.Pairwise (λi j=>blt (ts.getD j d) (ts.getD i d)=_p)) S hS U U U U λk V ff up=>?_) ?_ λ_ _ z=>z
 .have el:(ks.toArray.zip vs.toArray).toList=(_L vs.length).map λi=>(ks.getD i _N,vs.getD i _N):=by
   rw[Ĕ];refine ń (by simp[P]) λi I h2=>?_;have a1:i<ks.length:=by simp at I;lia
   have a2:i<vs.length:=by simp at I;exact P▸a1
   simp[_X,a1,a2]
  have J:=Ι.mp V;rw[el] at J;obtain⟨f,o,N⟩:=R7 _ _ J;refine⟨f,?_,ff,o,?_⟩
  .apply Ē.mp;rw[y2,N,bb];rfl
  .rw[ic];intro p q n M ab;have zx:(ks.toArray.zip vs.toArray).size=vs.length:=by rw[AX,bo,bo,P,rq]
   have lx:f.length=vs.length:=by rw[o.length_eq,fT]
   have u:=up p q (eK _) (fR ab)<|by lia
   have g:∀p (n:p<f.length),R (λx=>rk blt ts<|val x.1) (arrOf k) p=rk blt ts (ts.getD f[p] d):=λp n=>by
    have t:(arrOf k)[p]? = _b (ks.getD f[p] _N,vs.getD f[p] _N):=by
     rw[<-_x,N,ar,af n];rfl
    have X:f[p]<vs.length:=fF.mp<|o.mem_iff.mp<|eJ n
    have T:ts[f[p]]? = _b (ts.getD f[p] d):=by
     have:f[p]<ts.length:=by lia
     simp[_X,this]
    have Y:ks[f[p]]? = _b (ks.getD f[p] _N):=by
     have:f[p]<ks.length:=wT X P.symm
     simp[_X,this]
    rw[Ju t];dsimp only;rw[D _ _ _ Y T]
   rw[g p n,g q M] at u;have X:f[q]<vs.length:=fF.mp<|o.mem_iff.mp<|eJ M
   have tm:ts.getD f[q] d∈ts:=by
    have:f[q]<ts.length:=by lia
    simp[_X,this]
   rw[<-oG O tm];exact _t<|Tm u
 .rintro⟨⟨⟩,k⟩ F ⟨rfl,f,t,e2,e3,Z⟩;exact h k f t e2 e3 Z
end
end Sx
end PartSortX
section PartSortY
set_option maxHeartbeats 800000
namespace Sx
open PySem PySem.W PySem.Calls PyProof.Rows Sm Sq
section
variable{w:_P}{β:Type}{blt:β->β->_O}{d:β}
theorem vC{vs:_a _k}{ts:_a β}{κ:É}{P:PySem.Fin->_C->Prop}(O:Or blt)(m:s.heap.get? a=_b (seqObj "list" vs.toArray n))(y:vs.length<=sizeLine)(hl:vs.length=ts.length)
  (I:∀(i j:_c) v a b,vs[i]? = _b v->vs[j]? = _b v->ts[i]? = _b a->ts[j]? = _b b->a=b)
  (B:∀h6:χ,(∀b o,b≠a->s.heap.get? b=_b o->h6.get? b=_b o)->2<=vs.length->∀Q:É->_C->Prop,Q κ (ð h6 s.gens s.drawn s.toks s.os)->wpAny (_D prog w) A (keyKind' vs.toArray) Q E (ð h6 s.gens s.drawn s.toks s.os))
  (D:∀h6:χ,(∀b o,b≠a->s.heap.get? b=_b o->h6.get? b=_b o)->∀(i j:_c) u v a b,vs[i]? = _b u->vs[j]? = _b v->ts[i]? = _b a->ts[j]? = _b b->∀C:_O->_C->Prop,C (blt a b) (ð h6 s.gens s.drawn s.toks s.os)->wpAny (_D prog w) A (keyLt' κ u v) C (λ_ _=>Α) (ð h6 s.gens s.drawn s.toks s.os))
  (h:∀ix:_a _c,ix.Perm (_L vs.length)->ix.Pairwise (λi j=>blt (ts.getD j d) (ts.getD i d)=_p)->P (.done<|.ret .none) { s with heap:=sortedHeap s.heap a vs (ix.map λi=>vs.getD i _N).toArray }) :
  wpAny (_D prog w) A (Ĩ.«list.sort» ⟨[.ref a],[]⟩) P E s:=by
 obtain⟨r,z⟩:∃r,(s.heap.update a (Ψ λ_=>(#[]:_E _k))).get? a=_b (seqObj "list" #[] r):=⟨_,get?_update_seq m λ_=>#[]⟩;have f:∀b o,b≠a->s.heap.get? b=_b o->(((s.heap.update a<|Ψ λ_=>(#[]:_E _k)).push<|seqObj "tuple" vs.toArray 0).push<|seqObj "list" #[] 0).get? b=_b o:=λb o H e=>_f _<|_f _<|(_Z _ _<|_J H).trans e
 have l:(((s.heap.update a<|Ψ λ_=>(#[]:_E _k)).push<|seqObj "tuple" vs.toArray 0).push<|seqObj "list" #[] 0).get? a=_b (seqObj "list" #[] r):=_f _<|_f _ z
 have F:=B _ f;have K:=D _ f;clear B D;rw[list_sort_plain];refine _e<|listItems_at m U ?_
 refine _e<|vt m U ?_ (by simpa using y)<|Ζ _
 refine _e<|AZ z U<|_e<|MS ?_ y
 refine _e<|P6 (Ν ?_)<|eK _
 show wpAny (_D prog w) A _ P E (ð (((s.heap.update a<|Ψ λ_=>(#[]:_E _k)).push<|seqObj "tuple" vs.toArray 0).push<|seqObj "list" #[] 0) s.gens s.drawn s.toks s.os);dsimp only;by_cases c:vs.toArray.size<2
 .have k:vs.length<2:=by simpa using c
  rw[_n c,_n c];refine _e<|_v (a:=general') ?_
  rw[StateT.run_pure];refine _e<|_v<|_e<|AZ l U ?_
  have p:(vs.toArray.zip vs.toArray).map (·.2)=((_L vs.length).map λi=>vs.getD i _N).toArray:=by
   rw[ju];apply Ē.mp;rw[y2,Ĕ];exact List.map_snd_zip<|al _
  have q:=h (_L vs.length) (tj _) (by
   rw[ic];intro i j N G M;simp at N G;lia)
  rw[<-p] at q;refine _e<|vt l U ?_ (Ζ _)<|by show ((vs.toArray.zip vs.toArray).map<|λx=>x.2).size<=_;rw[Array.size_map,AX,_R];lia
  simp only[F1,π,å];exact _v q
 .have k:2<=vs.length:=by have:¬ vs.length<2:=(by simpa using c);exact me this
  rw[_l c,_l c];refine _e<|F k _ ?_
  refine _e<|jW (d:=d) O U hl I K λst ix p L t pw=>?_
  have q:=h ix t pw;have g:(arrOf st).map (λx=>x.2)=(ix.map λi=>vs.getD i _N).toArray:=p;refine _e<|AZ l U ?_
  have J:ix.length=vs.length:=by rw[t.length_eq,fT]
  rw[<-g] at q;refine _e<|vt l U ?_ (Ζ _)<|by show ((arrOf st).map<|λx=>x.2).size<=_;rw[g];simp[J];exact rx y (by decide)
  dsimp only;rw[L];simp only[F1,π,å];exact _v q
theorem cu{l:_d}{vs:_a _k}{ts:_a β}{κ:É}(O:Or blt)(x:s.heap.IsList l vs.toArray)(p:vs.length<=sizeLine)(hl:vs.length=ts.length)
  (B:∀(i j:_c) v a b,vs[i]? = _b v->vs[j]? = _b v->ts[i]? = _b a->ts[j]? = _b b->a=b)
  (z:∀(A:ì)(E:vSP)(f:χ),(∀b o,s.heap.get? b=_b o->f.get? b=_b o)->2<=vs.length->∀Q:É->_C->Prop,Q κ (ð f s.gens s.drawn s.toks s.os)->wpAny (_D prog w) A (keyKind' vs.toArray) Q E (ð f s.gens s.drawn s.toks s.os))
  (F:∀(A:ì)(f:χ),(∀b o,s.heap.get? b=_b o->f.get? b=_b o)->∀(i j:_c) u v a b,vs[i]? = _b u->vs[j]? = _b v->ts[i]? = _b a->ts[j]? = _b b->∀C:_O->_C->Prop,C (blt a b) (ð f s.gens s.drawn s.toks s.os)->wpAny (_D prog w) A (keyLt' κ u v) C (λ_ _=>Α) (ð f s.gens s.drawn s.toks s.os))
  (h:∀D h' c ix,s.heap.objs.size<=D->(∀b o,s.heap.get? b=_b o->h'.get? b=_b o)->h'.get? D=_b { cls:=.type "list",data:=.seq (Ļ (λi=>vs.getD i _N) ix).toArray c }->ix.Perm (_L vs.length)->ix.Pairwise (λi j=>blt (ts.getD j d) (ts.getD i d)=_p)->Q (.ref D) { s with heap:=h' }) :
  wpAny (_D prog w) A (call (.builtin "sorted") [.ref l]) Q E s:=by
 refine Calls.call_function_entry kind_sorted plain_sorted entry_sorted (args_sorted1 _) ?_;unfold Ĩ.«sorted»;refine _e (m:=checkCount "sorted" 1 1 _)<|_v<|_e<|collect_list x (_e<|P6 ?_ p) p
 have n:∀b o,s.heap.get? b=_b o->((s.heap.push<|seqObj "list" #[] 0).update s.heap.objs.size (Ψ (· ++ vs.toArray))).get? b=_b o:=λb o e=>(_Z _ _<|iA<|_B e).trans<|_f _ e
 have r:s.heap.objs.size<=((s.heap.push<|seqObj "list" #[] 0).update s.heap.objs.size (Ψ (· ++ vs.toArray))).objs.size:=by rw[Heap.size_update,size_push'];exact kA _
 generalize (s.heap.push (seqObj "list" #[] 0)).update s.heap.objs.size (Ψ (· ++ vs.toArray))=g at n r |-;have q:(g.push<|seqObj "list" vs.toArray 0).get? g.objs.size=_b (seqObj "list" vs.toArray 0):=_A _ U;have up:∀f:χ,(∀b o,b≠g.objs.size->(g.push<|seqObj "list" vs.toArray 0).get? b=_b o->f.get? b=_b o)->∀b o,s.heap.get? b=_b o->f.get? b=_b o:=λf k b o e=>k b o (db<|bq (_B e) r)<|_f _<|n b o e
 refine _e<|Ν<|à slot_list_sort ⟨_,q,U⟩ entry_list_sort (vC (d:=d) O q p hl B (λf k=>z _ _ f<|up f k) (λf k=>F _ f<|up f k) λix y pw=>⟨_,U,?_⟩)<|args_list_sort _
 obtain⟨c,G⟩:=sortedHeap_at (out:=(Ļ (λi=>vs.getD i _N) ix).toArray) q;refine _v ⟨_,U,h g.objs.size _ c ix r (λb o e=>?_) G y pw⟩;have t:=_B<|n b o e
 rw[sortedHeap_old (db t) (by rw[size_push'];exact gI t)];exact _f _<|n b o e
def ilt(a b:_j):Bool:=decide (a<b)
theorem su:Or ilt:=⟨λa=>_t<|Int.lt_irrefl _,λa b h=>by have:=_s h;exact _t<|Zs (ST this),λa b c d e=>by
 have:=ē d;have:=ē e;exact _t<|by lia⟩
theorem Xb:∀{vs:_a _k}{ns:_a _j},ÿ vs ns->∀(i:_c) v n,vs[i]? = _b v->ns[i]? = _b n->∃t,v=.int n t
 |_,_,.nil,i,v,n,a,_=>by simp at a
 |_,_,.cons m t r,0,v,n,a,b=>by
  simp at a b;subst a b;exact⟨t,U⟩
 |_,_,.cons m t r,i+1,v,n,a,b=>Xb r i v n (by simpa using a)<|by simpa using b
theorem Ui:∀{vs:_a _k}{ns:_a _j},ÿ vs ns->vs.length=ns.length
 |_,_,.nil=>rfl
 |_,_,.cons m t r=>congrArg (· + 1)<|Ui r
theorem ints_of:∀{vs:_a _k}{ns:_a _j},vs.length=ns.length->(∀(i:_c) v n,vs[i]? = _b v->ns[i]? = _b n->∃t,v=.int n t)->ÿ vs ns
 |[],[],_,_=>.nil
 |[],_::_,h,_=>by simp at h
 |_::_,[],h,_=>by simp at h
 |v::vs,n::ns,h,g=>by
  obtain⟨t,rfl⟩:=g 0 v n U U;exact .cons n t<|ints_of (by simpa using h) λi v m b a=>g (i+1) v m (by simpa using b)<|by simpa using a
theorem bw{l:_d}{vs:_a _k}{ns:_a _j}(M:s.heap.IsList l vs.toArray)(p:ÿ vs ns)(N:vs.length<=sizeLine)
  (h:∀D h' c us ms,s.heap.objs.size<=D->(∀b o,s.heap.get? b=_b o->h'.get? b=_b o)->h'.get? D=_b { cls:=.type "list",data:=.seq (List.toArray us) c }->ÿ us ms->ms.Perm ns->ms.Pairwise (· <= ·)->Q (.ref D) { s with heap:=h' }) :
  wpAny (_D prog w) A (call (.builtin "sorted") [.ref l]) Q E s:=by
 have H:=Ui p;have x:=Xb p;refine cu (blt:=ilt) (d:=0) (ts:=ns) (κ:=oneType') su M N H (λi j v a b f G B F=>?_) (λA E L k m Q q=>?_) (λA L k i j u v a b G f B F C c=>?_) λD h' c K S P g I pw=>?_
 .obtain⟨t,rfl⟩:=x i v a f B;obtain⟨R,e⟩:=x j _ b G F
  cases e;rfl
 .match vs,p,m with
  |[],_,m=>simp at m
  |[_],_,m=>simp at m
  |v₁::v₂::rest,p,_ =>
   rw[keyKind_ints p];exact _v q
 .obtain⟨t,rfl⟩:=x i u a G B;obtain⟨R,rfl⟩:=x j v b f F;rw[keyLt'_oneType];exact oneLt_int c
 .refine h D h' c _ (K.map λi=>ns.getD i 0) S P g (ints_of (by simp) λi v n f r=>?_) ?_ ?_
  .rw[ar] at f r
   cases hi:K[i]? with
   |none=>rw[hi] at f;cases f
   |some z =>
    rw[hi] at f r;have J:z<vs.length:=fF.mp<|I.mem_iff.mp<|ai hi
    have y:z<ns.length:=wT J H
    have T:vs.getD z _N=vs[z]:=by simp[_X,J]
    have O:ns.getD z 0=ns[z]:=by simp[_X,y]
    simp only[Option.map_some,NC] at f r;rw[T] at f;rw[O] at r;exact x z v n (by rw[<-f];exact af J)<|by rw[<-r];exact af y
  .have:(_L vs.length).map (λi=>ns.getD i 0)=ns:=by
    refine ń (by simp[H]) λi V m=>?_;simp[_X,m]
   have q:=I.map<|λi=>ns.getD i 0
   rw[this] at q;exact q
  .rw[ke];exact pw.imp λ{i j} e=>Int.not_lt.mp<|ē e
end
end Sx
end PartSortY
namespace L2
open PySem PySem.Spec PyProof.Rows
theorem Q8:Fw X (.builtin "sorted") (λxs H Q=>∃(a:_d)(ns:_a _j),xs=[V.ref a]/\Dd X.K H a (ns.map V.int)/\∀(p:_d)(ms:_a _j),H p=_o->ms.Perm ns->ms.Pairwise (· <= ·)->Q (.ref p) (upd H p<|.lst<|ms.map V.int)):=by
 intro z s σ H xs i Q I r h;obtain⟨a,ns,rfl,t,q⟩:=h;obtain⟨u,rfl,l⟩:=vals1 r
 cases l;obtain⟨g,d,n,A⟩:=I.list t;have w:=oJ d;have b:g.length<=sizeLine:=by have:=d.length;exact this▸A
 refine Sx.bw n.isList w b λD y c i ms j m e x k pw=>?_;have v:H D=none:=I.hok.fresh j;have f:(ms.map V.int).length<=sizeLine:=by
  rw[ah,k.length_eq];have:=d.length;rw[ah] at this;exact this.symm▸b
 exact⟨.ref D,_,I.laid (t':=s.toks) (o:=.lst<|ms.map V.int) m j ⟨f,i,c,nP x,e⟩,U,q _ ms v k pw⟩
open PySem PySem.Spec PySem.Calls PyProof.Rows
theorem ZL(g:X.A.units<cLine):HW X (compareOp .Eq) (λx y H Q=>∃p q xs,x=V.ref p/\y=V.ref q/\Dd X.K H p xs/\Dd X.K H q []/\Q (.bl xs.isEmpty) H):=by
 intro C s σ H x y v u Q I m n h;obtain⟨p,q,xs,rfl,rfl,o,t,k⟩:=h
 cases m
 cases n;obtain⟨w,r,c,D⟩:=I.list o;obtain⟨B,l,d,A⟩:=I.list t;have f:=r.length
 cases l
 cases xs with
 |nil =>
  cases r;refine SeqAt.RcAt.lists (e:=λ_=>_g) c.isList d.isList U g (λj i E=>?_) _ _ _ _ ⟨.bl _,H,I,U,k⟩;exact _z i<|gd _
 |cons a b =>
  refine SeqAt.RcAt.lists_lengths c.isList d.isList (by simp;intro z;rw[z] at f;simp at f) g _ _ _ _ ⟨.bl _,H,I,U,k⟩
def Itk(a:_d)(o:Þ)(kvs:_a<|Key×V):It :=
 ⟨λi H=>H a=_b (.frz o<|.dK kvs)/\i<kvs.length,λi H v H'=>H'=H/\∃kv,kvs[i]? = _b kv/\v=kV kv.1,λi H=>H a=_b (.frz o<|.dK kvs)/\kvs.length<=i⟩
theorem Yy{w:_P}{K:_q}(a g:_d)(o:Þ)(kvs:_a<|Key×V)(an:a≠g) :
  Turn P w K tg (Itk a o kvs) [g] g (λi h=>h.IsKeyIter g a i kvs.length<|Pz o) where
 mem:=by simp
 obj:=λi h st b m=>by
  have e:b=g:=by simpa using m
  subst e;obtain⟨o,e,c,d⟩:=st;exact⟨o,e,λv z=>by rw[d] at z;cases z⟩
 keep:=λi h B st k=>st.at λo e=>k g (by simp) o e
 item:=by
  intro X hP R F hc i a8 s σ H E I D st G;subst hP R F;obtain⟨T,hi⟩:=G;have M:CG X.prog X.w H s.heap a<|.frz o<|.dK kvs:=I.hok a _ T
  obtain⟨r,_,_,C,f,ob,l,Z,A,e2,t,J,L,e6⟩:=M;rw[r] at A
  cases A;have j:Pz o=Z:=by unfold Pz;rw[t]
  have n:s.heap.DictAt (Bm X.prog X.w) a C<|Pz o:=⟨o,l,r,e2,by rw[j];exact t,J,L,e6⟩
  have hl:=f.length;obtain⟨⟨k,x⟩,hx⟩:∃p,kvs[i]? = _b p:=⟨kvs[i],by simp[hi]⟩;obtain⟨⟨k',u⟩,hu,ek,ru⟩:∃q,C[i]? = _b q/\k=q.1/\RelV x q.2:=eZ f hx;have N:k=k':=ek;subst N;obtain⟨S,O,f2,f3,Q,Y⟩:=D g<|by simp
  rw[hl] at st;refine wpAny_pyNext_dict_item st n hu λab B y b9 sb=>?_;have I1:Inv X a8 σ H { s with heap:=B }:=I.turned (t':=s.toks) (λb o m e=>(sb.2 b m).trans e) S O f3 Q Y;obtain⟨ac,e1,c1,d1⟩:=id b9;exact⟨ab,U,Qy (s:={ s with heap:=B }) e1 c1 d1 (by decide) ⟨kV k,H,I1,lQ y,⟨U,(k,x),hx,U⟩,by rw[hl];exact b9,λb m=>(D b m).1⟩⟩
 done:=by
  intro X hP R F hc i a8 s σ H E I D st G;subst hP R F;obtain⟨T,hi⟩:=G;have M:CG X.prog X.w H s.heap a<|.frz o<|.dK kvs:=I.hok a _ T
  obtain⟨r,_,_,C,f,ob,l,Z,A,e2,t,J,L,e6⟩:=M;rw[r] at A
  cases A;have j:Pz o=Z:=by unfold Pz;rw[t]
  have n:s.heap.DictAt (Bm X.prog X.w) a C<|Pz o:=⟨o,l,r,e2,by rw[j];exact t,J,L,e6⟩
  have hl:=f.length;obtain⟨S,O,f2,f3,Q,Y⟩:=D g<|by simp
  rw[hl] at st;exact wpAny_pyNext_dict_end (I.ok.hd hc) st n (eD<|hl▸hi) λB eb=>⟨U,I.turned (t':=s.toks) (λb o m e=>eb b o m e) S O f3 Q Y⟩
 self:=λ_ _ _ _ _ st h=>wpAny_pyIter_keyiter st h
inductive eY(R:It->Hp->Prop)(x:V)(H1:Hp):Prop
|mk(a o kvs:_)(_:x=.ref a)(_:H1 a=_b (.frz o (.dK kvs)))(_:R (Itk a o kvs) H1)
abbrev AAh(td:TE):TI:=λσ H R=>td σ H λx H1=>eY R x H1
theorem gf{e:Expr}{n:TE}(E:PE X e n):PI X tg e<|AAh n:=by
 intro y s σ H R I h;refine CN (E y s σ H _ I h) λv c A=>?_;obtain⟨x,t,g,F,a,d,f,u,B,q⟩:=A;subst u
 cases F;have L:CG X.prog X.w t c.heap a<|.frz d<|.dK f:=g.hok a _ B
 obtain⟨k,_,lo,K,l,N,j,D,p,G,r,C,J,M⟩:=L;rw[k] at p
 cases p;have i:Pz d=D:=by unfold Pz;rw[r]
 have m:c.heap.DictAt (Bm X.prog X.w) a K<|Pz d:=⟨d,j,k,G,by rw[i];exact r,C,J,M⟩
 have hl:=l.length;have w:a<c.heap.objs.size:=_B k;refine wpAny_pyIter_dict lo m ?_;refine⟨c.heap.objs.size,[c.heap.objs.size],_,_,t,U,g.kept (t':=c.toks) λb o e=>_f _ e,Yy a _ d f<|db w,⟨_,_A _ U,U,by rw[hl];rfl⟩,λb z=>?_,q⟩;have e:b=c.heap.objs.size:=by simpa using z
 subst e;exact g.P0 (al _)<|g.hok.fresh<|al _
theorem ZV{Q:VK}{o:Þ}(p:V->_O)(f:V->V)(c:H1 a=_b (.frz o<|.dK kvs))(l:kvs.length<sizeLine)
  (m:∀x∈kvs.map (λkv=>kV kv.1),∀H,Aj H1 H->∀R:_O->Hp->Prop,(∀H',Aj H H'->R (p x) H')->tt (_b x::σ) H R)
  (k:∀x∈kvs.map (λkv=>kV kv.1),p x=_g->∀H,Aj H1 H->∀R:VK,(∀H',Aj H H'->R (f x) H')->te (_b x::σ) H R)
  (n:∀D H,H1 D=_o->Aj H1 H->H D=_b (.lst<|((kvs.map λkv=>kV kv.1).filter p).map f)->Q (.ref D) H):Fe (Itk a o kvs) σ H1 Q tt te:=by
 refine Hu (xs:=kvs.map λkv=>kV kv.1) p f (by rw[ah];exact l) (λi H x b h=>⟨b _ _ c,?_⟩) (λi H y H' b q e=>?_) (λH b=>⟨b _ _ c,by rw[ah];exact al _⟩) m k n
 .have:=(ag.mp h).1;rw[ah] at this;exact this
 .obtain⟨g,kv,j,d⟩:=e;exact⟨g,by rw[ar,j,d];rfl⟩
open PySem PySem.Spec PyProof.Rows
theorem Qt{α β:Type}{F:α->β->Prop}:∀{l:_a α}{vs:_a β},Paired F l vs->∀{i:_c} {v},vs[i]? = _b v->∃a,l[i]? = _b a/\F a v
 |[],_,h,i,v,b=>by cases h;simp at b
 |a::l,_,h,i,v,b=>by
  cases h with
  |cons x y =>
   cases i with
   |zero=>simp at b;subst b;exact⟨_,U,x⟩
   |succ i=>exact Qt y<|by simpa using b
theorem WX{K:_q}{Q:VK}{ps:_a (V×V)}(f:V×V->V)(j:Dd K H1 a vs)(n:Paired (λq v=>TupAt H1 [q.1,q.2] v) ps vs)(B:vs.length<sizeLine)
  (w:∀q∈ps,∀H,Aj H1 H->∀R:VK,(∀H',Aj H H'->R (f q) H')->te (_b q.1::_b q.2::σ) H R)
  (u:∀D H,H1 D=_o->Aj H1 H->H D=_b (.lst<|ps.map f)->Q (.ref D) H):Im (jb K a) σ H1 Q (Tr K 2<|GX (Df 0)<|GX (Df 1) Tf) Y5 te:=by
 intro D l;have t:Aj H1<|upd H1 D<|.lst []:=λb o e=>by rw[Ak (Ag e l)];exact e
 have hl:=n.length;refine⟨λi m h H=>m=vs.length - i/\i<=vs.length/\h=(ps.map f).take i/\H D=_b (.lst h)/\Aj H1 H,⟨vs.length,by simp,Ζ _,by simp,Ah,t⟩,?_⟩;rintro i m h H ⟨rfl,F,rfl,k,c⟩;by_cases d:i<vs.length
 .have s:vs[i]? = _b vs[i]:=af d;refine .inr ⟨⟨vs,_,c.seq j,s⟩,λv C g z A=>?_⟩;obtain⟨rfl,g⟩:=g;have x:=g vs<|c.seq j
  obtain⟨q,p,T,rfl,y⟩:=Qt n x;refine⟨[q.1,q.2],oP<|c _ _ y,U,U,⟨_,_,U⟩,?_⟩;unfold Y5;dsimp only;rw[_n U];refine w q (ai p) _ c _ λE r=>?_;refine⟨r _ _ k,?_,vs.length - (i+1),by lia,U,d,?_,Ah,λb o e=>?_⟩
  .rw[cm,ah];lia
  .rw[dL,ar,p];rfl
  .rw[Ak (Ag e l)];exact r _ _<|c _ _ e
 .have e:i=vs.length:=Fr F (me d)
  subst e;rw[<-hl,<-ah (f:=f) (as:=ps),eP] at k;exact .inl ⟨⟨vs,c.seq j,al _⟩,u D H l c k⟩
section
variable{x z:_m}
theorem jD{k:_c}{y:_m}{c a d f g:ī}{h:TI}(o:X.N.Nodup)(b:X.N[i]? = _b y)(l:X.env.scope.names.lookup y=_b .local)(e:X.calm=_g)(S:H_ X x z scope)(hi:PI X (.Tuple [.Name x c,.Name z a] k d) iter h)
  (p:∀C s₀ H₀ fp,Rf (K_ X x z scope C s₀ H₀ fp) pj tt) (n:∀C s₀ H₀ fp,PE (K_ X x z scope C s₀ H₀ fp) qc te) (j:swapsWith (.ListComp qc [⟨.Tuple [.Name x c,.Name z a] k d,iter,pj,0⟩] scope pos) (_b<|.Name y f) g.line X.env=pure true:=by rfl) (s:∀x,foldedSetIterable iter X.env x=pure x:=by intro _;rfl) :
  PS X (.Assign [.Name y f] (.ListComp qc [⟨.Tuple [.Name x c,.Name z a] k d,iter,pj,0⟩] scope pos) g) (V_ (eV h (Tr X.K 2<|GX (Df 0)<|GX (Df 1) Tf) tt te)<|Df i):=R_ (F:=λσ τ=>∃m r,τ=m::r::σ) (λ_=>⟨_,_,U⟩) (λ_ _ _ _ q=>q.g) o b l e S hi (λ_ _ _ _=>YS e S) p n j s
end
end L2
section PartK47a
set_option maxHeartbeats 4000000
namespace K47
open PySem L2 Og
noncomputable abbrev c8:_a Str:=["_law_plan_here","_law_knobs","_law_held","_law_coupled_here","_law_muted","_law_found","_law_key_here","_law_place","_law_at","_law_row","_law_lines","_law_line"]
abbrev dv:_a Str:=["self"]
noncomputable abbrev eh:_a Str:=["organ","knobs","held"]
noncomputable abbrev eo:_a Str:=["_law_script","_law_source_here","_law_first","_law_boards","_law_k","_law_ranks","_law_wind","_law_rows_here","_law_stops","_law_found","_law_most"]
noncomputable abbrev ew:_a Str:=["_law_plan_here","_law_name_here","_law_number"]
abbrev ey:_a Str:=["self","name"]
noncomputable abbrev ez:_a Str:=["_law_plan_here","_law_knobs","_law_held"]
abbrev eH:_a Str:=["self","knob"]
abbrev e7:_a Str:=["organ","name"]
noncomputable abbrev fv:_a Str:=["_law_script","_law_rows_here","_law_plan_here","_law_organ","_law_knobs","_law_player","_law_k","_law_due"]
abbrev fx:_a Str:=["thing"]
noncomputable abbrev fy:_a Str:=["organ","knobs","keys"]
noncomputable abbrev fZ:_a Str:=["_law_source_here","_law_boards","_law_ranks","_law_name_here"]
abbrev f0:_a Str:=["self","key"]
noncomputable abbrev gm:_a Str:=["_law_source_here","_law_organ","_law_player","_law_knobs"]
noncomputable abbrev gp:_a Str:=["self","piston","board"]
abbrev gq:_a Str:=["_law_script","_law_k"]
abbrev gA:_a Str:=["self","rows"]
noncomputable abbrev hH:_a Str:=["text","signs","most"]
abbrev hJ:_a Str:=["row","ahead"]
abbrev hK:_a Str:=["self","deed"]
noncomputable abbrev hQ:_a Str:=["number","board","ahead"]
noncomputable abbrev hX:_a Str:=["console","word","parts"]
abbrev hY:_a Str:=["self","organ"]
abbrev i7:_a Str:=["self","drawn"]
noncomputable abbrev jm:_a Str:=["_law_cell","_law_number","_law_letters","_law_size","_law_at"]
noncomputable abbrev j0:_a Str:=["thing","part","ahead"]
noncomputable abbrev j3:_a Str:=["_law_plan_here","_law_keys","_law_name_here","_law_size"]
noncomputable abbrev j4:_a Str:=["rows","word","thing"]
abbrev j5:_a Str:=["self","knobs"]
abbrev km:_a Str:=["row","knob_numbers"]
noncomputable abbrev kw:_a Str:=["_law_cell","_law_by","_law_many"]
abbrev li:_a Str:=["_law_script"]
noncomputable abbrev ll:_a Str:=["organ","name","number"]
noncomputable abbrev lS:_a Str:=["self","board","number"]
abbrev l7:_a Str:=["_law_source_here","_law_many"]
abbrev na:_a Str:=["_law_player","_law_deed_here"]
noncomputable abbrev nK:_a Str:=["self","rank","number"]
noncomputable abbrev nN:_a Str:=["self","knobs","whole"]
noncomputable abbrev oa:_a Str:=["organ","knobs","word","words"]
abbrev ol:_a Str:=["organ","knobs"]
abbrev ou:_a Str:=["self","piston"]
abbrev ox:_a Str:=["_law_cell","_law_number"]
abbrev oD:_a Str:=["things"]
noncomputable abbrev oQ:_a Str:=["organ","knob","keys","stop","numbers"]
noncomputable abbrev o4:_a Str:=["organ","line","numbers"]
abbrev o5:_a Str:=["rows","word"]
abbrev pi:_a Str:=["self","step"]
abbrev pu:_a Str:=["thing","bounds"]
noncomputable abbrev py:_a Str:=["some","steps","count"]
noncomputable abbrev pz:_a Str:=["organ","knobs","word"]
noncomputable abbrev pN:_a Str:=["organ","board","keys"]
noncomputable abbrev qk:_a Str:=["organ","name","board"]
abbrev qq:_a Str:=["rows","rank_numbers"]
noncomputable abbrev qs:_a Str:=["organ","knob","keys"]
abbrev qv:_a Str:=["thing","ahead"]
abbrev qx:_a Str:=["some","number"]
noncomputable abbrev qy:_a Str:=["organ","knob","key"]
abbrev rg:_a Str:=["word","ahead"]
abbrev rh:_a Str:=["organ","held"]

noncomputable def top(i:_c):Stmt:=PySem.Challenge.pw_windchest_k47_whole_pipes_by_hand.main.body.getD i<|.Pass ⟨0,0,0,0⟩
abbrev sWh:Stmt:=top 19
abbrev sMd:Stmt:=top 20
abbrev sNm:Stmt:=top 21
abbrev sRo:Stmt:=top 65
abbrev sTo:Stmt:=top 66
abbrev sWi:Stmt:=top 67
abbrev sPa:Stmt:=top 68
abbrev sHp:Stmt:=top 69
abbrev sCl:Stmt:=top 70
abbrev sIk:Stmt:=top 71
abbrev sSb:Stmt:=top 72
abbrev sIs:Stmt:=top 73
abbrev sWm:Stmt:=top 74
abbrev sHr:Stmt:=top 75
abbrev sIr:Stmt:=top 76
abbrev sCk:Stmt:=top 77
abbrev sNu:Stmt:=top 80
abbrev sCa:Stmt:=top 81
abbrev sPl:Stmt:=top 82
abbrev sLi:Stmt:=top 83
abbrev sSs:Stmt:=top 84
abbrev sMy:Stmt:=top 24
abbrev sSt:Stmt:=top 25
abbrev sHa:Stmt:=top 26
abbrev sMe:Stmt:=top 27
abbrev sSh:Stmt:=top 28
abbrev sUn:Stmt:=top 29
abbrev sLe:Stmt:=top 38
abbrev sDc:Stmt:=top 39
abbrev sHk:Stmt:=top 40
abbrev sWa:Stmt:=top 41
abbrev sCq:Stmt:=top 42
abbrev sMu:Stmt:=top 44
abbrev sUk:Stmt:=top 45
abbrev sSk:Stmt:=top 46
abbrev sNb:Stmt:=top 47
abbrev sLl:Stmt:=top 48
abbrev sBs:Stmt:=top 49
abbrev sBa:Stmt:=top 50
abbrev sSo:Stmt:=top 51
abbrev sKn:Stmt:=top 32
abbrev sKb:Stmt:=top 34
abbrev sIp:Stmt:=top 35
abbrev sBn:Stmt:=top 33
abbrev sKy:Stmt:=top 55
abbrev sDz:Stmt:=top 56
abbrev sId:Stmt:=top 54
abbrev sCe:Stmt:=top 87
abbrev sMi:Stmt:=top 88
abbrev sLo:Stmt:=top 89
abbrev sDw:Stmt:=top 90
abbrev sNa:Stmt:=top 91
abbrev sLj:Stmt:=top 92
abbrev sRw:Stmt:=top 93
abbrev sDe:Stmt:=top 94
abbrev sLx:Stmt:=top 95
abbrev sVp:Stmt:=top 96
abbrev sVk:Stmt:=top 97
abbrev sVa:Stmt:=top 98
abbrev sVc:Stmt:=top 99
abbrev sVq:Stmt:=top 100
abbrev sVs:Stmt:=top 101
abbrev g_:Stmt:=inClass (top 85) 0
abbrev sOb:Stmt:=inClass (top 85) 2
abbrev sOc:Stmt:=inClass (top 85) 5
abbrev sOk:Stmt:=inClass (top 85) 7
abbrev sOo:Stmt:=inClass (top 85) 8
abbrev sBk:Stmt:=inClass (top 85) 13
abbrev sOp:Stmt:=inClass (top 85) 15
abbrev sOr:Stmt:=inClass (top 85) 3
abbrev sOq:Stmt:=inClass (top 85) 6
abbrev sOe:Stmt:=inClass (top 85) 9
abbrev sOs:Stmt:=inClass (top 85) 14
abbrev sOm:Stmt:=inClass (top 85) 16
abbrev sOu:Stmt:=inClass (top 85) 11
abbrev sOj:Stmt:=inClass (top 85) 12
abbrev sOy:Stmt:=inClass (top 85) 17
abbrev sOz:Stmt:=inClass (top 85) 4
abbrev sXi:Stmt:=inClass (top 36) 0
abbrev sXd:Stmt:=inClass (top 36) 1
abbrev sXp:Stmt:=inClass (top 36) 2
abbrev sXq:Stmt:=inClass (top 36) 3
abbrev sXk:Stmt:=inClass (top 36) 9
abbrev sXh:Stmt:=inClass (top 36) 7
abbrev R1:Stmt:=inClass (top 36) 4
abbrev sXr:Stmt:=inClass (top 36) 5
abbrev sXc:Stmt:=inClass (top 36) 6
abbrev sPi:Stmt:=inClass (top 13) 0
abbrev sEp:Stmt:=inClass (top 14) 0
abbrev sAi:Stmt:=inClass (top 15) 0
abbrev sAp:Stmt:=inClass (top 15) 1
abbrev sQi:Stmt:=inClass (top 57) 0
abbrev sQh:Stmt:=inClass (top 57) 1
abbrev sQl:Stmt:=inClass (top 57) 2
abbrev sQa:Stmt:=inClass (top 57) 3
abbrev sQd:Stmt:=inClass (top 57) 4
abbrev sQs:Stmt:=inClass (top 57) 5
abbrev sQe:Stmt:=inClass (top 57) 6
abbrev sQk:Stmt:=inClass (top 57) 7
abbrev iY:Stmt:=top 102
structure Txt(K:_q)(P:Đ)(mg:_m->_r _k)(C Cy Cp pB pE pA cK cP cB cS cO cH cY cD aQ aN aK aB aP aM:_d):Prop where
 len:mg "len" = _o
 isin:mg "isinstance" = _o
 int:mg "int" = _o
 bool:mg "bool" = _o
 str:mg "str" = _o
 list:mg "list" = _o
 tuple:mg "tuple" = _o
 all:mg "all" = _o
 any:mg "any" = _o
 sum:mg "sum" = _o
 range:mg "range" = _o
 zip:mg "zip" = _o
 enumerate:mg "enumerate" = _o
 max:mg "max" = _o
 reversed:mg "reversed" = _o
 set:mg "set" = _o
 min:mg "min" = _o
 sorted:mg "sorted" = _o
 letters:∃t,mg "LETTERS" = _b (.str letters t)
 mostL:∃t,mg "MOST_LETTERS" = _b (.int 8 t)
 mostR:∃t,mg "MOST_ROWS" = _b (.int 150 t)
 mostLn:∃t,mg "MOST_LINES" = _b (.int 4 t)
 below:∃t,mg "MEMBERS_BELOW" = _b (.int 1200 t)
 mN:mg "NAMED" = _b (.ref aN)
 mK:mg "KNOBS" = _b (.ref aK)
 mB:mg "BOUNDS" = _b (.ref aB)
 mP:mg "PARTS" = _b (.ref aP)
 mM:mg "MOST_OF" = _b (.ref aM)
 tN:KTup K aN<|named.map V.str
 tK:KTup K aK [.str "stop",.str "coupler",.str "mute"]
 dB:KDict K P aB
 dP:KDict K P aP
 dM:KDict K P aM
 cl:Py K C
 mC:mg "Organ" = _b (.ref C)
 clR:Py K Cy
 mCR:mg "Console" = _b (.ref Cy)
 nr_organ:CT K Cy "organ"
 nr_drawn_set:CT K Cy "drawn_set"
 nr_shoe_step:CT K Cy "shoe_step"
 nr_stored:CT K Cy "stored"
 x4:Ex4 K mg cK cP cB cS cO
 pis:AAg K mg pB pE pA
 clP:Py K Cp
 mCP:mg "Player" = _b (.ref Cp)
 np_organ:CT K Cp "organ"
 np_console:CT K Cp "console"
 np_hands:CT K Cp "hands"
 xH:ExH K mg cH cO
 xY:ExY K mg cY cD cP
 mQ:mg "PART_COUNTS" = _b (.ref aQ)
 dQ:KDict K P aQ
 pc:∀e∈pcL,∃q,_W K aQ e.1=_b (_b<|.ref q)/\KTup K q e.2
 n_row_list:CT K C "row_list"
 n_board_list:CT K C "board_list"
 n_rank_list:CT K C "rank_list"
 n_knob_rows:CT K C "knob_rows"
 n_board_numbers:CT K C "board_numbers"
 n_rank_numbers:CT K C "rank_numbers"
 n_knob_numbers:CT K C "knob_numbers"
 n_key_places:CT K C "key_places"
 n_pipe_places:CT K C "pipe_places"
 n_knob_lines:CT K C "knob_lines"
 n_step_sets:CT K C "step_sets"
set_option genInjectivity false in
set_option genSizeOf false in
set_option genSizeOfSpec false in
structure FA where
 f:_d
 d:ä
set_option genInjectivity false in
set_option genSizeOf false in
set_option genSizeOfSpec false in
structure Ad where
 (Wh Md Nm Ro To Wi Pa Hp Cl Ik Sb Is Wm Hr Ir Ck Nu Ca Pl Li Ss My St Ha Me Sh Un Le Dc Hk Wa Cq Mu Uk Sk Nb Ll Bs Ba So Kn Kb Ip Bn Ky Dz Id Ce Mi Lo Dw Na Lj Rw De Lx Vp Vk Va Vc Vq Vs Oi Ob Oc Ok Oo Bk Op Or Oq Oe Os Om Ou Oj Oy Oz Xi Xd Xp Xq Xk Xh Xt Xr Xc Pi Ep Ai Ap Qi Qh Ql Qa Qd Qs Qe Qk:FA)
abbrev ni(K:_q)(x q:_m)(st:Ú)(a:FA)(ps:_a _m)(R:Prop):Prop:=Zb K x q st a.f a.d/\Binds K a.d ps []/\R
abbrev Es(K:_q)(mg:_m->_r _k)(x:_m)(st:Ú)(a:FA)(ps:_a _m):Prop:=ni K x x st a ps<|mg x=_b (.ref a.f)
abbrev J5(K:_q)(C:_d)(x q:_m)(st:Ú)(a:FA)(ps:_a _m):Prop:=ni K x q st a ps<|Meth K C x a.f
abbrev BP(P:Γ)(w:_P)(K:_q)(mg:_m->_r _k)(base:χ)(CX:V1)(k:_c)(a:FA)(ps:_a _m)(sp:Sp):Prop:=GJ P w K mg base CX k a.f a.d ps sp
abbrev cs(K:PySem.W.Frag)(mg:_m->_r _k)(x q:_m)(st:Ú)(f:_d)(d:ä)(p:_a _m):Prop:=Zb K x q st f d∧Binds K d p []∧mg x=_b (.ref f)
abbrev cx(K:PySem.W.Frag)(C:_d)(x q:_m)(st:Ú)(f:_d)(d:ä)(p:_a _m):Prop:=Zb K x q st f d∧Binds K d p []∧Meth K C x f
structure Fns(K:_q)(mg:_m->_r _k)(C Cy Cp pB pE pA:_d)(aD:Ad):Prop where
 FWh:Es K mg "is_whole" sWh aD.Wh fx
 FMd:Es K mg "is_made_of" sMd aD.Md hH
 FNm:Es K mg "is_name" sNm aD.Nm fx
 FRo:Es K mg "rows_of" sRo aD.Ro o5
 FTo:Es K mg "is_told" sTo aD.To j4
 FWi:Es K mg "is_within" sWi aD.Wi pu
 FPa:Es K mg "is_part" sPa aD.Pa j0
 FHp:Es K mg "has_parts" sHp aD.Hp hJ
 FCl:Es K mg "count_of_last_lines" sCl aD.Cl ["rows"]
 FIk:Es K mg "is_key_of" sIk aD.Ik hQ
 FSb:Es K mg "stands_behind_stop" sSb aD.Sb ["line","ahead"]
 FIs:Es K mg "is_step" sIs aD.Is hJ
 FWm:Es K mg "is_well_made" sWm aD.Wm hJ
 FHr:Es K mg "has_room" sHr aD.Hr rg
 FIr:Es K mg "is_row" sIr aD.Ir qv
 FCk:Es K mg "check_rows" sCk aD.Ck ["rows"]
 FNu:Es K mg "numbers_of" sNu aD.Nu ["names"]
 FCa:Es K mg "count_in_all" sCa aD.Ca oD
 FPl:Es K mg "places_of" sPl aD.Pl oD
 FLi:Es K mg "lines_by_knob" sLi aD.Li qq
 FSs:Es K mg "set_of_step" sSs aD.Ss km
 FMy:Es K mg "may_be_member" sMy aD.My fx
 FSt:Es K mg "set_of" sSt aD.St ["numbers"]
 FHa:Es K mg "has_member" sHa aD.Ha qx
 FMe:Es K mg "members_of" sMe aD.Me ["some"]
 FSh:Es K mg "shifted" sSh aD.Sh py
 FUn:Es K mg "union_of" sUn aD.Un ["sets"]
 FLe:Es K mg "led_to" sLe aD.Le qy
 FDc:Es K mg "drawn_of" sDc aD.Dc pz
 FHk:Es K mg "held_keys" sHk aD.Hk rh
 FWa:Es K mg "coupled_ways" sWa aD.Wa eh
 FCq:Es K mg "coupled_keys" sCq aD.Cq eh
 FMu:Es K mg "muted_boards" sMu aD.Mu ol
 FUk:Es K mg "unmuted_keys" sUk aD.Uk fy
 FSk:Es K mg "speaking_keys" sSk aD.Sk eh
 FNb:Es K mg "numbers_on_board" sNb aD.Nb pN
 FLl:Es K mg "led_by_line" sLl aD.Ll o4
 FBs:Es K mg "brought_by_stop" sBs aD.Bs qs
 FBa:Es K mg "brought_in_all" sBa aD.Ba fy
 FSo:Es K mg "sounding_pipes" sSo aD.So eh
 FKn:Es K mg "knob_named" sKn aD.Kn e7
 FKb:Es K mg "knobs_of_board" sKb aD.Kb e7
 FIp:Es K mg "is_piston" sIp aD.Ip fx
 FBn:Es K mg "board_named" sBn aD.Bn e7
 FKy:Es K mg "key_on_board" sKy aD.Ky ll
 FDz:Es K mg "do_at_console" sDz aD.Dz hX
 FId:Es K mg "is_deed" sId aD.Id fx
 FCe:Es K mg "_law_cell_at" sCe aD.Ce gq
 FMi:Es K mg "_law_mix" sMi aD.Mi kw
 FLo:Es K mg "_law_source" sLo aD.Lo gq
 FDw:Es K mg "_law_draw" sDw aD.Dw l7
 FNa:Es K mg "_law_name" sNa aD.Na ox
 FLj:Es K mg "_law_knob" sLj aD.Lj fZ
 FRw:Es K mg "_law_rows" sRw aD.Rw li
 FDe:Es K mg "_law_deed" sDe aD.De gm
 FLx:Es K mg "_law_do" sLx aD.Lx na
 FVp:Es K mg "_law_plan" sVp aD.Vp ["_law_rows_here"]
 FVk:Es K mg "_law_key" sVk aD.Vk ew
 FVa:Es K mg "_law_all_keys" sVa aD.Va ["_law_plan_here"]
 FVc:Es K mg "_law_coupled" sVc aD.Vc ez
 FVq:Es K mg "_law_pipe" sVq aD.Vq ew
 FVs:Es K mg "_law_pipes" sVs aD.Vs ez
 FOi:ni K "__init__" "Organ.__init__" g_ aD.Oi gA (Mk K C aD.Oi.f)
 FOb:J5 K C "boards" "Organ.boards" sOb aD.Ob dv
 FOc:J5 K C "key_count" "Organ.key_count" sOc aD.Oc dv
 FOk:J5 K C "key" "Organ.key" sOk aD.Ok lS
 FOo:J5 K C "board_of" "Organ.board_of" sOo aD.Oo f0
 FBk:J5 K C "board_of_knob" "Organ.board_of_knob" sBk aD.Bk eH
 FOp:J5 K C "coupler" "Organ.coupler" sOp aD.Op eH
 FOr:J5 K C "ranks" "Organ.ranks" sOr aD.Or dv
 FOq:J5 K C "pipe_count" "Organ.pipe_count" sOq aD.Oq dv
 FOe:J5 K C "pipe" "Organ.pipe" sOe aD.Oe nK
 FOs:J5 K C "stop" "Organ.stop" sOs aD.Os eH
 FOm:J5 K C "mute" "Organ.mute" sOm aD.Om eH
 FOu:J5 K C "board_number" "Organ.board_number" sOu aD.Ou ey
 FOj:J5 K C "knob_number" "Organ.knob_number" sOj aD.Oj ey
 FOy:J5 K C "steps" "Organ.steps" sOy aD.Oy dv
 FOz:J5 K C "knobs" "Organ.knobs" sOz aD.Oz dv
 FXi:ni K "__init__" "Console.__init__" sXi aD.Xi hY (Mk K Cy aD.Xi.f)
 FXd:J5 K Cy "draw" "Console.draw" sXd aD.Xd j5
 FXp:J5 K Cy "pull" "Console.pull" sXp aD.Xp ey
 FXq:J5 K Cy "push" "Console.push" sXq aD.Xq ey
 FXk:J5 K Cy "knobs" "Console.knobs" sXk aD.Xk dv
 FXh:J5 K Cy "shoe" "Console.shoe" sXh aD.Xh pi
 FXt:VG K "store" "Console.store" R1 aD.Xt.f aD.Xt.d/\Binds K aD.Xt.d gp []/\Meth K Cy "store" aD.Xt.f/\Binds K aD.Xt.d gp [.none]
 FXr:J5 K Cy "press" "Console.press" sXr aD.Xr ou
 FXc:J5 K Cy "cancel" "Console.cancel" sXc aD.Xc dv
 FPi:ni K "__init__" "Piston.__init__" sPi aD.Pi j5 (Mk K pE aD.Pi.f)
 FEp:J5 K pE "put" "Every.put" sEp aD.Ep i7
 FAi:ni K "__init__" "Part.__init__" sAi aD.Ai nN (Mk K pA aD.Ai.f)
 FAp:J5 K pA "put" "Part.put" sAp aD.Ap i7
 FQi:ni K "__init__" "Player.__init__" sQi aD.Qi hY (Mk K Cp aD.Qi.f)
 FQh:J5 K Cp "hold" "Player.hold" sQh aD.Qh f0
 FQl:J5 K Cp "leave" "Player.leave" sQl aD.Ql f0
 FQa:J5 K Cp "act" "Player.act" sQa aD.Qa hK
 FQd:J5 K Cp "do" "Player.do" sQd aD.Qd hK
 FQs:J5 K Cp "sound" "Player.sound" sQs aD.Qs dv
 FQe:J5 K Cp "held" "Player.held" sQe aD.Qe dv
 FQk:J5 K Cp "knobs" "Player.knobs" sQk aD.Qk dv
 cPi:bf K pB "__init__" aD.Pi.f (.type "type")
section
variable{CX:V1}{k:_c}{x q m:_m}{st:Ú}{a:FA}{sp:Sp}{E:XK}{p:ī}{o e:Expr}{to:TE}{t:TA}
theorem BJ(F:Es X.K X.mg x st a ps)(G:BP X.prog X.w X.K X.mg X.base CX k a ps sp)(c:DN n X.A)(g:PA X (e::es) t)(h:k<=n:=by decide)(i:FZ CX X E:=by first | exact J7 | exact Nr)(d:Gl X x:=by rfl)
  (j:(x == ("__debug__" : _m))=false:=by decide) (f:starEach (e::es) X.env=(_p,eval e X.env)::starEach es X.env:=by rfl) (b:(backTo pos<|starEach es X.env).any (·.1)=false:=by rfl) :
  PE X (.Call (.Name x p) (e::es) [] pos) (cT sp [] E t):=gU G (c.mono h) d F.2.2 F.1.kp F.2.1 .nil i g j f b
theorem Fd{pl:ũ _O}(i:PE X o to)(c:Py X.K C)(F:J5 X.K C m q st a ps)(G:BP X.prog X.w X.K X.mg X.base CX k a ps sp)(g:DN n X.A)(l:PA X (e::es) t)(h:k<=n:=by decide)(p:FZ CX X E:=by first | exact J7 | exact Nr)
  (b:starEach (e::es) X.env=(_p,eval e X.env)::starEach es X.env:=by rfl)(d:(backTo pos<|starEach es X.env).any (·.1)=false:=by rfl)
  (j:eval (.Call (.Attribute o m i5) (e::es) [] pos) X.env=(do
   let ov <-eval o X.env
   standAt i5.atName
   let (f,first) <-holding [ov] (getMethod ov m pl)
   callWith pos f first (backTo pos<|starEach (e::es) X.env) (backToKw pos<|keywordEach [] X.env)):=by rfl) :
  PE X (.Call (.Attribute o m i5) (e::es) [] pos) (Tj C m sp [] E to t):=XH i c F.2.2 G (g.mono h) F.2.1 .nil p l b d j
theorem Dp{pl:ũ _O}(d:PE X o to)(c:Py X.K C)(F:J5 X.K C m q st a ps)(G:BP X.prog X.w X.K X.mg X.base CX k a ps sp)(b:DN n X.A)(h:k<=n:=by decide)(g:FZ CX X E:=by first | exact J7 | exact Nr)
  (e:eval (.Call (.Attribute o m i5) [] [] pos) X.env=(do
   let ov <-eval o X.env
   standAt i5.atName
   let (f,first) <-holding [ov] (getMethod ov m pl)
   callWith pos f first (backTo pos<|starEach [] X.env) (backToKw pos<|keywordEach [] X.env)):=by rfl) :
  PE X (.Call (.Attribute o m i5) [] [] pos) (Tj C m sp [] E to rY):=Zi d c F.2.2 G (b.mono h) F.2.1 .nil g e
end
section
variable{w:_P}{K:_q}{pB cK cP cB cS cO cH cY cD aQ aN aK:_d}{aD:Ad}
variable(N:Fns K mg C Cy Cp pB pE pA aD)(T:Txt K w.params mg C Cy Cp pB pE pA cK cP cB cS cO cH cY cD aQ aN aK aB aP aM)
inductive ir(vs:_a V)(H:Hp)(Q:VK)(d0:XK):Prop
|mk(i:_j)(_:vs=[.int i])(_:Q (.bl _g) H)
theorem y_:Am fx fx<|Ae sWh:=Bc
include N T in
theorem nj:BP P w K mg base BV 1 aD.Wh fx ir:=by
 refine N.FWh.1.DY y_ λH b Q E a h=>?_;obtain⟨i,rfl,q⟩:=h;refine⟨_,Af<|Aq<|Dl (Ay DW U T.isin cf<|Aa (pv 0)<|Aa (Em (v:=.ty "int") U T.int gc U) Ab)<|Dh<|Vu<|Ay DW U T.isin cf<|Aa (pv 0)<|Aa (Em (v:=.ty "bool") U T.bool Ņ U) Ab,?_⟩;refine⟨_,"int",_,_,U,.int i,ty_int,?_⟩;exact⟨_,"bool",_,_,U,.int i,nZ,q⟩
inductive qQ(vs:_a V)(H:Hp)(Q:VK)(d0:XK):Prop
|mk(z:_m)(_:vs=[.str z,.str letters,.int 8])(_:isNm z)(_:∀H',Aj H H'->Q (.bl _g) H')
theorem xX:Am hH hH<|Ae sMd:=Bc
include N T in
theorem AAd:BP P w K mg base BV 1 aD.Md hH qQ:=by
 refine N.FMd.1.DY xX λH m Q E l h=>?_;obtain⟨z,rfl,d,q⟩:=h;refine⟨_,Af<|Aq<|Dl (HN Ei Ei Al (Ay MF U T.len bt<|Aa (pv 0) Ab)<|pv 2)<|Dh<|Ay (JM U) U T.all gX<|Aa (Bp U (Bb (osc:=Ae sMd) (N:=hH) U U<|by decide) (eE<|pv 0) (λ_ _ _ _=>Cj)<|λ_ _ _ _=>(DX QC (pv 0) (pv 2) U)) Ab,?_⟩;have b:z.length<sizeLine:=Ax (by have:=d.2.1;exact rx this (by decide));refine⟨z,U,fR b,?_⟩;refine Cz (λi=>?_)<|λi=>_z (_i (by have:=d.1;exact KK.mpr this)) i
 refine Cz (λj=>?_)<|λj=>_z (_i (by have:=d.2.1;exact KK.mpr this)) j
 refine⟨z,U,Ub (λ_=>_g) (λc=>.bl<|jf letters c) b (λc f a g R k=>k a<|Aj.refl a) (λc f _ a g R k=>⟨_,_,U,U,k a<|Aj.refl a⟩)<|λD a n g hl=>?_⟩;refine⟨D,z.cps.toList.map<|jf letters,U,.inl<|.inl ?_,?_⟩
 .rw[hl,cw.mpr<|λ_ _=>rfl,bb];rfl
 .have e:(z.cps.toList.map<|jf letters).all id=true:=by
   rw[oC,gi];intro c f;have:=d.2.2 c f;show jf letters c=_g;rw[RD c (cc this.2 (by decide))];exact _i this
  rw[e];exact q a g
inductive j7(vs:_a V)(H:Hp)(Q:VK)(d0:XK):Prop
|mk(z:_m)(_:vs=[.str z])(_:isNm z)(_:∀H',Aj H H'->Q (.bl _g) H')
theorem wN:Am fx fx<|Ae sNm:=Bc
include N T in
theorem oF:BP P w K mg base BV 2 aD.Nm fx j7:=by
 refine N.FNm.1.DY wN λH g Q E a h=>?_;obtain⟨z,rfl,b,q⟩:=h;obtain⟨d,e⟩:=T.letters;obtain⟨c,f⟩:=T.mostL;refine⟨_,Af<|Aq<|Dl (Ay DW U T.isin cf<|Aa (pv 0)<|Aa (Em (v:=.ty "str") U T.str jS U) Ab)<|Dh<|BJ N.FMd (AAd N T) a<|Aa (pv 0)<|Aa (Cu (v:=.str letters) U e ⟨d,U⟩)<|Aa (Cu (v:=.int 8) U f ⟨c,U⟩) Ab,?_⟩;refine⟨_,"str",_,_,U,.str z,W_,?_⟩;exact⟨z,U,b,q⟩
inductive VF(vs:_a V)(H:Hp)(Q:VK)(d0:XK):Prop
|mk(p:_d)(us:_a V)(w:_m)(ρ:V->R)(_:vs=[.ref p,.str w])(_:H p=_b (.lst us))(_:Rows H ρ us)(_:us.length<=500)(_:∀D H',H D=_o->Aj H H'->H' D=_b (.lst (us.filter (pw ρ w)))->Q (.ref D) H')
theorem scRo:Am o5 o5<|Ae sRo:=Bc
include N T in
theorem Uo:BP P w K mg base BV 1 aD.Ro o5 VF:=by
 refine N.FRo.1.DY scRo λH o Q E n h=>?_;obtain⟨p,c,w,ρ,rfl,l,g,hl,q⟩:=h;refine⟨_,Af<|Aq<|Bp U (Bb (osc:=Ae sRo) (N:=o5) U U<|by decide) (Bl<|pv 0) (λ_ _ _ _=>(G7<|Bd Bt (An K<|pv 0)<|pv 2))<|λ_ _ _ _=>(pv 0),?_⟩;have f:Dd K H p c:=.inl<|.inl l
 refine⟨⟨_,f⟩,Ed (K:=K) (xs:=c) (pw ρ w) id f (Ax<|rx hl (by decide)) (λx d a b R k=>?_) (λx d _ a b R k=>k a<|Aj.refl a)<|λD a i b e=>?_⟩
 .obtain⟨r,rfl,m⟩:=(g x d).mono b;exact⟨_,_,oP m,Av (j:=0) U,U,k a<|Aj.refl a⟩
 .rw[nt] at e;exact q D a i b e
inductive jc(vs:_a V)(H:Hp)(Q:VK)(d0:XK):Prop
|mk(p:_d)(us:_a V)(w t:_m)(ρ:V->R)(_:vs=[.ref p,.str w,.str t])(_:H p=_b (.lst us))(_:Rows H ρ us)(_:us.length<=500)(_:isNm t)(_:∀H',Aj H H'->Q (.bl (gB ρ us w t)) H')
theorem scTo:Am j4 j4<|Ae sTo:=Bc
include N T in
theorem mG:BP P w K mg base BV 3 aD.To j4 jc:=by
 refine N.FTo.1.DY scTo λH F Q E f h=>?_;obtain⟨p,a,w,t,ρ,rfl,o,i,hl,r,q⟩:=h;refine⟨_,Af<|Aq<|Dl (BJ N.FNm (oF N T) f<|Aa (pv 2) Ab)<|Dh<|Ay (O3 U) U T.any lP<|Aa (Bp U (Bb (osc:=Ae sTo) (N:=j4) U U<|by decide) (Bl<|BJ N.FRo (Uo N T) f<|Aa (pv 0)<|Aa (pv 1) Ab) (λ_ _ _ _=>Cj)<|λ_ _ _ _=>(DX Bt (An K<|pv 0) (pv 3)<|Et _)) Ab,?_⟩;refine⟨t,U,r,λI c=>?_⟩;refine⟨p,a,w,ρ,U,c _ _ o,i.mono c,hl,λD u G g d=>?_⟩;have m:Dd K u D<|a.filter<|pw ρ w:=.inl<|.inl d
 refine⟨⟨_,m⟩,Ed (K:=K) (xs:=a.filter<|pw ρ w) (λ_=>_g) (λv=>.bl<|pn ρ t v) m (Ax (by have:=KH (pw ρ w) a;exact rx this (rx hl (by decide)))) (λx l b n R k=>k b<|Aj.refl b) (λx l _ b n R k=>?_)<|λA s J z B=>?_⟩
 .obtain⟨C,rfl,y⟩:=(((i.mono c).mono g).mono n) x (be.mp l).1;exact⟨_,_,oP y,Av (j:=1) U,U,k b<|Aj.refl b⟩
 .refine⟨A,(a.filter<|pw ρ w).map<|pn ρ t,U,.inl<|.inl ?_,?_⟩
  .rw[B,cw.mpr<|λ_ _=>rfl,bb];rfl
  .have e:((a.filter<|pw ρ w).map<|pn ρ t).any id=gB ρ a w t:=by
    rw[Ÿ];rfl
   rw[e];exact q s<|(c.trans g).trans z
inductive pO(K:_q)(vs:_a V)(H:Hp)(Q:VK)(d0:XK):Prop
|mk(i lo hi:_j)(b:_d)(_:vs=[.int i,.ref b])(_:KTup K b [.int lo,.int hi])(_:lo<=i)(_:i<=hi)(_:Q (.bl _g) H)
theorem scWi:Am pu pu<|Ae sWi:=Bc
include N T in
theorem xN:BP P w K mg base BV 2 aD.Wi pu<|pO K:=by
 refine N.FWi.1.DY scWi λH g Q E d h=>?_;obtain⟨i,lo,f,b,rfl,a,c,e,q⟩:=h;refine⟨_,Af<|Aq<|Dl (BJ N.FWh (nj N T) d<|Aa (pv 0) Ab)<|Dh<|HN Ei Ei (An K<|pv 1) (pv 0)<|An K<|pv 1,?_⟩;refine⟨i,U,?_⟩;refine⟨_,_,a.sq _,U,?_⟩;refine Cz (λ_=>?_)<|λz=>_z (_i c) z
 refine⟨_,_,a.sq _,U,?_⟩;show Q (.bl (decide (i<=f))) H;rw[_i e];exact q
inductive vB(K:_q)(aB:_d)(vs:_a V)(H:Hp)(Q:VK)(d0:XK):Prop
|mk(x:V)(part:_m)(p:_d)(us:_a V)(ρ:V->R)(_:vs=[x,.str part,.ref p])(_:H p=_b (.lst us))(_:Rows H ρ us)(_:us.length<=500)(_:KR K aB ρ us x part)(_:∀H',Aj H H'->Q (.bl _g) H')
theorem scPa:Am j0 j0<|Ae sPa:=Bc
include N T in
theorem yG:BP P w K mg base BV 4 aD.Pa j0<|vB K aB:=by
 refine N.FPa.1.DY scPa λH vs Q E e h=>?_;obtain⟨x,part,p,u,ρ,rfl,B,A,hl,n,q⟩:=h;refine⟨_,(Ac (Bg (PP<|bY (pv 1)<|Cu (v:=.ref aB) U T.mB U) (Af<|Aq<|BJ N.FWi (xN N T) e<|Aa (pv 0)<|Aa (Ry (Cu (v:=.ref aB) U T.mB U) (pv 1)<|λ_ _=>rfl) Ab) BR)
  (Ac (Bg (Bd Bt (pv 1) Aw) (Af<|Aq<|Dl (BJ N.FNm (oF N T) e<|Aa (pv 0) Ab)<|Dh<|Vu<|Ay (O3 U) U T.any lP<|Aa (Bp U (Bb (osc:=Ae sPa) (N:=j0) U U<|by decide) (VH<|Cu (v:=.ref aN) U T.mN U) (λ_ _ _ _=>Cj)<|λ_ _ _ _=>(BJ N.FTo (mG N T) e<|Aa (pv 3)<|Aa (pv 0)<|Aa (pv 1) Ab)) Ab) BR)
  (Af<|Aq<|BJ N.FTo (mG N T) e<|Aa (pv 2)<|Aa (pv 1)<|Aa (pv 0) Ab))),?_⟩
 rcases n with⟨i,lo,Y,b,rfl,c,J,G,L⟩ | ⟨c,rfl,t,rfl,g,m⟩ | ⟨c,s,t,rfl,g,X⟩
 .refine⟨aB,part,_,U,U,T.dB,c,?_⟩;exact⟨aB,part,.ref b,_,U,U,T.dB,c,U,i,lo,Y,b,U,J,G,L,q H<|Aj.refl H⟩
 .refine⟨aB,_,_,U,U,T.dB,c,?_⟩;refine⟨U,?_⟩;refine⟨t,U,g,λS r=>Jx ?_⟩;have l:JD K S aN<|named.map V.str:=T.tN.sq _
  refine⟨⟨_,l⟩,Hu (xs:=named.map V.str) (λ_=>_g) (λ_=>.bl _p) (by show 5<sizeLine;decide) (λi j x a f=>⟨_,x,a.tup l,f⟩) (λi j y Z a _ F=>⟨F.1,F.2 _<|a.tup l⟩) (λj a=>⟨_,a.tup l,Η _⟩)
   (λx f d a R k=>k d<|Aj.refl d) (λx f _ d a R k=>?_) (λD j hD I o=>?_)⟩
  .obtain⟨C,M,rfl⟩:=ay.mp f;refine⟨p,u,C,t,ρ,U,a _ _<|r _ _ B,(A.mono r).mono a,hl,g,λW O=>?_⟩;rw[m C M];exact k W O
  .refine⟨D,[_p,_p,_p,_p,_p],U,oP o,?_⟩;exact q j<|r.trans I
 .refine⟨aB,_,_,U,U,T.dB,c,?_⟩;refine⟨U,?_⟩;refine Cz (λz=>_z (V.str.inj<|_s z) s)<|λ_=>?_
  refine⟨p,u,part,t,ρ,U,B,A,hl,g,λd a=>?_⟩;rw[X];exact q d a
inductive tU(K:_q)(aB aP:_d)(vs:_a V)(H:Hp)(Q:VK)(d0:XK):Prop
|mk(r p:_d)(w:_m)(xs:_a V)(us:_a V)(ρ:V->R)(ap:_d)(ps:_a _m)(_:vs=[.ref r,.ref p])(_:H r=_b (.tup (.str w::xs)))(_:H p=_b (.lst us))(_:Rows H ρ us)(_:us.length<=500)(_:_W K aP w=_b (_b (.ref ap)))(_:KTup K ap (ps.map V.str))(_:xs.length=ps.length)(_:ps.length<=10)(_:∀(i:_c) x y,xs[i]? = _b x->ps[i]? = _b y->KR K aB ρ us x y)(_:∀H',Aj H H'->Q (.bl _g) H')
theorem yH:Am ["row","ahead","parts"] hJ (Ae sHp):=Bc
include N T in
theorem zZ:BP P w K mg base BV 5 aD.Hp hJ<|tU K aB aP:=by
 refine N.FHp.1.DY yH λH vs Q E L h=>?_;obtain⟨r,p,w,xs,M,ρ,s,f,rfl,g,X,O,hl,hn,u,a,ET,m,q⟩:=h;refine⟨_,(Ac (BZ (i:=2) yH.nd U (Or.inl U)<|Ry (Cu (v:=.ref aP) U T.mP U) (An K<|pv 0)<|λ_ _=>rfl)
  (Ac (Bg (Bd PB (Ay BL U T.len bt<|Aa (pv 0) Ab)<|BK Bu Al<|Ay BL U T.len bt<|Aa (pv 2) Ab) (Af<|Aq JN) BR)
  (Af<|Aq<|Ay (JM U) U T.all gX<|Aa (RP U (Io (osc:=Ae sHp) (N:=["row","ahead","parts"]) U U<|by decide) (iT U T.zip<|Aa (FN Rb (pv 0) (Fi Al) Gk)<|Aa (pv 2) Ab) (λ_ _ _ _=>Cj)<|λ_ _ _ _=>(BJ N.FPa (yG N T) L<|Aa (pv 0)<|Aa (pv 1)<|Aa (pv 3) Ab)) Ab))),?_⟩
 refine⟨_,_,oP g,Av (j:=0) U,aP,w,.ref s,_,U,U,T.dP,hn,U,?_⟩;refine⟨r,_,U,.inr<|.inl<|.inl g,s,_,U,.inr<|u.sq _,U,?_⟩;refine Cz (λz=>?_)<|λ_=>?_
 .exfalso;have e:(((V.str w::xs).length:_c):_j)=1+(((f.map V.str).length:_c):_j):=by
   rw[bi,ah,a];lia
  rw[e] at z;simp at z
 .have b:FQ (V.str w::xs) (_b 1) _o=xs:=by
   unfold FQ;have n:HT.Ex (V.str w::xs).length 0 (_b ((1:_c):_j))=1:=by rw[HT.Gu,bi];lia
   have t:HT.Ex (V.str w::xs).length 0 (_b (1:_j))=1:=n;rw[t,HT.N5,uj,ŗ];exact fE<|by rw[bi];lia
  refine⟨r,_,U,oP g,λz=>?_,λB vn=>?_⟩
  .have n:HT.Ex (V.str w::xs).length 0 (_b ((1:_c):_j))=1:=by rw[HT.Gu,bi];lia
   have:=z.1.symm.trans n
   cases this
  rw[b];obtain⟨Z,S,d,a2⟩:=Dr (o:=HO.tup xs) vn;rw[S];have A:JD K Z B xs:=.inl<|.inl a2
  refine⟨B,s,U,⟨_,A⟩,⟨_,u.sq _⟩,aU (K:=K) (xs:=xs) (ys:=f.map V.str) (λ_ _=>.bl _g) A (u.sq _) (by rw[ah];exact a) (Ax<|by lia) (λi x y W F C c R k=>?_)<|λD C hD c I=>?_⟩
  .rw[ar] at F;obtain⟨part,J,rfl⟩:=aI.mp F;exact⟨x,part,p,M,ρ,U,c _ _<|d _ _ X,(O.mono d).mono c,hl,m i x part W J,λY s4=>k Y s4⟩
  .have e:Ó (λ_ _=>V.bl _g) xs (f.map V.str)=(Λ xs.length _g).map V.bl:=by
    rw[List.map_replicate];refine gu λi=>?_;rw[gT];by_cases G:i<xs.length
    .rw[af G,af<|by rw[ah];exact wT G a,af<|by rw[lc];exact G];simp
    .rw[eD (me G),eD (l:=Λ _ _)<|by rw[lc];exact me G]
   rw[e] at I;refine⟨D,Λ xs.length _g,U,oP I,?_⟩;have e2:(Λ xs.length _g).all id=true:=by simp
   rw[e2];exact q C<|d.trans c
inductive tM(vs:_a V)(H:Hp)(Q:VK)(d0:XK):Prop
|mk(p:_d)(us:_a V)(ρ:V->R)(c:_c)(_:vs=[.ref p])(_:H p=_b (.lst us))(_:Rows H ρ us)(_:us.length<=500)(_:mJ ρ us c)(_:Q (.int (c:_c)) H)
theorem iW:Am ["rows","count","row"] ["rows"] (Ae sCl):=Bc
include N T in
theorem xW:BP P w K mg base BV 1 aD.Cl ["rows"] tM:=by
 refine N.FCl.1.DY iW λH D Q E C h=>?_;obtain⟨p,g,ρ,c,rfl,y,o,hl,l,q⟩:=h;refine⟨_,(Ac (BZ (i:=1) iW.nd U (Or.inl U) Al)
  (Ac (DQ _M U (o9 U T.reversed<|Aa (pv 0) Ab) (Bh (i:=2) iW.nd U<|Or.inl U) (Ac (Bg (Bd PB (An K<|pv 2) Aw) (Af Z3) BR)
  (Af<|BZ (i:=1) iW.nd U (Or.inl U)<|BK Bu (pv 1) Al)))
  (Af<|Aq<|pv 1))),?_⟩
 have n:Dd K H p g:=.inl<|.inl y
 refine⟨p,g,U,n,jn (K:=K) (a:=p) (xs:=g) (λi σ d=>d=H/\i<=c/\∃m,σ=[_b (.ref p),_b<|.int (i:_c),m]) ⟨U,eK _,_,U⟩ (λi σ d _ h=>by rw[h.1];exact n) ?_ ?_⟩
 .rintro i x σ d F k ⟨rfl,B,m,rfl⟩;obtain⟨r,rfl,s⟩:=o x<|ai k;refine⟨_,_,oP s,Av (j:=0) U,U,?_⟩;by_cases e:(ρ<|.ref r).w = "line"
  .have u:i≠c:=λz=>by
    obtain⟨v,b,f⟩:=l.no;rw[<-z,k] at b
    cases b;exact f e
   refine Xm (congrArg V.str e) ?_;exact⟨U,by lia,_,U⟩
  .have t:i=c:=by
    refine Classical.byContradiction λz=>?_;obtain⟨v,b,A⟩:=l.all i<|IO B z
    rw[k] at b
    cases b;exact e A
   subst t;rw[_t λz=>e<|V.str.inj z];refine Jx ?_;exact q
 .rintro σ d ⟨rfl,B,m,rfl⟩;have:=l.lt;lia
inductive uv(vs:_a V)(H:Hp)(Q:VK)(d0:XK):Prop
|mk(n:_j)(bd:_m)(p:_d)(us:_a V)(ρ:V->R)(_:vs=[.int n,.str bd,.ref p])(_:H p=_b (.lst us))(_:Rows H ρ us)(_:us.length<=500)(_:GK ρ us)(_:∀H',Aj H H'->Q (.bl (keyOf ρ us bd n)) H')
theorem scIk:Am hQ hQ<|Ae sIk:=Bc
include N T in
theorem wX:BP P w K mg base BV 2 aD.Ik hQ uv:=by
 refine N.FIk.1.DY scIk λH O Q E B h=>?_;obtain⟨n,j,p,a,ρ,rfl,C,s,hl,A,q⟩:=h;refine⟨_,Af<|Aq<|Ay (O3 U) U T.any lP<|Aa (Bp U (Bb (osc:=Ae sIk) (N:=hQ) U U<|by decide) (Bl<|BJ N.FRo (Uo N T) B<|Aa (pv 2)<|Aa Aw Ab) (λ_ _ _ _=>Cj)<|λ_ _ _ _=>(Dl (DX Bt (An K<|pv 0) (pv 2)<|Et _)<|Dh<|DX Gw (pv 1) (An K<|pv 0)<|Et _)) Ab,?_⟩;refine⟨p,a,"board",ρ,U,C,s,hl,λD G S r o=>?_⟩;have u:Dd K G D<|a.filter<|pw ρ "board":=.inl<|.inl o
 refine⟨⟨_,u⟩,Ed (K:=K) (xs:=a.filter<|pw ρ "board") (λ_=>_g) (λv=>.bl (pn ρ j v && decide (n<uG (ρ v)))) u (Ax (by have:=KH (pw ρ "board") a;exact rx this (rx hl (by decide)))) (λx t b y R k=>k b<|Aj.refl b) (λx t _ b y R k=>?_)<|λL F W I M=>?_⟩
 .have f:=be.mp t;obtain⟨m,z⟩:=A x f.1<|V.str.inj<|_s f.2;have J:uG (ρ x)=m:=by unfold uG;rw[z]
  have l:=((s.mono r).mono y) x f.1;have c:=k b<|Aj.refl b
  rw[J] at c;obtain⟨i,rfl,l⟩:=l;have c:R (.bl (decide (V.str (ρ<|.ref i).nm=V.str j) && decide (n<m))) b:=c;have d:b i=_b (.tup<|.str (ρ<|.ref i).w :: .str (ρ<|.ref i).nm::(ρ<|.ref i).rest):=l;rw[z] at d;refine⟨_,_,oP d,U,U,?_⟩;refine Cz (λg=>?_)<|λg=>?_
  .rw[g,hU] at c;exact⟨_,_,oP d,U,c⟩
  .rw[(ft _).mp g,hV] at c;exact c
 .refine⟨L,(a.filter<|pw ρ "board").map (λv=>pn ρ j v && decide (n<uG (ρ v))),U,.inl<|.inl ?_,?_⟩
  .rw[M,cw.mpr<|λ_ _=>rfl,bb];rfl
  .have e:((a.filter<|pw ρ "board").map (λv=>pn ρ j v && decide (n<uG (ρ v)))).any id=keyOf ρ a j n:=by
    rw[Ÿ];rfl
   rw[e];exact q F<|r.trans I
inductive sE(vs:_a V)(H:Hp)(Q:VK)(d0:XK):Prop
|mk(r p:_d)(ro:R)(us:_a V)(ρ:V->R)(_:vs=[.ref r,.ref p])(_:H r=_b (.tup ro.v))(_:H p=_b (.lst us))(_:Rows H ρ us)(_:us.length<=500)(_:V9 ρ us ro)(_:GK ρ us)(_:∀H',Aj H H'->Q (.bl _g) H')
theorem uY:Am ["line","ahead","count","row"] ["line","ahead"] (Ae sSb):=Bc
include N T in
theorem AAj:BP P w K mg base BV 3 aD.Sb ["line","ahead"] sE:=by
 refine N.FSb.1.DY uY λH X Q E l h=>?_;obtain⟨r,p,n,b,ρ,rfl,D,k,d,hl,A,x,q⟩:=h;obtain⟨C,J⟩:=T.mostLn;refine⟨_,(Ac (BZ (i:=2) uY.nd U (Or.inl U)<|BJ N.FCl (xW N T) l<|Aa (pv 1) Ab)
  (Ac (BZ (i:=3) uY.nd U (Or.inl U)<|Gi En (pv 1) (BK GZ (BK GZ (Ay BL U T.len bt<|Aa (pv 1) Ab) Al)<|pv 2)<|λ_ _=>rfl)
  (Ac (Bg (PW.pt<|Fy (Bd PB (An K<|pv 3) Aw)<|Eu<|Bd nH (pv 2)<|Cu (v:=.int 4) U J ⟨C,U⟩) (Af<|Aq JN) BR)
  (Af<|Aq<|Dl (DX Ei (An K<|pv 0) (An K<|pv 0)<|Et _)<|Dh<|BJ N.FIk (wX N T) l<|Aa (An K<|pv 0)<|Aa (An K<|pv 3)<|Aa (pv 1) Ab)))),?_⟩
 obtain⟨cnt,v,F,lo,u,t,y,O,s,W,o,B,G,f,S⟩:=A.ex;have c:H r=_b (.tup [.str n.w,.str n.nm,.int F,.int lo,.int u]):=by rw[D,<-O]
 obtain⟨e,rfl,g⟩:=d v<|ai o;have a:H e=_b (.tup<|.str (ρ<|.ref e).w :: .str (ρ<|.ref e).nm :: .str t::y):=by rw[g,<-G]
 have L:=s.lt;have R:((b.length:_c):_j) - 1 - ((cnt:_c):_j)=((b.length - 1 - cnt:_c):_j):=by lia
 have m:Dd K H p b:=.inl<|.inl k
 refine⟨p,b,ρ,cnt,U,k,d,hl,s,?_⟩;refine⟨p,b,U,.inl m,b,_,m,by rw[R];exact Av o,?_⟩;refine⟨_,_,oP a,Av (j:=0) U,U,Xm (congrArg V.str B) ?_⟩;refine Cz (λz=>?_)<|λ_=>?_
 .have:=_s z;lia
 refine⟨_,_,oP c,U,_,_,oP c,U,?_⟩;refine Cz (λ_=>?_)<|λz=>_z (_i f) z
 refine⟨_,_,oP c,Av (j:=4) U,_,_,oP a,Av (j:=2) U,u,t,p,b,ρ,U,k,d,hl,x,λI M=>?_⟩;rw[S];exact q I M
inductive uP(vs:_a V)(H:Hp)(Q:VK)(d0:XK):Prop
 | mk(r p:_d)(ro:R)(us:_a V)(ρ:V->R)(ts:_a _m):vs=[.ref r,.ref p]->H r=_b (.tup ro.v)->H p=_b (.lst us)->Rows H ρ us->us.length<=500->V.str ro.nm::ro.rest=ts.map V.str->ts.Nodup->ts.length<=24->(∀t∈ts,isNm t/\gB ρ us "stop" t=_g)->(∀H',Aj H H'->Q (.bl _g) H')->uP vs H Q d0
theorem AAH:Am ["row","ahead","names"] hJ (Ae sIs):=Bc
include N T in
theorem yQ:BP P w K mg base BV 5 aD.Is hJ uP:=by
 refine N.FIs.1.DY AAH λH vs Q E L h=>?_;obtain⟨r,p,d,M,ρ,c,rfl,G,X,O,hl,J,nd,Cb,l,q⟩:=h;refine⟨_,(Ac (BZ (i:=2) AAH.nd U (Or.inl U)<|FN Rb (pv 0) (Fi Al) Gk)
  (Ac (Bg (PW.pt<|Fy (Bd Bt (Ay BL U T.len bt<|Aa (pv 2) Ab) Al)<|Eu<|DP<|Di<|Ay (JM U) U T.all gX<|Aa (Bp U (Bb (osc:=Ae sIs) (N:=["row","ahead","names"]) U U<|by decide) (VH<|pv 2) (λ_ _ _ _=>Cj)<|λ_ _ _ _=>(BJ N.FTo (mG N T) L<|Aa (pv 2)<|Aa Aw<|Aa (pv 0) Ab)) Ab) (Af<|Aq JN) BR)
  (Af<|Aq<|DX Bt (Ay QB U T.len bt<|Aa (Ci (Yn U) U T.set JU<|Aa (pv 2) Ab) Ab) (Ay BL U T.len bt<|Aa (pv 2) Ab)<|Et _))),?_⟩
 have hv:d.v=V.str d.w::c.map V.str:=by
  show V.str d.w::(V.str d.nm::d.rest)=_;rw[J]
 rw[hv] at G;have ab:1<=c.length:=by
  cases c with
  |nil=>cases J
  |cons a b=>exact md<|eK _
 have f:FQ (V.str d.w::c.map V.str) (_b 1) _o=c.map V.str:=by
  unfold FQ;have v:HT.Ex (V.str d.w::c.map V.str).length 0 (_b 1)=1:=by
   rw[show (_b (1:_j))=_b ((1:_c):_j) from rfl,HT.Gu];simp
  rw[v,HT.N5];simp;exact fE<|by rw[ah];exact al _
 refine⟨r,_,U,oP G,?_,λg HK=>?_⟩
 .rintro⟨z,_⟩;have v:HT.Ex (V.str d.w::c.map V.str).length 0 (_b 1)=1:=by
   rw[show (_b (1:_j))=_b ((1:_c):_j) from rfl,HT.Gu];simp
  rw[v] at z
  cases z
 rw[f];obtain⟨H1,W,y,I⟩:=Dr (o:=HO.tup<|c.map V.str) HK;rw[W];have n:JD K H1 g<|c.map V.str:=.inl<|.inl I
 have u:(c.map V.str).length=c.length:=ah ..;refine⟨g,_,U,.inr n,U,Cz (λz=>?_)<|λ_=>?_⟩
 .exfalso;have:=V.int.inj<|_s z
  lia
 refine⟨⟨_,n⟩,Uq (K:=K) (xs:=c.map V.str) (λ_=>_g) (λ_=>.bl _g) n (Ax<|by lia) (λx F m s R k=>k m<|Aj.refl m) (λx F _ m s R k=>?_)<|λD H2 hD B t=>?_⟩
 .obtain⟨z,hz,rfl⟩:=ay.mp F;obtain⟨z1,z2⟩:=l z hz;refine⟨p,M,"stop",z,ρ,U,s _ _<|y _ _ X,(O.mono y).mono s,hl,z1,λZ j=>?_⟩;rw[z2];exact k Z j
 .refine⟨D,Λ c.length _g,U,.inl<|.inl ?_,?_⟩
  .rw[t,cw.mpr<|λ_ _=>rfl,bb];congr 2;refine gu λi=>?_;rw[ar,ar,ų];by_cases A:i<c.length
   .rw[af A,_n A];rfl
   .rw[eD (me A),_l A];rfl
  have Y:(Λ c.length _g).all id=true:=by simp
  rw[Y];refine Jz ?_;have C:=B _ _ I;refine⟨g,c,U,oP C,rx Cb (by decide),λS hS=>?_⟩;have j:=A_ (o:=TJ P w S<|c.foldl Ws.G8 []) hS;refine⟨S,_,U,Ah,g,_,U,.inr<|.inl<|.inl<|j _ _ C,U,?_⟩;have e:c.foldl Ws.G8 []=c:=(Qo c [] (by rw[ŋ];exact nd)).trans<|ŋ _
  have e2:decide (V.int (((c.foldl Ws.G8 []).length:_c):_j)=V.int (((c.map V.str).length:_c):_j))=true:=_i<|by rw[e,u]
  rw[e2];exact q _<|y.trans<|B.trans j
inductive jk(K:_q)(aB aP aM:_d)(vs:_a V)(H:Hp)(Q:VK)(d0:XK):Prop
|mk(r p:_d)(ro:R)(us:_a V)(ρ:V->R)(_:vs=[.ref r,.ref p])(_:H r=_b (.tup ro.v))(_:H p=_b (.lst us))(_:Rows H ρ us)(_:us.length<=500)(_:JH K aB aP aM ρ us ro)(_:∀H',Aj H H'->Q (.bl _g) H')
theorem scWm:Am hJ hJ<|Ae sWm:=Bc
include N T in
theorem zp:BP P w K mg base BV 6 aD.Wm hJ<|jk K aB aP aM:=by
 refine N.FWm.1.DY scWm λH G Q E d h=>?_;obtain⟨r,p,i,e,ρ,rfl,b,g,f,hl,m,q⟩:=h;refine⟨_,(Ac (Bg (Bd Bt (An K<|pv 0) Aw) (Af<|Aq<|BJ N.FIs (yQ N T) d<|Aa (pv 0)<|Aa (pv 1) Ab) BR)
  (Ac (Bg (Bd Bt (An K<|pv 0) Aw) (Af<|Aq<|Dl (BJ N.FHp (zZ N T) d<|Aa (pv 0)<|Aa (pv 1) Ab)<|Dh<|BJ N.FSb (AAj N T) d<|Aa (pv 0)<|Aa (pv 1) Ab) BR)
  (Af<|Aq<|Dl (bO<|bY (An K<|pv 0)<|Cu (v:=.ref aP) U T.mP U)<|Dh<|BJ N.FHp (zZ N T) d<|Aa (pv 0)<|Aa (pv 1) Ab))),?_⟩
 refine⟨_,_,oP b,Av (j:=0) U,U,?_⟩;rcases m with ok | ok
 case inr =>
  obtain⟨F,B,D,y,l⟩:=ok.ts;refine Cz (λ_=>?_)<|λz=>_z (_i<|congrArg V.str ok.w) z
  exact⟨r,p,i,e,ρ,F,U,b,g,f,hl,B,D,y,l,q⟩
 obtain⟨t,o,n,u,a,s,c⟩:=ok.parts;refine Cz (λz=>_z (V.str.inj<|_s z) ok.ns)<|λ_=>?_
 refine⟨_,_,oP b,Av (j:=0) U,U,?_⟩;refine Cz (λz=>?_)<|λ_=>?_
 .have C:=ok.line<|V.str.inj<|_s z
  refine⟨r,p,i.w,_,e,ρ,t,o,U,b,g,f,hl,n,u,a,s,c,λI k=>?_⟩;exact⟨r,p,i,e,ρ,U,k _ _ b,k _ _ g,f.mono k,hl,C,ok.vZ,λA x=>q A<|k.trans x⟩
 refine⟨_,_,oP b,Av (j:=0) U,aP,_,_,U,U,T.dP,n,?_⟩;exact⟨r,p,i.w,_,e,ρ,t,o,U,b,g,f,hl,n,u,a,s,c,q⟩
inductive uN(K:_q)(aM:_d)(vs:_a V)(H:Hp)(Q:VK)(d0:XK):Prop
|mk(p:_d)(w:_m)(us:_a V)(ρ:V->R)(_:vs=[.str w,.ref p])(_:H p=_b (.lst us))(_:Rows H ρ us)(_:us.length<=500)(_:_W K aM w=_b _o \/ ∃(m:_j)(t:y9),_W K aM w=_b (_b (.int m t))/\(((us.filter (pw ρ w)).length:_c):_j)<m)(_:∀H',Aj H H'->Q (.bl _g) H')
theorem scHr:Am rg rg<|Ae sHr:=Bc
include N T in
theorem zP:BP P w K mg base BV 2 aD.Hr rg<|uN K aM:=by
 refine N.FHr.1.DY scHr λH l Q E f h=>?_;obtain⟨p,w,d,ρ,rfl,j,i,hl,a,q⟩:=h;refine⟨_,Af<|Aq<|wH (bO<|Yu (pv 0)<|Cu (v:=.ref aM) U T.mM U)<|Dh<|DX Gw (Ay BL U T.len bt<|Aa (BJ N.FRo (Uo N T) f<|Aa (pv 1)<|Aa (pv 0) Ab) Ab) (Ry (Cu (v:=.ref aM) U T.mM U) (pv 0)<|λ_ _=>rfl)<|Et _,?_⟩;rcases a with b | ⟨m,t,b,k⟩
 .refine⟨aM,w,_,U,U,T.dM,b,Jx ?_⟩;exact q H<|Aj.refl H
 refine⟨aM,w,_,U,U,T.dM,b,?_⟩;refine⟨p,d,w,ρ,U,j,i,hl,λD e n g c=>?_⟩;refine⟨D,_,U,oP<|.inl c,aM,w,.int m,_,U,U,T.dM,b,⟨t,U⟩,?_⟩;show Q (.bl (decide ((((d.filter<|pw ρ w).length:_c):_j)<m))) e;rw[_i k];exact q e g
def xu(K:_q)(aB aP aM:_d):Sp:=jk K aB aP aM
theorem scIr:Am qv qv<|Ae sIr:=Bc
include N T in
theorem ym:BP P w K mg base BV 7 aD.Ir qv<|xu K aB aP aM:=by
 refine N.FIr.1.ok scIr (λn H Q E h=>?_)<|λu A f s H n Q E g h=>?_
 .obtain⟨r,p,b,d,ρ,rfl,_⟩:=h;rfl
 .obtain⟨r,p,b,d,ρ,rfl,c,k,i,hl,ok,q⟩:=h;refine⟨_,(Ac (Bg (PW.pt<|Fy (DP<|Di<|Ay DW U T.isin cf<|Aa (pv 0)<|Aa (Em (v:=.ty "tuple") U T.tuple kL U) Ab)<|Fy (Bd Bt (Ay BL U T.len bt<|Aa (pv 0) Ab) Al)<|Eu<|DP<|Di<|Ay DW U T.isin cf<|Aa (An K<|pv 0)<|Aa (Em (v:=.ty "str") U T.str jS U) Ab) (Af<|Aq JN) BR)
   (Af<|Aq<|Dl (BJ N.FWm (zp N T) g<|Aa (pv 0)<|Aa (pv 1) Ab)<|Dh<|BJ N.FHr (zP N T) g<|Aa (An K<|pv 0)<|Aa (pv 1) Ab)),?_⟩
  have a:_W K aM b.w=_b _o \/ ∃(m:_j)(t:y9),_W K aM b.w=_b (_b<|.int m t)/\(((d.filter<|pw ρ b.w).length:_c):_j)<m:=JH.room ok;refine⟨_,"tuple",_,_,U,.tup c,oV,?_⟩;refine⟨r,_,U,.inr<|.inl<|.inl c,U,?_⟩;refine Cz (λz=>?_)<|λ_=>?_
  .exfalso;have:=_s z;have:=V.int.inj this;simp at this;lia
  refine⟨_,_,oP c,Av (j:=0) U,_,"str",_,_,U,.str _,W_,?_⟩;refine⟨r,p,b,d,ρ,U,c,k,i,hl,ok,λx e=>?_⟩;exact⟨_,_,oP<|e _ _ c,Av (j:=0) U,p,b.w,d,ρ,U,e _ _ k,i.mono e,hl,a,λo l=>q o<|e.trans l⟩
inductive pQ(K:_q)(aB aP aM:_d)(vs:_a V)(H:Hp)(Q:VK)(d0:XK):Prop
|mk(p:_d)(us:_a V)(ρ:V->R)(_:vs=[.ref p])(_:H p=_b (.lst us))(_:Rows H ρ us)(_:1<=us.length)(_:us.length<=150)(_:∀(i:_c) v,us[i]? = _b v->JH K aB aP aM ρ (us.take i) (ρ v))(_:(us.filter (pw ρ "board")).isEmpty=_p)(_:∀H',Aj H H'->Q .non H')
theorem ql:Am ["rows","at","row"] ["rows"] (Ae sCk):=Bc
include N T in
theorem zU:BP P w K mg base BV 8 aD.Ck ["rows"] (pQ K aB aP aM):=by
 refine N.FCk.1.DY ql λH vs Q E G h=>?_;obtain⟨p,b,ρ,rfl,n,l,Y,Z,t,M,q⟩:=h;obtain⟨V,B⟩:=T.mostR;refine⟨_,(Ac (Bg (PW.pt<|Fy (DP<|Di<|Ay DW U T.isin cf<|Aa (pv 0)<|Aa (Em (v:=.ty "list") U T.list fe U) Ab)<|Eu<|DP<|Fv Ei Ei Al (Ay BL U T.len bt<|Aa (pv 0) Ab)<|Cu (v:=.int 150) U B ⟨V,U⟩) (Af JG) BR)
  (Ac (DQ _M U (Ly U T.enumerate<|Aa (pv 0) Ab) (Gf U<|Bv (Bh (i:=1) ql.nd U<|Or.inl U)<|Bv (Bh (i:=2) ql.nd U<|Or.inl U) Ez)<|Af<|Bg (DP<|Di<|BJ N.FIr (ym N T) G<|Aa (pv 2)<|Aa (FN Lk (pv 0) Gk<|Fi<|pv 1) Ab) (Af JG) BR)
  (Af<|Bg (DP<|O5 (BJ N.FRo (Uo N T) G<|Aa (pv 0)<|Aa Aw Ab)<|λ_=>rfl) (Af JG) BR))),?_⟩
 have g:Dd K H p b:=.inl<|.inl n
 refine⟨_,"list",_,_,U,.lst n,nU,?_⟩;refine⟨p,_,U,.inl g,?_⟩;refine Cz (λ_=>?_)<|λz=>_z (_i<|KK.mpr Y) z
 have d:decide ((b.length:_j)<=150)=true:=_i<|KK.mpr Z
 refine ib ?_;rw[d];refine⟨p,U,⟨_,g⟩,Ld (K:=K) (a:=p) (xs:=b) (λi σ c=>Aj H c/\∃s u,σ=[_b (.ref p),s,u]) ⟨Aj.refl H,_,_,U⟩ (λi σ c _ h=>h.1.seq g) ?_ ?_⟩
 .rintro i x σ c L m ⟨e,s,u,rfl⟩ R;have k:=A_ (o:=HO.tup [.int (i:_j),x]) R;refine⟨_,oP Ah,U,U,?_⟩;generalize upd c L (HO.tup [.int (i:_j),x])=j at k |-;have C:=e.trans k;have hi:i<b.length:=(ag.mp m).1;obtain⟨r,rfl,J⟩:=(l.mono C) x<|ai m;refine⟨p,_,U,C.seq g,λf y=>?_⟩;have F:=A_ (o:=HO.lst<|FQ b _o<|some (i:_j)) y;have A:upd j f (HO.lst<|FQ b _o<|some (i:_j)) f=_:=Ah;generalize upd j f (HO.lst (FQ b _o (_b (i:_j))))=X at F A |-;rw[Lf b i (fR hi)] at A;have I:=C.trans F;refine⟨r,f,ρ<|.ref r,b.take i,ρ,U,F _ _ J,A,(l.mono I).sub λv W=>gg W,by rw[cm];lia,t i _ m,λH7 O=>?_⟩;exact⟨I.trans O,_,_,U⟩
 .rintro σ c ⟨e,s,u,rfl⟩;refine⟨p,b,"board",ρ,U,e _ _ n,l.mono e,rx Z (by decide),λD j hD k S=>?_⟩;refine⟨_,.inl ⟨_,oP S,U⟩,?_⟩;rw[M];exact (q j<|e.trans k)
inductive tZ(vs:_a V)(H:Hp)(Q:VK)(d0:XK):Prop
|mk(p:_d)(ts:_a _m)(_:vs=[.ref p])(_:H p=_b (.lst (ts.map V.str)))(_:ts.length<=300)(_:ts.Nodup)(_:∀D (kvs:_a (Key×V)) H',H D=_o->Aj H H'->H' D=_b (.dK kvs)->(∀(i:_c) t,ts[i]? = _b t->CW kvs (Key.inr t)=_b (.int (i:_c)))->(∀t,t ∉ ts->CW kvs (Key.inr t)=_o)->Q (.ref D) H')
theorem kY:Am ["names","numbers","number","name"] ["names"] (Ae sNu):=Bc
inductive ik(H:Hp)(D:_d)(ts:_a _m)(p:_d)(i:_c)(σ:St)(H4:Hp):Prop
|mk(_:Aj H H4)(kvs:_a (Key × V))(_:H4 D=_b (.dK kvs))(_:kvs.length<=i)(_:(∀(j:_c) t,j<i->ts[j]? = _b t->CW kvs (Key.inr t)=_b (.int (j:_c))))(_:(∀t,t ∉ ts->CW kvs (Key.inr t)=_o))(v2 v3:_)(_:σ=[_b (.ref p),_b (.ref D),v2,v3])
theorem ik.fst{D:_d}{ts:_a _m}{a:Hp}(h:ik H D ts p i σ a):Aj H a:=by
 cases h;assumption
include N T in
theorem yl:BP P w K mg base BV 1 aD.Nu ["names"] tZ:=by
 refine N.FNu.1.DY kY λH vs Q E I h=>?_;obtain⟨p,m,rfl,L,hl,W,q⟩:=h;have X:=By I;refine⟨_,(Ac (BZ (i:=1) kY.nd U (Or.inl U) Hg)
  (Ac (DQ _M U (Ly U T.enumerate<|Aa (pv 0) Ab) (Gf U<|Bv (Bh (i:=2) kY.nd U<|Or.inl U)<|Bv (Bh (i:=3) kY.nd U<|Or.inl U) Ez)<|Af<|Gz X (pv 1) (pv 3) (pv 2) U)
  (Af<|Aq<|pv 1))),?_⟩
 intro D v;have C:=A_ (o:=HO.dK []) v;have G:Dd K H p<|m.map V.str:=.inl<|.inl L
 refine⟨p,U,⟨_,C.seq G⟩,Ld (K:=K) (a:=p) (xs:=m.map V.str) (ik H D m p)
  ⟨C,[],Ah,al _,λj t r=>_z r<|gd _,λt _=>fM,_,_,U⟩ (λi σ g _ h=>h.fst.seq G) ?_ ?_⟩
 .rintro i x σ g J F ⟨A,d,s,Z,y,n,O,Y,rfl⟩ M;rw[ar] at F;obtain⟨t,c,rfl⟩:=aI.mp F;have hi:i<m.length:=(ag.mp c).1;have B:=A_ (o:=HO.tup [.int (i:_j),.str t]) M;refine⟨_,oP Ah,U,U,?_⟩;generalize upd g J (HO.tup [.int (i:_j),.str t])=H5 at B |-;refine⟨_,Mr.k (k:=Key.inr t) (B _ _ s)<|Ax<|by lia,?_⟩;refine⟨λb u e=>?_,putK d (Key.inr t)<|.int (i:_j),Ah,cq (Gm _ _ _)<|md Z,λj l r f=>?_,λl f=>(by rw[Ht,_l λz=>f<|by rw[Key.inr.inj z];exact ai c];exact n l f),_,_,U⟩
  .rw[Ak (Ag e v)];exact B _ _<|A _ _ e
  .rw[Ht];by_cases e:l=t
   .subst e;have:j=i:=by
     obtain⟨h1,S⟩:=ag.mp f;obtain⟨h2,R⟩:=ag.mp c;exact (zh W).mp<|S.trans R.symm
    subst this;rw[_n U]
   .rw[_l λz=>e<|Key.inr.inj z];refine y j l ?_ f;rcases kC.mp r with z | z
    .exact z
    .subst z;rw[c] at f;exact _z (_h f).symm e
 .rintro σ g ⟨A,d,s,Z,y,n,O,Y,rfl⟩;refine q D d g v A s (λi t c=>y i t ?_ c) n;rw[ah];exact (ag.mp c).1
inductive gP(vs:_a V)(H:Hp)(Q:VK)(d0:XK):Prop
|mk(p:_d)(as:_a Th)(us:_a V)(_:vs=[.ref p])(_:H p=_b (.lst us))(_:Paired (λ(a:Th) y=>TupAt H (tV a) y) as us)(_:as.length<=500)(_:∀a∈as,a.2.1<=100)(_:∀H',Aj H H'->Q (.int ((as.map λa=>a.2.1).sum:_c)) H')
theorem YJ:∀l:_a _c,(l.map λn:_c=>(n:_j)).sum=((l.sum:_c):_j)
 |[]=>rfl
 |n::l=>by
  rw[ee,kG,kG,YJ l];lia
theorem scCa:Am oD oD<|Ae sCa:=Bc
include N T in
theorem m9:BP P w K mg base BV 1 aD.Ca oD gP:=by
 refine N.FCa.1.DY scCa λH G Q E B h=>?_;obtain⟨p,t,o,rfl,u,i,hl,y,q⟩:=h;refine⟨_,Af<|Aq<|Ay (fW U) U T.sum J1<|Aa (Bp U (Bb (osc:=Ae sCa) (N:=oD) U U<|by decide) (Bl<|pv 0) (λ_ _ _ _=>Cj)<|λ_ _ _ _=>(An K<|pv 0)) Ab,?_⟩;have r:Dd K H p o:=.inl<|.inl u
 have C:=i.length;refine⟨⟨_,r⟩,Ed (K:=K) (xs:=o) (λ_=>_g) (ZR H 1) r (Ax<|by lia) (λx s c f R k=>k c<|Aj.refl c) (λx s _ c f R k=>?_)<|λD c I f l=>?_⟩
 .obtain⟨b,_,d⟩:=Dg i s;have e:=Kq d 1;obtain⟨F,rfl,A⟩:=d.mono f;refine⟨_,_,oP A,Av (j:=1) U,?_⟩;have:=k c<|Aj.refl c
  rw[e] at this;exact this
 .rw[cw.mpr (λ_ _=>rfl),Ni 1 i] at l;have e:(t.map λa=>(tV a).getD 1 V.non)=((t.map λa=>a.2.1).map λn:_c=>(n:_j)).map V.int:=by
   rw[bb,bb];rfl
  rw[e] at l;refine⟨D,_,U,oP l,λn v=>?_,by simp;exact rx hl (by decide),?_⟩
  .obtain⟨m,z,rfl⟩:=ay.mp v;obtain⟨b,g,rfl⟩:=ay.mp z;have:=y b g;lia
  .rw[YJ];exact q c f
theorem wj(h:n<=3000):n<sizeLine:=cc h<|by decide
inductive uw(vs:_a V)(H:Hp)(Q:VK)(d0:XK):Prop
|mk(p:_d)(as:_a Th)(us:_a V)(_:vs=[.ref p])(_:H p=_b (.lst us))(_:Paired (λ(a:Th) y=>TupAt H (tV a) y) as us)(_:as.length<=12)(_:∀a∈as,a.2.1<=97)(_:∀D ys H',H D=_o->Aj H H'->H' D=_b (.lst ys)->Paired (λq y=>TupAt H' (qV q) y) (Eb<|as.map tN) ys->Q (.ref D) H')
theorem jH:Am ["things","places","number","thing"] oD (Ae sPl):=Bc
inductive jN(H:Hp)(D:_d)(as:_a Th)(p:_d)(i:_c)(σ:St)(H4:Hp):Prop
|mk(_:Aj H H4)(ys:_)(_:H4 D=_b (.lst ys))(_:Paired (λq y=>TupAt H4 (qV q) y) (Eb<|(as.map tN).take i) ys)(v2 v3:_)(_:σ=[_b (.ref p),_b<|.ref D,v2,v3])
theorem jN.fst{D:_d}{as:_a Th}{a:Hp}(h:jN H D as p i σ a):Aj H a:=by
 cases h;assumption
include N T in
theorem vp:BP P w K mg base BV 1 aD.Pl oD uw:=by
 refine N.FPl.1.DY jH λH vs Q E hr h=>?_;obtain⟨p,f,L,rfl,hp,m,hl,S,q⟩:=h;refine⟨_,(Ac (BZ (i:=1) jH.nd U (Or.inl U)<|Cm Ab)
  (Ac (DQ _M U (Ly U T.enumerate<|Aa (pv 0) Ab) (Gf U<|Bv (Bh (i:=2) jH.nd U<|Or.inr U)<|Bv (Bh (i:=3) jH.nd U<|Or.inl U) Ez)<|Af<|Bq<|GR ci PySem.F.slot_list_extend PySem.F.type_list_extend Yk (pv 1)<|Aa (Bp U (Bb (osc:=Ae sPl) (N:=["things","places","number","thing"]) U U<|by decide) (Dk U T.range<|Aa (An K<|pv 3) Ab) (λ_ _ _ _=>Cj)<|λ_ _ _ _=>(CQ<|Aa (pv 3)<|Aa (pv 0) Ab)) Ab)
  (Af<|Aq<|pv 1))),?_⟩
 refine⟨CV (by simp),λD C=>?_⟩;have J:=A_ (o:=HO.lst []) C;have O:Dd K H p L:=.inl<|.inl hp
 have X:=m.length;refine⟨p,U,⟨_,J.seq O⟩,Ld (K:=K) (a:=p) (xs:=L) (jN H D f p)
  ⟨J,[],Ah,.nil,_,_,U⟩ (λi σ s _ h=>h.fst.seq O) ?_ ?_⟩
 .rintro i x σ s T0 Y ⟨z,l,A,t,v2,v3,rfl⟩ hT;obtain⟨b,B,qE⟩:=Dy m Y;have hi:i<f.length:=(ag.mp B).1;have WI:=S b<|ai B
  have d:(f.map tN)[i]? = _b (tN b):=by rw[ar,B];rfl
  have g:=A_ (o:=HO.tup [.int (i:_j),x]) hT;refine⟨_,oP Ah,U,U,?_⟩;generalize upd s T0 (HO.tup [.int (i:_j),x])=H5 at g |-;obtain⟨r,rfl,Z⟩:=qE.mono<|z.trans g;have G:=Ar g t;have v:=g _ _ A;refine⟨.inl ⟨U,_,oP v⟩,_,_,oP Z,Av (j:=1) U,_,U,by lia,by lia,?_⟩;rw[bp];refine QX (n:=b.2.1) (λe=>qV (i,e)) (Ax<|rx WI (by decide)) (λe he W c R k=>?_)<|λD6 W I GU c wl M=>?_
  .refine⟨by show 2<=sizeLine;decide,λT6 V=>?_⟩;exact k _ _ (A_ V) ⟨T6,U,Ah⟩
  .have ly:=(Ar c G).length;have lz:=M.length;have lp:=Lg ((f.map tN).take i) 97 λb m=>by
    obtain⟨a,ha,rfl⟩:=ay.mp<|gg m;exact S a ha
   rw[cm,ah] at lp;rw[fT] at lz;have:min i f.length * 97<=12 * 97:=im _<|by lia
   refine⟨D,D6,l,I,U,U,c _ _ v,wl,fR<|wj<|by lia,?_⟩;refine⟨λb u e=>?_,l++I,Ah,?_,_,_,U⟩
   .rw[Ak (Ag e C)];exact c _ _<|g _ _<|z _ _ e
   .rw[Hi d];exact CP (Bf (Ar c G)<|c _ _ v)<|Bo (F:=λq y=>TupAt _ (qV q) y) (λe=>(i,e))<|Bf M<|c _ _ v
 .rintro σ s ⟨z,l,A,t,v2,v3,rfl⟩;rw[<-X,fE<|by rw[ah];exact al _] at t;exact q D l s C z A t
theorem W6{α:Type}(l:_a α)(x:α):VJ (l++[x]) (-1)=_b x:=by
 unfold VJ oA;rw[_l (by decide),_n<|by rw[am,ax];lia];show (l++[x])[(-1+(((l++[x]).length:_c):_j)).toNat]? = _b x;have e:(-1+(((l++[x]).length:_c):_j)).toNat=l.length:=by
  rw[am,ax];lia
 rw[e,bX<|al _,iF];rfl
theorem OD{l:_a Ln}{v:V}{A:_d}(h:IV H l v)(d:H A=_b (.lst xs))(e:v≠.ref A):IV (upd H A<|.lst ys) l v:=by
 obtain⟨B,c,rfl,a,b⟩:=h;have:B≠A:=λz=>e<|by rw[z]
 exact⟨B,c,U,by rw[Ak this];exact a,Bf b d⟩
theorem Gx{α β:Type}{F G:α->β->Prop}:∀{l:_a α}{vs:_a β},Paired F l vs->(∀a b,b∈vs->F a b->G a b)->Paired G l vs
 |[],_,h,_=>by cases h;exact .nil
 |a::l,_,h,k=>by
  cases h with
  |cons x y=>exact .cons (k _ _ (br ..) x)<|Gx y λa b c=>k a b<|bg _ c
theorem GF{α β:Type}{F:α->β->Prop}:∀{l:_a α}{z:α}{vs:_a β},Paired F (l++[z]) vs->∃us u,vs=us++[u]/\Paired F l us/\F z u
 |[],z,_,h=>by
  cases h with
  |cons x y=>cases y;exact⟨[],_,U,.nil,x⟩
 |a::l,z,_,h=>by
  cases h with
  |cons x y =>
   obtain⟨us,u,rfl,b,c⟩:=GF y;exact⟨_::us,u,U,.cons x b,c⟩
theorem CJ{α:Type}{l:_a α}(h:l≠[]):∃a z,l=a++[z]:=⟨l.dropLast,l.getLast h,(List.dropLast_concat_getLast h).symm⟩
theorem Sg{rk:_a (_m×_c×_j)}:∀{rs:_a R},(∃r∈rs,Fj r.w=_g)->linesOf rk rs≠[]:=by
 have f:∀(n:_c)(rs:_a R),rs.length=n->(∃r∈rs,Fj r.w=_g)->linesOf rk rs≠[]:=by
  intro n
  induction n with
  |zero =>
   rintro rs hl ⟨r,c,_⟩
   cases rs with
   |nil=>cases c
   |cons a b=>cases hl
  |succ n k =>
   rintro rs hl ⟨r,c,i⟩;obtain⟨a,z,rfl⟩:=CJ (l:=rs)<|by intro e;rw[e] at hl;cases hl
   rw[Cv];rw[am,ax] at hl;unfold Do;by_cases g:Fj z.w=_g
   .rw[_n g];simp
   .rw[_l g];have d:r∈a:=by
     rcases aT.mp c with h | h
     .exact h
     .rw[av.mp h] at i;exact _z i g
    have j:=k a (Fr (YN (Ĝ hl)) (YN (Ĝ hl.symm))) ⟨r,d,i⟩;split
    .obtain⟨b,y,e⟩:=CJ j;rw[e,Hj];simp
    .exact j
 exact λ{rs} h=>f rs.length rs U h
inductive tX(vs:_a V)(H:Hp)(Q:VK)(d0:XK):Prop
|mk(p d:_d)(us:_a V)(ρ:V->R)(rk:_a (_m×_c×_j))(kvs:_a (Key×V))(_:vs=[.ref p,.ref d])(_:H p=_b (.lst us))(_:Rows H ρ us)(_:us.length<=500)(_:H d=_b (.dK kvs))(_:∀(i:_c) r,rk[i]? = _b r->CW kvs (Key.inr r.1)=_b (.int (i:_c)))(_:(rk.map (·.1)).Nodup)(_:∀(i:_c) v,us[i]? = _b v->(ρ v).w = "line"->(∃(j:_c)(r:_m × _c × _j)(sh lo hi:_j),rk[j]? = _b r/\r.1=(ρ v).nm/\(ρ v).rest=[.int sh,.int lo,.int hi])/\∃u∈us.take i,Fj (ρ u).w=_g)(_:∀D H',H D=_o->Aj H H'->GQ p H' D (linesOf rk (us.map ρ))->Q (.ref D) H')
theorem qH{rk:_a (_m×_c×_j)}{r:_m×_c×_j}(a:(rk.map (·.1)).Nodup)(h:rk[j]? = _b r):(rk.map (·.1)).idxOf r.1=j:=by
 have b:j<(rk.map (·.1)).length:=by rw[ah];exact (ag.mp h).1
 have e:(rk.map (·.1))[j]=r.1:=by
  rw[ow];exact congrArg (·.1) (ag.mp h).2
 rw[<-e];exact List.Nodup.idxOf_getElem a j b
theorem vP:Am ["rows","rank_numbers","lines","row"] qq (Ae sLi):=Bc
inductive jK(H:Hp)(D:_d)(rk:_a<|_m×_c×_j)(us:_a V)(ρ:V->R)(p:_d)(d:_d)(i:_c)(σ:St)(H4:Hp):Prop
|mk(_:Aj H H4)(lv:_)(_:H4 D=_b (.lst lv))(_:Paired (λl v=>IV H4 l v) (linesOf rk<|(us.take i).map ρ) lv)(_:lv.Nodup)(_:(∀v∈lv,v≠.ref D))(_:(∀v∈lv,∃A,v=.ref A/\H A=_o))(_:lv.length<=i)(_:(∀l∈linesOf rk ((us.take i).map ρ),l.length<=i))(v3:_)(_:σ=[_b (.ref p),_b<|.ref d,_b<|.ref D,v3])
theorem jK.fst{D:_d}{rk:_a (_m×_c×_j)}{d:_d}{a:Hp}(h:jK H D rk us ρ p d i σ a):Aj H a:=by
 cases h;assumption
include N T in
theorem yw:BP P w K mg base BV 1 aD.Li qq tX:=by
 refine N.FLi.1.DY vP λH vs Q E hr h=>?_;obtain⟨p,d,f,ρ,rk,a2,rfl,hp,hR,hl,YY,tq,aP,si,q⟩:=h;have hu:=By hr;refine⟨_,(Ac (BZ (i:=2) vP.nd U (Or.inl U)<|Cm Ab)
  (Ac (DQ _M U (Bl<|pv 0) (Bh (i:=3) vP.nd U<|Or.inl U) (Ac (Bg (Jl (Kh (K:=K) U) (An K<|pv 3) (Cu (v:=.ref aK) U T.mK U) U) (Af<|Bq<|GR ci dA dE C_ (pv 2)<|Aa (Cm Ab) Ab) BR)
  (Af<|Bg (Bd Bt (An K<|pv 3) Aw) (Af<|Bq<|GR ci dA dE C_ (B_ K (pv 2)<|Km O8 Al)<|Aa (CQ<|Aa (DK hu (pv 1) (An K<|pv 3)<|λ_ _=>rfl)<|Aa (An K<|pv 3)<|Aa (An K<|pv 3)<|Aa (An K<|pv 3) Ab) Ab) BR)))
  (Af<|Aq<|pv 2))),?_⟩
 refine⟨CV (by simp),λD hD=>?_⟩;have s0:=A_ (o:=HO.lst []) hD;have hS:Dd K H p f:=.inl<|.inl hp
 refine⟨⟨_,s0.seq hS⟩,Gb (K:=K) (a:=p) (xs:=f) (jK H D rk f ρ p d)
  ⟨s0,[],Ah,.nil,ku,(λv m=>nomatch m),(λv m=>nomatch m),al _,(λl hl=>nomatch hl),_,U⟩ (λi σ H4 _ h=>h.fst.seq hS) ?_ ?_⟩
 .rintro i x σ H4 hx ⟨J,W,I,C,nd,n,X,aw,s,v3,rfl⟩;have hm:=ai hx;have hi:i<f.length:=(ag.mp hx).1;obtain⟨r,rfl,Y⟩:=(hR.mono J) x hm;have L:(f.take<|i+1).map ρ=(f.take i).map ρ++[ρ (.ref r)]:=by
   rw[dL,hx,ba];rfl
  have M:linesOf rk ((f.take<|i+1).map ρ)=Do rk (linesOf rk<|(f.take i).map ρ) (ρ<|.ref r):=by rw[L,Cv]
  have aZ:(linesOf rk<|(f.take i).map ρ).length=W.length:=C.length;by_cases S:Fj (ρ<|.ref r).w=_g
  .have DV:¬ (ρ<|.ref r).w = "line":=λz=>by rw[z] at S;exact _z S<|by decide
   have c:linesOf rk ((f.take<|i+1).map ρ)=linesOf rk ((f.take i).map ρ)++[[]]:=by rw[M];unfold Do;rw[_n S]
   refine⟨_,_,oP Y,Av (j:=0) U,_,.inr<|T.tK.sq _,U,U,?_⟩;refine Cz (λ_=>?_)<|λz=>_z S z
   refine⟨.inl ⟨U,_,oP I⟩,CV (by simp),λp5 t=>?_⟩;obtain⟨H5,k7,B,u5⟩:=Dr (o:=HO.lst []) t;rw[k7];have OE:=B _ _ I;refine⟨W,OE,Ax<|by lia,?_⟩;have aN:r≠D:=mV (B _ _ Y) OE<|by intro z;cases z
   have Z:p5≠D:=λz=>by rw[z,I] at t;cases t
   refine⟨_,_,oP<|by rw[Ak aN];exact B _ _ Y,Av (j:=0) U,U,?_⟩;refine Cz (λz=>_z (V.str.inj<|_s z) DV)<|λ_=>?_
   refine⟨λb u e=>?_,W++[.ref p5],Ah,?_,?_,?_,?_,by simp;exact aw,?_,_,U⟩
   .rw[Ak (Ag e hD)];exact B _ _<|J _ _ e
   .rw[c];refine CP (Gx C λl v m h=>OD (h.mono B) OE<|n v m)<|.cons ⟨p5,[],U,by rw[Ak Z];exact u5,.nil⟩ .nil
   .refine L_ nd λhm=>?_;obtain⟨l,_,G⟩:=Dg C hm;obtain⟨A,ts,e,h1,_⟩:=G
    cases e;rw[h1] at t
    cases t
   .intro v m;rcases aT.mp m with h | h
    .exact n v h
    .rw[av.mp h];intro z;exact Z<|V.ref.inj z
   .intro v m;rcases aT.mp m with h | h
    .exact X v h
    .exact⟨p5,av.mp h,J.free t⟩
   .intro l R;rw[c] at R;rcases aT.mp R with h | h
    .exact iq<|s l h
    .rw[av.mp h];exact eK _
  .refine⟨_,_,oP Y,Av (j:=0) U,_,.inr<|T.tK.sq _,U,U,?_⟩;refine Cz (λz=>_z z S)<|λ_=>?_
   refine⟨_,_,oP Y,Av (j:=0) U,U,?_⟩;by_cases y:(ρ<|.ref r).w = "line"
   .refine Cz (λ_=>?_)<|λz=>_z (_i<|congrArg V.str y) z
    obtain⟨⟨j,rr,sh,lo,O,hj,ab,qS⟩,u,hu,OA⟩:=si i _ hx y;have an:linesOf rk ((f.take i).map ρ)≠[]:=Sg ⟨ρ u,aE hu,OA⟩;obtain⟨ac,z,GO⟩:=CJ an;rw[GO] at C;obtain⟨P4,v,rfl,JJ,hz⟩:=GF C;obtain⟨A,ts,rfl,G,DD⟩:=hz;have c:linesOf rk ((f.take<|i+1).map ρ)=ac++[z++[⟨j,sh,lo,O⟩]]:=by
     rw[M];unfold Do;rw[_l S,_n y,GO,Hj];unfold lnOf;rw[qS,<-ab,qH aP hj]
    have F:H4 r=_b (.tup [.str (ρ<|.ref r).w,.str (ρ<|.ref r).nm,.int sh,.int lo,.int O]):=by rw[Y,<-qS]
    have g:=Dm.k (k:=Key.inr rr.1)<|J _ _ YY
    rw[tq j rr hj,ab] at g;have aB:A≠D:=λe=>n (.ref A) (by simp)<|by rw[e]
    have aQ:z.length<=i:=s z<|by rw[GO];simp
    have a1:=DD.length;refine⟨_,_,oP I,W6 P4<|V.ref A,.inl ⟨U,_,oP G⟩,_,_,oP F,U,_,g,_,_,oP F,U,_,_,oP F,U,_,_,oP F,U,by show 4<=sizeLine;decide,λT5 yT=>?_⟩;obtain⟨H5,k7,B,u5⟩:=Dr (o:=HO.tup [.int (j:_c),.int sh,.int lo,.int O]) yT;rw[k7];have LY:=B _ _ G;have as:T5≠A:=λe=>by rw[e,G] at yT;cases yT
    have ap:D≠A:=λe=>aB e.symm;obtain⟨a0,_,F8⟩:=kS.mp nd;refine⟨ts,LY,Ax<|by lia,?_⟩;refine⟨λb u e=>?_,P4++[.ref A],by rw[Ak ap];exact B _ _ I,?_,nd,n,X,iq aw,?_,_,U⟩
    .obtain⟨A',eA,HG⟩:=X (.ref A)<|by simp
     cases eA;rw[Ak (Ag e HG)];exact B _ _<|J _ _ e
    .rw[c];refine CP (Gx JJ λl v m h=>OD (h.mono B) LY<|λe=>F8 v m _ (av.mpr U) e)<|.cons ⟨A,ts++[.ref T5],U,Ah,CP (Bf (Ar B DD) LY)<|.cons ⟨T5,U,by rw[Ak as];exact u5⟩ .nil⟩ .nil
    .intro l R;rw[c] at R;rcases aT.mp R with h | h
     .exact iq<|s l<|by rw[GO];exact bE _ h
     .rw[av.mp h,am,ax];exact md aQ
   .refine Cz (λz=>_z (V.str.inj<|_s z) y)<|λ_=>?_
    have c:linesOf rk ((f.take<|i+1).map ρ)=linesOf rk ((f.take i).map ρ):=by rw[M];unfold Do;rw[_l S,_l y]
    rw[<-c] at C s;exact⟨J,W,I,C,nd,n,X,iq aw,λl R=>iq<|s l R,_,U⟩
 .rintro σ H4 ⟨J,W,I,C,nd,n,X,aw,s,v3,rfl⟩;rw[eP] at C;have aM:D≠p:=_J<|Ag hp hD
  refine q D H4 hD J ⟨W,I,aM,Gx C λl v m h=>⟨h,λz=>?_⟩⟩;obtain⟨A,e,G⟩:=X v m;rw[e] at z;rw[V.ref.inj z,hp] at G
  cases G
abbrev nV(l:_a _c):_a V:=l.map λn:_c=>V.int (n:_j)
inductive oh(vs:_a V)(H:Hp)(Q:VK)(d0:XK):Prop
|mk(i:_j)(_:vs=[.int i])(_:Q (.bl (decide (0<=i) && decide (i<1200))) H)
theorem scMy:Am fx fx<|Ae sMy:=Bc
include N T in
theorem AAi:BP P w K mg base BV 2 aD.My fx oh:=by
 refine N.FMy.1.DY scMy λH e Q E c h=>?_;obtain⟨i,rfl,q⟩:=h;obtain⟨b,d⟩:=T.below;refine⟨_,Af<|Aq<|Dl (BJ N.FWh (nj N T) c<|Aa (pv 0) Ab)<|Dh<|HN Ei Gw Al (pv 0)<|Cu (v:=.int 1200) U d ⟨b,U⟩,?_⟩;refine⟨i,U,Jx ?_⟩;refine Cz (λa=>?_)<|λa=>?_
 .rw[a,hU] at q;exact q
 .rw[(ft _).mp a,hV] at q;exact q
inductive Ud(vs:_a V)(H:Hp)(Q:VK)(d0:XK):Prop
|mk(p:_d)(l:_a _c)(_:vs=[.ref p])(_:H p=_b (.lst (nV l)))(_:l.length<=500)(_:∀n∈l,n<1200)(_:∀H',Aj H H'->Q (.int (Wd.mk l:_c)) H')
theorem wW(l:_a _c)(n:_c):Ć ((Wd.mk l:_c):_j) (1 * 2 ^ ((n:_c):_j).toNat)=((Wd.mk (l++[n]):_c):_j):=by
 rw[s_,bp,Ja,Jo,Wd.iH]
theorem jR:Am ["numbers","some","number"] ["numbers"] (Ae sSt):=Bc
include N T in
theorem Qf:BP P w K mg base BV 3 aD.St ["numbers"] Ud:=by
 refine N.FSt.1.DY jR λH B Q E u h=>?_;obtain⟨p,l,rfl,s,F,r,q⟩:=h;refine⟨_,(Ac (Bg (PW.pt<|Fy (DP<|Di<|Ay DW U T.isin cf<|Aa (pv 0)<|Aa (Em (v:=.ty "list") U T.list fe U) Ab)<|Eu<|DP<|Di<|Ay (JM U) U T.all gX<|Aa (Bp U (Bb (osc:=Ae sSt) (N:=["numbers","some","number"]) U U<|by decide) (Bl<|pv 0) (λ_ _ _ _=>Cj)<|λ_ _ _ _=>(BJ N.FMy (AAi N T) u<|Aa (pv 0) Ab)) Ab) (Af JG) BR)
  (Ac (BZ (i:=1) jR.nd U (Or.inl U) Al)
  (Ac (DQ _M U (Bl<|pv 0) (Bh (i:=2) jR.nd U<|Or.inl U)<|Af<|BZ (i:=1) jR.nd U (Or.inl U)<|BK QM (pv 1)<|BK fK Al<|pv 2)
  (Af<|Aq<|pv 1)))),?_⟩
 have f:Dd K H p<|nV l:=.inl<|.inl s
 refine⟨_,"list",_,_,U,.lst s,nU,Jz ?_⟩;have j:(nV l).length<sizeLine:=Ax<|by simp;exact rx F (by decide)
 refine⟨⟨_,f⟩,Ed (K:=K) (xs:=nV l) (λ_=>_g) (λ_=>.bl _g) f j (λx o b c R k=>k b<|Aj.refl b) (λx o _ b c R k=>?_)<|λD b C c hl=>?_⟩
 .obtain⟨n,d,rfl⟩:=ay.mp o;refine⟨(n:_j),U,?_⟩;have e:(decide ((0:_j)<=(n:_j)) && decide ((n:_j)<1200))=true:=by
   have:=r n d;simp;exact BT.mpr this
  rw[e];exact k b<|Aj.refl b
 .refine⟨D,(nV l).map λ_=>_g,U,.inl<|.inl ?_,?_⟩
  .rw[hl,cw.mpr<|λ_ _=>rfl];simp
  .have e:((nV l).map λ_=>_g).all id=true:=by simp
   rw[e];refine⟨⟨_,c.seq f⟩,Gb (K:=K) (a:=p) (xs:=nV l) (λi σ g=>g=b/\∃m,σ=[_b (.ref p),_b<|.int (Wd.mk (l.take i):_c),m]) ⟨U,_,U⟩ (λi σ g _ h=>by rw[h.1];exact c.seq f) ?_ ?_⟩
   .rintro i y σ g t ⟨rfl,m,rfl⟩;rw[ar] at t;obtain⟨n,d,rfl⟩:=aI.mp t;have A:=r n<|ai d
    refine⟨⟨ja _,ST (BT.mpr (bq A (by decide))),by decide⟩,?_⟩;refine⟨U,_b<|.int (n:_j),?_⟩;try dsimp only
    rw[wW,dL,d];rfl
   .rintro σ g ⟨rfl,m,rfl⟩;have z:l.take (nV l).length=l:=ë<|by simp
    rw[z];exact q _ c
noncomputable def ixV(nms:_a _m):V->V
 |.str t=>.int (nms.idxOf t:_c)
 |_=>.non
theorem YX(h:t∈nms):nms[nms.idxOf t]? = _b t:=by
 rw[af (gL h),xi]
inductive o_(vs:_a V)(H:Hp)(Q:VK)(d0:XK):Prop
|mk(r kd:_d)(ro:R)(kvs:_a (Key×V))(nms ts:_a _m)(_:vs=[.ref r,.ref kd])(_:H r=_b (.tup ro.v))(_:H kd=_b (.dK kvs))(_:V.str ro.nm::ro.rest=ts.map V.str)(_:ts.length<=24)(_:nms.length<=300)(_:∀(i:_c) t,nms[i]? = _b t->CW kvs (Key.inr t)=_b (.int (i:_c)))(_:∀t∈ts,t∈nms)(_:∀H',Aj H H'->Q (.int (Wd.mk (ts.map λt=>nms.idxOf t):_c)) H')
theorem scSs:Am km km<|Ae sSs:=Bc
include N T in
theorem z9:BP P w K mg base BV 4 aD.Ss km o_:=by
 refine N.FSs.1.DY scSs λH vs Q E l h=>?_;obtain⟨r,kd,c,I,d,a,rfl,p,C,M,Cb,X,tq,e,q⟩:=h;have hu:=By l;refine⟨_,Af<|Aq<|BJ N.FSt (Qf N T) l<|Aa (Bp U (Bb (osc:=Ae sSs) (N:=km) U U<|by decide) (VH<|FN Rb (pv 0) (Fi Al) Gk) (λ_ _ _ _=>Cj)<|λ_ _ _ _=>(DK hu (pv 2) (pv 0)<|λ_ _=>rfl)) Ab,?_⟩;have Z:c.v=V.str c.w::a.map V.str:=by
  show V.str c.w::(V.str c.nm::c.rest)=_;rw[M]
 rw[Z] at p;have v:HT.Ex (V.str c.w::a.map V.str).length 0 (_b 1)=1:=by
  rw[show (_b (1:_j))=_b ((1:_c):_j) from rfl,HT.Gu];simp
 have i:FQ (V.str c.w::a.map V.str) (_b 1) _o=a.map V.str:=by
  unfold FQ;rw[v,HT.N5];simp;exact fE<|by rw[ah];exact al _
 refine⟨r,_,U,oP p,?_,λB S=>?_⟩
 .rintro⟨z,_⟩;rw[v] at z
  cases z
 rw[i];obtain⟨Y,F,y,J⟩:=Dr (o:=HO.tup<|a.map V.str) S;rw[F];have s:JD K Y B<|a.map V.str:=.inl<|.inl J
 have O:(a.map V.str).length=a.length:=ah ..;refine⟨⟨_,s⟩,Uq (K:=K) (xs:=a.map V.str) (λ_=>_g) (ixV d) s (Ax<|by lia) (λx m f u R k=>k f<|Aj.refl f) (λx m _ f u R k=>?_)<|λD H2 hD A b=>?_⟩
 .obtain⟨t,j,rfl⟩:=ay.mp m;have g:=Dm.k (k:=Key.inr t)<|u _ _<|y _ _ C
  rw[tq _ t (YX<|e t j)] at g;exact⟨_,g,k f<|Aj.refl f⟩
 .rw[cw.mpr (λ_ _=>rfl),bb] at b;have L:a.map (ixV d ∘ V.str)=nV (a.map λt=>d.idxOf t):=by
   unfold nV;rw[bb];rfl
  rw[L] at b;refine⟨D,_,U,b,by rw[ah];exact rx Cb (by decide),λn hn=>?_,λG W=>q G<|y.trans<|A.trans W⟩;obtain⟨t,j,rfl⟩:=ay.mp hn;have:=gL<|e t j
  exact bq this (rx X (by decide))
theorem Yx{rk:_a (_m×_c×_j)}{f:_c->V->Prop}(h:∀(i:_c) v,us[i]? = _b v->(ρ v).w = "line"->f i v/\∃u∈us.take i,Fj (ρ u).w=_g):(linesOf rk<|us.map ρ).length=(us.filter<|λv=>Fj (ρ v).w).length:=by
 have c:∀n,n<=us.length->(linesOf rk<|(us.take n).map ρ).length=((us.take n).filter<|λv=>Fj (ρ v).w).length:=by
  intro n
  induction n with
  |zero=>intro _;rfl
  |succ n j =>
   intro m;have d:=af (l:=us) (i:=n)<|bq (gx _) m
   rw[dL,d,ba];show (linesOf rk<|(us.take n).map ρ++[ρ us[n]]).length=((us.take n++[us[n]]).filter _).length;rw[Cv,fk,am,<-j (LT m)];unfold Do;by_cases b:Fj (ρ us[n]).w=_g
   .rw[_n b,eR,_n b];simp
   .rw[_l b,eR,_l b];by_cases hl:(ρ us[n]).w = "line"
    .rw[_n hl];obtain⟨_,u,g,k⟩:=h n _ d hl;obtain⟨a,z,e⟩:=CJ<|Sg (rk:=rk) ⟨ρ u,aE g,k⟩;rw[e,Hj];simp
    .rw[_l hl];simp
 have:=c us.length<|al _
 rw[eP] at this;exact this
theorem Rr{α:Type}{a b:α}(h:a=b:=by kernel_rfl!):a=b:=h
theorem dG{fs:_a (_m×V)}(h:decide (fs.length<1000)=true:=by kernel_rfl!):fs.length<1000:=_s h
theorem noM{fs:_a (_m×V)}(h:(meths.all λm=>(fs.lookup m).isNone)=true:=by kernel_rfl!):∀m∈meths,fs.lookup m=none:=λm a=>Option.isNone_iff_eq_none.mp<|gi.mp h m a
theorem d9{fs:_a (_m×V)}(a:H x=_b (.ins C dx fs))(s:Aj H H1)(n:_m)(v:V):∃H2,upd H1 x (.ins C dx<|Bj n v fs)=H2/\H2 x=_b (.ins C dx<|Bj n v fs)/\SX x H H2/\SX x H1 H2:=⟨_,U,Ah,(SX.of s).trans SX.up,SX.up⟩
theorem Js{fs:_a (_m×V)}(h:Rows H ρ us)(s:SX x H H')(a:H x=_b (.ins C dx fs)):Rows H' ρ us:=λv b=>s.tup a<|h v b
theorem d8{β:Type}{p:V->_O}{g:β->R}{l:_a β}(e:(us.filter p).map ρ=l.map g):(us.filter p).length=l.length/\∀v∈us.filter p,v∈us/\∃b∈l,ρ v=g b:=⟨by simpa using congrArg Ε e,λv a=>⟨(z3.mp a).1,by
 obtain⟨b,c,e⟩:=ay.mp (e ▸ aE a:ρ v∈l.map g);exact⟨b,c,e.symm⟩⟩⟩
inductive uc(K:_q)(aB aP aM C:_d)(vs:_a V)(H:Hp)(Q:VK)(d0:XK):Prop
|mk(x dx p:_d)(us:_a V)(ρ:V->R)(bs:_a (_m×_c))(rk:_a (_m×_c×_j))(ks:_a R)(_:vs=[.ref x,.ref p])(_:H x=_b (.ins C dx []))(_:H p=_b (.lst us))(_:Rows H ρ us)(_:Ok6 K aB aP aM ρ us bs rk ks)(_:∀H',Jv C H' x us bs rk ks (linesOf rk (us.map ρ)) ((us.filter (pw ρ "step")).map λv=>stN ks<|ρ v)->(∀uS,SX p H' uS->Jv C uS x us bs rk ks (linesOf rk<|us.map ρ) ((us.filter<|pw ρ "step").map λv=>stN ks<|ρ v))->SX x H H'->Q .non H')
theorem scOi:Am gA gA<|Ae g_:=Bc
include N T in
theorem zM:BP P w K mg base BV 9 aD.Oi gA<|uc K aB aP aM C:=by
 refine N.FOi.1.DY scOi λH vs Q E D h=>?_;obtain⟨x,f,p,s,ρ,bs,rk,L,rfl,hx,G,S,O,q⟩:=h;refine⟨_,(Ac (Bq<|BJ N.FCk (zU N T) D<|Aa (pv 1) Ab)
  (Ac (DG (pv 0) (Ci Ec U T.list fe<|Aa (pv 1) Ab) U)
  (Ac (DG (pv 0) (Bp U (Bb (osc:=Ae g_) (N:=gA) U U<|by decide) (Bl<|BJ N.FRo (Uo N T) D<|Aa (pv 1)<|Aa Aw Ab) (λ_ _ _ _=>Cj)<|λ_ _ _ _=>(CQ<|Aa (An K<|pv 0)<|Aa (An K<|pv 0) Ab)) U)
  (Ac (DG (pv 0) (Bp U (Bb (osc:=Ae g_) (N:=gA) U U<|by decide) (Bl<|BJ N.FRo (Uo N T) D<|Aa (pv 1)<|Aa Aw Ab) (λ_ _ _ _=>Cj)<|λ_ _ _ _=>(CQ<|Aa (An K<|pv 0)<|Aa (An K<|pv 0)<|Aa (An K<|pv 0) Ab)) U)
  (Ac (DG (pv 0) (Bp U (Bb (osc:=Ae g_) (N:=gA) U U<|by decide) (Bl<|pv 1) (λ_ _ _ _=>(G7<|Jl (Kh (K:=K) U) (An K<|pv 0) (Cu (v:=.ref aK) U T.mK U) U))<|λ_ _ _ _=>(pv 0)) U)
  (Ac (DG (pv 0) (BJ N.FNu (yl N T) D<|Aa (Bp U (Bb (osc:=Ae g_) (N:=gA) U U<|by decide) (Bl<|BX (pv 0) U) (λ_ _ _ _=>Cj)<|λ_ _ _ _=>(An K<|pv 0)) Ab) U)
  (Ac (DG (pv 0) (BJ N.FNu (yl N T) D<|Aa (Bp U (Bb (osc:=Ae g_) (N:=gA) U U<|by decide) (Bl<|BX (pv 0) U) (λ_ _ _ _=>Cj)<|λ_ _ _ _=>(An K<|pv 0)) Ab) U)
  (Ac (DG (pv 0) (BJ N.FNu (yl N T) D<|Aa (Bp U (Bb (osc:=Ae g_) (N:=gA) U U<|by decide) (Bl<|BX (pv 0) U) (λ_ _ _ _=>Cj)<|λ_ _ _ _=>(An K<|pv 0)) Ab) U)
  (Ac (DG (pv 0) (BJ N.FPl (vp N T) D<|Aa (BX (pv 0) U) Ab) U)
  (Ac (DG (pv 0) (BJ N.FPl (vp N T) D<|Aa (BX (pv 0) U) Ab) U)
  (Ac (DG (pv 0) (BJ N.FLi (yw N T) D<|Aa (pv 1)<|Aa (BX (pv 0) U) Ab) U)
  (Af<|DG (pv 0) (Bp U (Bb (osc:=Ae g_) (N:=gA) U U<|by decide) (Bl<|BJ N.FRo (Uo N T) D<|Aa (pv 1)<|Aa Aw Ab) (λ_ _ _ _=>Cj)<|λ_ _ _ _=>(BJ N.FSs (z9 N T) D<|Aa (pv 0)<|Aa (iQ (K:=K) U (pv 1) U) Ab)) U)))))))))))),?_⟩
 have bl:=O.len;obtain⟨lr,oR⟩:=d8 O.er;obtain⟨lb,oB⟩:=d8 O.eb;have a6:(s.filter λv=>Fj (ρ v).w).length=L.length:=by rw[<-O.ek,ah]
 have b0:=O.b0;have b5:=O.b5;have nr:=O.nr;have nk:=O.nk;have fl:=λq:V->_O=>cr q s;have aw:1<=s.length:=by
  have:=fl<|pw ρ "board"
  lia
 refine⟨p,s,ρ,U,G,S,aw,bl,O.ok,?_,λH1 s1=>?_⟩
 .cases h:s.filter (pw ρ "board") with
  |nil =>
   rw[h] at lb;simp at lb;lia
  |cons a b=>rfl
 refine⟨p,_,U,oP<|.inl<|s1 _ _ G,λl1 as=>?_⟩;have a3:l1≠p:=_J<|Ag (s1 _ _ G) as
 obtain⟨H2,k7,s2,ZB⟩:=Dr (o:=HO.lst s) as;rw[k7];replace s1:=s1.trans s2;refine⟨C,f,_,s1 _ _ hx,T.cl,T.n_row_list,dG,?_⟩;obtain⟨H3,e,A,c0,u⟩:=d9 hx s1 "row_list" (.ref l1);rw[e];clear e;have ZO:=u.lst (s1 _ _ hx) ZB;have nx:x≠p:=λz=>by rw[z,G] at hx;cases hx
 replace S:=Js S c0 hx;replace G:=c0.lst hx G;refine⟨p,_,"board",ρ,U,G,S,rx bl (by decide),λD4 H4 bv s4 a9=>?_⟩;have g:Dd K H4 D4 _:=.inl<|.inl a9
 refine⟨⟨_,g⟩,Ow (K:=K) (λ_=>_g) (λv=>[.str (ρ v).nm,(ρ v).rest.getD 0 .non]) g (Ax<|by lia) (λy B c m R k=>k c<|Aj.refl c) (λy B _ c m R k=>?_)<|λD5 H5 f' OG s5 sf ab=>?_⟩
 .obtain⟨h,b,_,e⟩:=oB _ B;have d:=(S y h).mono<|s4.trans m
  rw[e] at d k;obtain⟨T0,rfl,d⟩:=d;exact⟨_,_,oP d,U,_,_,oP d,U,by show 2<=sizeLine;decide,λT6 vk=>k _ _ (A_ vk) ⟨T6,U,Ah⟩⟩
 rw[cw.mpr (λ_ _=>rfl)] at ab;have h1:=Bo (F:=λ(r:R) y=>TupAt H5 [.str r.nm,r.rest.getD 0 .non] y) ρ ab;rw[O.eb] at h1;replace ab:Paired (λb y=>TupAt H5 (bV b) y) bs f':=HD Fx h1;clear h1;have n5:D5≠p:=_J<|Ag (s4 _ _ G) OG
 replace s4:=s4.trans s5;refine⟨C,f,_,s4 _ _ A,T.cl,T.n_board_list,dG,?_⟩;obtain⟨H6,e,M,t6,u6⟩:=d9 A s4 "board_list" (.ref D5);rw[e];clear e;have wl:=u6.lst (s4 _ _ A) sf;have K':=u6.pair (s4 _ _ A) ab;have R6:=Js S t6 A;have p6:=t6.lst A G;refine⟨p,_,"rank",ρ,U,p6,R6,rx bl (by decide),λD7 H7 LX s7 M'=>?_⟩;replace g:Dd K H7 D7 _:=.inl<|.inl M'
 refine⟨⟨_,g⟩,Ow (K:=K) (λ_=>_g) (λv=>[.str (ρ v).nm,(ρ v).rest.getD 0 .non,(ρ v).rest.getD 1 .non]) g (Ax<|by lia) (λy B c m R k=>k c<|Aj.refl c) (λy B _ c m R k=>?_)<|λD8 H8 i8 ZE s8 xh Z=>?_⟩
 .obtain⟨h,b,_,e⟩:=oR _ B;have d:=(R6 y h).mono<|s7.trans m
  rw[e] at d k;obtain⟨T0,rfl,d⟩:=d;exact⟨_,_,oP d,U,_,_,oP d,U,_,_,oP d,U,by show 3<=sizeLine;decide,λT6 vk=>k _ _ (A_ vk) ⟨T6,U,Ah⟩⟩
 rw[cw.mpr (λ_ _=>rfl)] at Z;have h1:=Bo (F:=λ(r:R) y=>TupAt H8 [.str r.nm,r.rest.getD 0 .non,r.rest.getD 1 .non] y) ρ Z;rw[O.er] at h1;replace Z:Paired (λ(a:Th) y=>TupAt H8 (tV a) y) (rk.map Z7) i8:=Bo (F:=λ(a:Th) y=>TupAt H8 (tV a) y) Z7<|HD Gh h1
 clear h1 R6;have n8:D8≠p:=_J<|Ag (s7 _ _ p6) ZE
 replace s7:=s7.trans s8;refine⟨C,f,_,s7 _ _ M,T.cl,T.n_rank_list,dG,?_⟩;obtain⟨H9,e,W,t9,u9⟩:=d9 M s7 "rank_list" (.ref D8);rw[e];clear e;have Kx:=u9.lst (s7 _ _ M) xh;have MM:=u9.pair (s7 _ _ M) Z;have c9:=t6.trans t9;have R9:=Js S c9 A;have p9:=c9.lst A G;replace g:Dd K H9 p s:=.inl<|.inl p9
 refine⟨⟨_,g⟩,Ed (K:=K) (xs:=s) (λv=>Fj (ρ v).w) id g (Ax<|rx bl (by decide)) (λy B c m R k=>?_) (λy B _ c m R k=>k c<|Aj.refl c)<|λFk tF MG an ac=>?_⟩
 .obtain⟨T0,rfl,d⟩:=(R9.mono m) y B;exact⟨_,_,oP d,Av (j:=0) U,_,.inr<|T.tK.sq _,U,U,k c<|Aj.refl c⟩
 rw[nt] at ac;clear R9;have a5:Fk≠p:=_J<|Ag p9 MG
 refine⟨C,f,_,an _ _ W,T.cl,T.n_knob_rows,dG,?_⟩;obtain⟨FM,e,CY,GV,UM⟩:=d9 W an "knob_rows" (.ref Fk);rw[e];clear e;have E3:=UM.lst (an _ _ W) ac;have NN:=t9.trans GV;have EZ:=NN.lst M wl;have zt:=NN.pair M K';have C7:=zt.length;replace g:Dd K FM D5 f':=.inl<|.inl EZ
 refine⟨C,f,_,.ref D5,CY,T.cl,T.n_board_list,Rr,⟨_,g⟩,JR (K:=K) (xs:=f') (ZR FM 0) g (λy B c m R k=>?_)<|λa7 va VS J xy=>?_⟩
 .obtain⟨b,_,I⟩:=Dg zt B;have e:=Kq I 0;obtain⟨T0,rfl,d⟩:=I.mono m;refine⟨_,_,oP d,U,?_⟩;have:=k c<|Aj.refl c
  rw[e] at this;exact this
 rw[Ni 0 zt,show (bs.map λb=>(bV b).getD 0 V.non)=(bs.map (·.1)).map V.str by rw[Õ];rfl] at xy;refine⟨a7,_,U,xy,by rw[ah];exact rx b5 (by decide),O.nb,λLO aN Pe U' a1 OC NW IT=>?_⟩;clear EZ zt;replace J:=J.trans a1;refine⟨C,f,_,J _ _ CY,T.cl,T.n_board_numbers,dG,?_⟩;obtain⟨QY,e,FC,LB,a0⟩:=d9 CY J "board_numbers" (.ref LO);rw[e];clear e;have KW:=a0.dk (J _ _ CY) OC;have KO:=GV.trans LB;have Fh:=KO.lst W Kx;have Au:=KO.pair W MM;have TK:=Au.length;rw[ah] at TK;replace g:Dd K QY D8 i8:=.inl<|.inl Fh
 refine⟨C,f,_,.ref D8,FC,T.cl,T.n_rank_list,Rr,⟨_,g⟩,JR (K:=K) (xs:=i8) (ZR QY 0) g (λy B c m R k=>?_)<|λTZ bK WB FY EQ=>?_⟩
 .obtain⟨b,_,I⟩:=Dg Au B;have e:=Kq I 0;obtain⟨T0,rfl,d⟩:=I.mono m;refine⟨_,_,oP d,Av (j:=0) U,?_⟩;have:=k c<|Aj.refl c
  rw[e] at this;exact this
 rw[Ni 0 Au,show ((rk.map Z7).map λb=>(tV b).getD 0 V.non)=(rk.map (·.1)).map V.str by rw[Õ,Õ];rfl] at EQ;refine⟨TZ,_,U,EQ,by rw[ah];exact rx nr (by decide),O.nrr,λLN AM bS bd XY No MY VT=>?_⟩;clear Fh Au;replace FY:=FY.trans XY;refine⟨C,f,_,FY _ _ FC,T.cl,T.n_rank_numbers,dG,?_⟩;obtain⟨OZ,e,C3,MZ,UH⟩:=d9 FC FY "rank_numbers" (.ref LN);rw[e];clear e;have Gc:=UH.dk (FY _ _ FC) No;have Nn:=LB.trans MZ;have Sl:=(c9.trans GV).trans Nn;have EJ:=Nn.lst CY E3;have SU:=Js S Sl A;replace g:Dd K OZ Fk _:=.inl<|.inl EJ
 refine⟨C,f,_,.ref Fk,C3,T.cl,T.n_knob_rows,Rr,⟨_,g⟩,JR (K:=K) (λv=>.str (ρ v).nm) g (λy B c m R k=>?_)<|λa2 bN UY DZ DT=>?_⟩
 .obtain⟨T0,rfl,d⟩:=(SU.mono m) y (be.mp B).1;exact⟨_,_,oP d,Av (j:=1) U,k c<|Aj.refl c⟩
 rw[show ((s.filter λv=>Fj (ρ v).w).map λv=>V.str (ρ v).nm)=(L.map (·.nm)).map V.str by rw[<-O.ek,Õ,Õ];rfl] at DT;refine⟨a2,_,U,DT,by rw[ah];exact rx nk (by decide),O.nn,λLS AL b1 X2 UK NE FD LI=>?_⟩;clear SU EJ;replace DZ:=DZ.trans UK;refine⟨C,f,_,DZ _ _ C3,T.cl,T.n_knob_numbers,dG,?_⟩;obtain⟨WO,e,B3,EK,bc⟩:=d9 C3 DZ "knob_numbers" (.ref LS);rw[e];clear e;have E4:=bc.dk (DZ _ _ C3) NE;have PM:=NN.trans<|Nn.trans EK
 have MD:=Sl.trans EK;refine⟨C,f,_,_,B3,T.cl,T.n_board_list,Rr,D5,bs.map vU,f',U,PM.lst M wl,Bo (F:=λ(a:Th) y=>TupAt WO (tV a) y) vU<|PM.pair M K',by rw[Τ];exact rx b5 (by decide),(λa ha=>by obtain⟨b,hb,rfl⟩:=Ľ.mp ha;have:=O.sz b hb;show b.2<=97;exact rx this (by decide)),λOn qf bW JA IA ME EI=>?_⟩;rw[show (bs.map vU).map tN=bs by rw[Õ];exact HU bs] at EI;have a8:On≠p:=_J<|Ag (MD.lst A G) JA
 refine⟨C,f,_,IA _ _ B3,T.cl,T.n_key_places,dG,?_⟩;obtain⟨b2,e,B7,C6,QU⟩:=d9 B3 IA "key_places" (.ref On);rw[e];clear e;have IR:=QU.lst (IA _ _ B3) ME;have JE:=QU.pair (IA _ _ B3) EI;have SR:=(KO.trans MZ).trans<|EK.trans C6
 refine⟨C,f,_,_,B7,T.cl,T.n_rank_list,Rr,D8,rk.map Z7,i8,U,SR.lst W Kx,SR.pair W MM,by rw[ah];exact nr,(λa ha=>by obtain⟨r,D,rfl⟩:=ay.mp ha;exact O.nz r D),λLU CH bB N3 GN MI EG=>?_⟩;rw[show (rk.map Z7).map tN=rk.map Rz by rw[Õ];rfl] at EG;have aZ:LU≠p:=_J<|Ag ((MD.trans C6).lst A G) N3
 refine⟨C,f,_,GN _ _ B7,T.cl,T.n_pipe_places,dG,?_⟩;obtain⟨bP,e,DL,C4,P7⟩:=d9 B7 GN "pipe_places" (.ref LU);rw[e];clear e;have JI:=P7.lst (GN _ _ B7) MI;have Lu:=P7.pair (GN _ _ B7) EG;have N4:=(MD.trans C6).trans C4;have QE:=λ(i:_c) (r:_m×_c×_j) (D:rk[i]? = _b r)=>MY i r.1<|by rw[ar,D];rfl
 refine⟨C,f,_,_,DL,T.cl,T.n_rank_numbers,Rr,p,LN,s,ρ,rk,AM,U,N4.lst A G,Js S N4 A,rx bl (by decide),(EK.trans<|C6.trans C4).dk C3 Gc,QE,O.nrr,O.ln,λPf bn bm EE NR=>?_⟩;refine⟨C,f,_,EE _ _ DL,T.cl,T.n_knob_lines,dG,?_⟩;obtain⟨bL,e,DC,Nd,VQ⟩:=d9 DL EE "knob_lines" (.ref Pf);rw[e];clear e;have L1:=NR.sx VQ<|EE _ _ DL
 have PY:=N4.trans Nd;have N9:=Js S PY A;have LA:=((C6.trans C4).trans Nd).dk B3 E4;have RI:=PY.lst A G;refine⟨p,_,"step",ρ,U,RI,N9,rx bl (by decide),λZ' UN XZ A3 IY=>?_⟩;replace g:Dd K UN Z'<|s.filter<|pw ρ "step":=.inl<|.inl IY
 have:=fl<|pw ρ "step"
 refine⟨⟨_,g⟩,JR (K:=K) (λv=>.int (stN L (ρ v):_c)) g (λy B c m R k=>?_)<|λLW bR Nc X9 F9=>?_⟩
 .obtain⟨Sn,YR⟩:=be.mp B;obtain⟨ts,zd,C4,a4⟩:=O.st y Sn<|V.str.inj<|_s YR;replace m:=A3.trans m;obtain⟨T0,rfl,d⟩:=(N9.mono m) y Sn;refine⟨C,f,_,_,m _ _ DC,T.cl,T.n_knob_numbers,Rr,T0,LS,ρ<|.ref T0,AL,L.map (·.nm),ts,U,d,m _ _ LA,zd,C4,by rw[ah];exact rx nk (by decide),FD,a4,λH3 s3=>?_⟩;rw[show Wd.mk (ts.map λt=>(L.map (·.nm)).idxOf t)=stN L (ρ<|.ref T0) by unfold stN;rw[Ji zd]];exact k H3 s3
 rw[show ((s.filter<|pw ρ "step").map λv=>V.int (stN L (ρ v):_c))=(((s.filter<|pw ρ "step").map λv=>stN L<|ρ v).map λn:_c=>V.int (n:_j)) by rw[Õ];rfl] at F9;have aQ:LW≠p:=_J<|Ag (A3 _ _ RI) Nc
 replace A3:=A3.trans X9;refine⟨C,f,_,A3 _ _ DC,T.cl,T.n_step_sets,dG,?_⟩;obtain⟨UQ,e,WE,IQ,VO⟩:=d9 DC A3 "step_sets" (.ref LW);rw[e];clear e;have IP:=Nd.trans IQ;have N1:=C4.trans IP;have S0:=C6.trans N1;have SF:=EK.trans S0;have SI:=MZ.trans SF;have SZ:=LB.trans SI;have f9:=GV.trans SZ;have f6:=t9.trans f9;have f3:=t6.trans f6;have X:=f3.lst A G
 suffices Y:∀uS,SX p UQ uS->Jv C uS x s bs rk L (linesOf rk<|s.map ρ) ((s.filter<|pw ρ "step").map λv=>stN L<|ρ v) from q _ (Y _ SX.refl) Y<|c0.trans f3
 intro uS sp;have xF:=sp _ _ WE nx;have SH:=bU sp X<|SI.dk FC KW
 refine⟨⟨⟨⟨f,_,D5,LO,On,Fk,f',qf,_,aN,xF,Rr,Rr,Rr,Rr,noM,sp _ _ (f6.lst M wl) n5,K3 sp X<|f6.pair M K',SH,λi b hb=>NW i b.1<|by rw[ar,hb];rfl,sp _ _ (N1.lst B7 IR) a8,K3 sp X<|N1.pair B7 JE,sp _ _ (SZ.lst CY E3) a5,?_⟩,b5,O.sz,rx nk (by decide)⟩,⟨f,_,D8,LN,LU,Pf,i8,CH,AM,xF,Rr,Rr,Rr,Rr,sp _ _ (f9.lst W Kx) n8,K3 sp X<|f9.pair W MM,bU sp X<|SF.dk C3 Gc,QE,sp _ _ (IP.lst DL JI) aZ,K3 sp X<|IP.pair DL Lu,(L1.sx IQ DC).sp sp X⟩,nr,O.nz,?_⟩,f,_,l1,LS,LW,AL,xF,Rr,Rr,Rr,sp _ _ (f3.lst A ZO) a3,bU sp X<|S0.dk B3 E4,FD,LI,sp _ _ (VO.lst (A3 _ _ DC) F9) aQ,LO,aN,Rr,SH,IT⟩
 case refine_2=>rw[Yx O.ln,a6]
 rw[<-O.ek];refine Bo (F:=λ(r:R) y=>TupAt _ r.v y) ρ ?_;have ap:Rows uS ρ<|s.filter λv=>Fj (ρ v).w:=λv hv=>bF sp X<|IQ.tup DC<|N9 v (be.mp hv).1
 generalize s.filter (λv=>Fj (ρ v).w)=l at ap;have Y:∀l:_a V,(∀v∈l,TupAt uS (ρ v).v v)->Paired (λv y=>TupAt uS (ρ v).v y) l l:=by
  intro l
  induction l with
  |nil=>intro _;exact .nil
  |cons a b ih=>intro h;exact .cons (h a<|br ..)<|ih λv hv=>h v<|bg _ hv
 exact Y _ ap
inductive YT(C:_d)(vs:_a V)(H:Hp)(Q:VK)(d0:XK):Prop
|mk(x:_d)(bs:_a (_m×_c))(ks:_a R)(_:vs=[.ref x])(_:Dv C H x bs ks)(_:∀D f' H',H D=_o->Aj H H'->H' D=_b (.lst f')->Paired (λb y=>TupAt H' (bV b) y) bs f'->Q (.ref D) H')
theorem scOb:Am dv dv<|Ae sOb:=Bc
include N T in
theorem Wl:BP P w K mg base BV 1 aD.Ob dv<|YT C:=by
 refine N.FOb.1.DY scOb λH I Q E k h=>?_;obtain⟨x,bs,A,rfl,O,q⟩:=h;refine⟨_,Af<|Aq<|Ci Ec U T.list fe<|Aa (BX (pv 0) U) Ab,?_⟩;obtain⟨⟨i,fs,d,y,r,z,a,L,j,f,b,c,G,s,B,p,e,g,m,v,n,o,J,u⟩,D,t,F⟩:=id O;exact⟨C,i,_,_,b,T.cl,T.n_board_list,c,d,a,U,oP<|.inl e,λl hl=>q l a _ hl (A_ hl) Ah<|Ar (A_ hl) g⟩
inductive iK(C:_d)(vs:_a V)(H:Hp)(Q:VK)(d0:XK):Prop
|mk(x:_d)(bs:_a (_m×_c))(ks:_a R)(_:vs=[.ref x])(_:Dv C H x bs ks)(_:Q (.int ((Eb bs).length:_c)) H)
theorem scOc:Am dv dv<|Ae sOc:=Bc
include N T in
theorem oN:BP P w K mg base BV 1 aD.Oc dv<|iK C:=by
 refine N.FOc.1.DY scOc λH F Q E k h=>?_;obtain⟨x,bs,y,rfl,O,q⟩:=h;refine⟨_,Af<|Aq<|Ay BL U T.len bt<|Aa (BX (pv 0) U) Ab,?_⟩;obtain⟨⟨i,fs,r,u,d,v,I,g,j,f,a,n,D,e,z,m,t,J,l,s,b,c,G,p⟩,A,o,B⟩:=id O;refine⟨C,i,_,_,a,T.cl,T.n_key_places,e,d,g,U,oP<|.inl b,?_⟩;rw[<-c.length];exact q
inductive aG(C:_d)(vs:_a V)(H:Hp)(Q:VK)(d0:XK):Prop
|mk(x:_d)(bs:_a (_m×_c))(ks:_a R)(j:_c)(b:_m×_c)(n:_j)(_:vs=[.ref x,.str b.1,.int n])(_:Dv C H x bs ks)(_:bs[j]? = _b b)(_:∀H',Aj H H'->Q (.int ((((bs.take j).map (·.2)).sum:_c)+n)) H')
theorem scOk:Am lS lS<|Ae sOk:=Bc
include N T in
theorem bz:BP P w K mg base BV 2 aD.Ok lS<|aG C:=by
 refine N.FOk.1.DY scOk λH vs Q E m h=>?_;obtain⟨x,bs,ks,j,b,n,rfl,O,r,q⟩:=h;have W:=By m;refine⟨_,Af<|Aq<|BK Bu (BJ N.FCa (m9 N T) m<|Aa (FN Lk (BX (pv 0) U) Gk<|Fi<|DK W (BX (pv 0) U) (pv 1)<|λ_ _=>rfl) Ab)<|pv 2,?_⟩;obtain⟨⟨t,fs,I,bn,kp,kr,c,qf,X,M,p,A,V,l3,l4,lm,L,s,v,J,Y,Z,h8,h9⟩,we,B,vF⟩:=id O;have hj:j<bs.length:=(ag.mp r).1;have hl:=s.length;have g:=Dm.k (k:=Key.inr b.1) v;rw[J j b r] at g;refine⟨C,t,_,_,p,T.cl,T.n_board_list,A,C,t,_,_,p,T.cl,T.n_board_numbers,V,_,g,I,c,U,oP L,λd f=>?_⟩;have l:=A_ (o:=HO.lst<|FQ c _o<|some (j:_j)) f;have i:upd H d (HO.lst<|FQ c _o<|some (j:_j)) d=_:=Ah;generalize upd H d (HO.lst (FQ c _o (_b (j:_j))))=u at l i |-;rw[Lf c j (fR (wT hj hl))] at i;refine⟨d,(bs.take j).map vU,c.take j,U,i,Bo (F:=λ(a:Th) y=>TupAt u (tV a) y) vU<|M9 (Ar l s) j,by rw[Τ,zl];lia,(λa z=>by obtain⟨R,e,rfl⟩:=Ľ.mp z;exact rx (B R<|List.mem_of_mem_take e)<|by show 61<=100;decide),λS G=>?_⟩;have D:((bs.take j).map vU).map (λa=>a.2.1)=(bs.take j).map (·.2):=by
  rw[bb];rfl
 rw[D];exact q S<|l.trans G
inductive au(C:_d)(vs:_a V)(H:Hp)(Q:VK)(d0:XK):Prop
|mk(x:_d)(bs:_a (_m×_c))(ks:_a R)(i:_c)(qd:_c×_c)(_:vs=[.ref x,.int (i:_c)])(_:Dv C H x bs ks)(_:(Eb bs)[i]? = _b qd)(_:∀y,TupAt H (qV qd) y->Q y H)
theorem scOo:Am f0 f0<|Ae sOo:=Bc
include N T in
theorem dq:BP P w K mg base BV 1 aD.Oo f0<|au C:=by
 refine N.FOo.1.DY scOo λH R Q E n h=>?_;obtain⟨x,bs,G,i,A,rfl,O,f,q⟩:=h;refine⟨_,Af<|Aq<|Gi En (BX (pv 0) U) (pv 1)<|λ_ _=>rfl,?_⟩;obtain⟨⟨l,fs,v,D,r,F,V,k,m,g,a,s,M,d,I,p,B,W,o,z,b,c,S,u⟩,J,t,L⟩:=id O;obtain⟨y,j,e⟩:=Br c f;exact⟨C,l,_,_,a,T.cl,T.n_key_places,d,k,_,oP b,Av j,q y e⟩
inductive vO(C:_d)(vs:_a V)(H:Hp)(Q:VK)(d0:XK):Prop
|mk(x:_d)(bs:_a (_m×_c))(ks:_a R)(k j1 j2:_c)(b1 b2:_m×_c)(nm:_m)(s:_j)(_:vs=[.ref x,.int (k:_c)])(_:Dv C H x bs ks)(_:ks[k]? = _b ⟨"coupler",nm,[.str b1.1,.str b2.1,.int s]⟩)(_:bs[j1]? = _b b1)(_:bs[j2]? = _b b2)(_:∀y H',Aj H H'->TupAt H' [.int (j1:_c),.int (j2:_c),.int s] y->Q y H')
inductive UG(C:_d)(vs:_a V)(H:Hp)(Q:VK)(d0:XK):Prop
|mk(x:_d)(bs:_a (_m×_c))(ks:_a R)(k j1:_c)(b1:_m×_c)(wd nm:_m)(rs:_a V)(_:vs=[.ref x,.int (k:_c)])(_:Dv C H x bs ks)(_:ks[k]? = _b ⟨wd,nm,.str b1.1::rs⟩)(_:bs[j1]? = _b b1)(_:Q (.int (j1:_c)) H)
theorem scBk:Am eH eH<|Ae sBk:=Bc
include N T in
theorem Xf:BP P w K mg base BV 1 aD.Bk eH<|UG C:=by
 refine N.FBk.1.DY scBk λH vs Q E g h=>?_;obtain⟨x,bs,Y,k,m,d,wd,S,A,rfl,O,z,a,q⟩:=h;have v:=By g;refine⟨_,Af<|Aq<|DK v (BX (pv 0) U) (An K<|Gi En (BX (pv 0) U) (pv 1)<|λ_ _=>rfl)<|λ_ _=>rfl,?_⟩;obtain⟨⟨e,fs,R,W,G,X,f',qf,f,p,b,J,s,I,r,F,V,h3,i,n,B,D,u,l⟩,Z,L,vF⟩:=id O;obtain⟨y,t,M,rfl,o⟩:=Br l z;have c:=Dm.k (k:=Key.inr d.1) i;rw[n m d a] at c;exact⟨C,e,_,_,b,T.cl,T.n_board_numbers,s,C,e,_,_,b,T.cl,T.n_knob_rows,r,f,_,oP u,Av t,_,_,oP o,Av (j:=2) U,_,c,q⟩
theorem zG:Am ["self","knob","row"] eH (Ae sOp):=Bc
include N T in
theorem xK:BP P w K mg base BV 2 aD.Op eH<|vO C:=by
 refine N.FOp.1.DY zG λH vs Q E f h=>?_;obtain⟨x,bs,B,k,l,L,c,j,nm,M,rfl,O,r,a,d,q⟩:=h;have J:=By f;refine⟨_,(Ac (BZ (i:=2) zG.nd U (Or.inl U)<|Gi En (BX (pv 0) U) (pv 1)<|λ_ _=>rfl)
  (Af<|Aq<|CQ<|Aa (Fd (pv 0) T.cl N.FBk (Xf N T) f<|Aa (pv 1) Ab)<|Aa (DK J (BX (pv 0) U) (An K<|pv 2)<|λ_ _=>rfl)<|Aa (An K<|pv 2) Ab)),?_⟩
 obtain⟨⟨e,fs,bl,bn,V,kr,f',qf,s,A,b,X,F,W,D,t,h2,h3,g,m,R,S,I,v⟩,we,Y,vF⟩:=id O;obtain⟨y,G,Z,rfl,n⟩:=Br v r;have u:=Dm.k (k:=Key.inr c.1) g;rw[m l c a] at u;have o:=Dm.k (k:=Key.inr j.1) g;rw[m L j d] at o;refine⟨C,e,_,_,b,T.cl,T.n_knob_rows,D,s,_,oP I,Av G,?_⟩;refine⟨e,fs,b,t _<|by decide,x,bs,B,k,l,c,_,_,_,U,O,r,a,?_⟩;refine⟨C,e,_,_,b,T.cl,T.n_board_numbers,F,_,_,oP n,U,_,o,?_⟩;exact⟨_,_,oP n,U,by show 3<=sizeLine;decide,λp z=>q _ _ (A_ z) ⟨p,U,Ah⟩⟩
inductive pI(C:_d)(vs:_a V)(H:Hp)(Q:VK)(d0:XK):Prop
|mk(x:_d)(bs:_a (_m×_c))(ks:_a R)(k i j1 j2:_c)(b1 b2:_m×_c)(qd:_c×_c)(nm:_m)(s:_j)(_:vs=[.ref x,.int (k:_c),.int (i:_c)])(_:Dv C H x bs ks)(_:(Eb bs)[i]? = _b qd)(_:ks[k]? = _b ⟨"coupler",nm,[.str b1.1,.str b2.1,.int s]⟩)(_:bs[j1]? = _b b1)(_:bs[j2]? = _b b2)(_:∀H',Aj H H'->Q (Ny bs j1 j2 s qd b2.2) H')
theorem Z5:Am ["organ","knob","key","coupler","place","second","number"] qy (Ae sLe):=Bc
include N T in
theorem zb:BP P w K mg base BV 3 aD.Le qy<|pI C:=by
 refine N.FLe.1.DY Z5 λH vs Q E n h=>?_;obtain⟨x,bs,f,k,i,u,W,b1,o,b,nm,j,rfl,O,R,hk,I,d,q⟩:=h;refine⟨_,(Ac (Bg (DP<|Fv Ei Gw Al (pv 2)<|Dp (pv 0) T.cl N.FOc (oN N T) n) (Af<|Aq Er) BR)
  (Ac (BZ (i:=3) Z5.nd U (Or.inl U)<|Fd (pv 0) T.cl N.FOp (xK N T) n<|Aa (pv 1) Ab)
  (Ac (BZ (i:=4) Z5.nd U (Or.inl U)<|Fd (pv 0) T.cl N.FOo (dq N T) n<|Aa (pv 2) Ab)
  (Ac (BZ (i:=5) Z5.nd U (Or.inl U)<|B_ K (Dp (pv 0) T.cl N.FOb (Wl N T) n)<|An K<|pv 3)
  (Ac (BZ (i:=6) Z5.nd U (Or.inl U)<|BK Bu (An K<|pv 4)<|An K<|pv 3)
  (Ac (Bg (PW.pt<|Fy (Bd PB (An K<|pv 4)<|An K<|pv 3)<|Eu<|DP<|Fv Ei Gw Al (pv 6)<|An K<|pv 5) (Af<|Aq Er) BR)
  (Af<|Aq<|Fd (pv 0) T.cl N.FOk (bz N T) n<|Aa (An K<|pv 5)<|Aa (pv 6) Ab))))))),?_⟩
 have hi:i<(Eb bs).length:=(ag.mp R).1;have a:∀{X:Hp},Dv C X x bs f->∃g fs,X x=_b (.ins C g fs)/\∀m∈meths,fs.lookup m=none:=λO'=>by
  obtain⟨⟨g,fs,_,_,_,_,_,_,_,_,h1,_,_,_,_,v,_⟩,_⟩:=O';exact⟨g,fs,h1,v⟩
 obtain⟨g,fs,Y,v⟩:=a O;refine Cz (λ_=>?_)<|λz=>_z (_i<|ja _) z
 refine⟨g,fs,Y,v _<|by decide,x,bs,f,U,O,?_⟩;refine ib ?_;rw[_i (by exact BT.mpr hi:(i:_j)<((Eb bs).length:_c))];refine Jz ?_;refine⟨g,fs,Y,v _<|by decide,x,bs,f,k,u,W,b1,o,nm,j,U,O,hk,I,d,λy1 H1 G II=>?_⟩;have r:=O.mono G;obtain⟨Si,M,l,Pt⟩:=a r;refine⟨Si,M,l,Pt _<|by decide,x,bs,f,i,b,U,r,R,λy2 L=>?_⟩;refine⟨Si,M,l,Pt _<|by decide,x,bs,f,U,r,λD f' H2 hD e F IU=>?_⟩;obtain⟨T1,rfl,y⟩:=II.mono e;obtain⟨T2,rfl,S⟩:=L.mono e;obtain⟨v3,FK,T3,rfl,Z⟩:=Br IU d;refine⟨_,_,oP y,U,f',_,oP F,Av FK,?_⟩;refine⟨_,_,oP S,U,_,_,oP y,U,?_⟩;refine⟨_,_,oP S,U,_,_,oP y,U,U,?_⟩;have fin:=q H2<|G.trans e
 unfold Ny at fin;by_cases s:b.1=u
 .have z:(!decide (V.int (b.1:_c)=V.int (u:_c)))=false:=by rw[s];simp
  rw[z];refine Jz ?_;refine Cz (λt=>?_)<|λt=>?_
  .refine⟨_,_,oP Z,U,?_⟩;have c:0<=(b.2:_j)+j:=_s t;by_cases p:(b.2:_j)+j<(o.2:_c)
   .have A:decide ((b.2:_j)+j<(o.2:_c))=true:=_i p;refine ib ?_;rw[A];refine Jz ?_;rw[_n ⟨s,c,p⟩] at fin;obtain⟨Fu,B,tJ,Fa⟩:=a<|r.mono e;refine⟨Fu,B,tJ,Fa _<|by decide,_,_,oP Z,U,x,bs,f,W,o,_,U,r.mono e,d,λH3 s3=>?_⟩;have J:=q H3<|(G.trans e).trans s3
    unfold Ny at J;rw[_n ⟨s,c,p⟩] at J;exact J
   .have A:decide ((b.2:_j)+j<(o.2:_c))=false:=_t p;refine ib ?_;rw[A];refine Jx ?_;rw[_l λz=>p z.2.2] at fin;exact fin
  .have c:decide (0<=(b.2:_j)+j)=false:=(ft _).mp t;rw[_l λz=>_z (_i z.2.1) t] at fin;exact fin
 .have z:(!decide (V.int (b.1:_c)=V.int (u:_c)))=true:=by
   rw[_t λz=>s (by have:=V.int.inj z;lia)];rfl
  rw[z];refine Jx ?_;rw[_l λz=>s z.1] at fin;exact fin
inductive aj(vs:_a V)(H:Hp)(Q:VK)(d0:XK):Prop
|mk(n:_c)(i:_j)(_:vs=[.int n,.int i])(_:Q (.bl (decide (0<=i) && n.testBit i.toNat)) H)
theorem qp(n:_c)(i:_j):decide (V.int (Χ ((n:_j) / 2 ^ i.toNat) 1)=V.int 1)=n.testBit i.toNat:=by
 rw[Ja,show (1:_j)=((1:_c):_j) from rfl,<-Int.natCast_ediv,PJ,Bool.eq_iff_iff];rw[Nat.testBit_eq_decide_div_mod_eq,Nat.and_one_is_mod];simp only[_H,V.int.injEq];exact Int.ofNat_inj
theorem scHa:Am qx qx<|Ae sHa:=Bc
include N T in
theorem dU:BP P w K mg base BV 1 aD.Ha qx aj:=by
 refine N.FHa.1.DY scHa λH f Q E d h=>?_;obtain⟨n,i,rfl,q⟩:=h;refine⟨_,Af<|Aq<|Dl (HN Ei Gw Al (pv 1)<|V2 PySem.F.plainAttrs_int PySem.F.slot_int_bit_length PySem.F.type_int_bit_length Ul<|pv 0)<|Dh<|DX Bt (BK KZ (BK dR (pv 0)<|pv 1) Al) Al<|Et _,?_⟩;refine Cz (λa=>?_)<|λa=>?_
 .have c:0<=i:=_s a;refine⟨U,(n:_j),U,U,?_⟩;rw[MK];refine Cz (λb=>?_)<|λb=>?_
  .refine⟨c,U,?_⟩;try dsimp only
   rw[qp];rw[a,hU] at q;exact q
  .have e:n.testBit i.toNat=false:=by
    cases hb:n.testBit i.toNat with
    |false=>rfl
    |true =>
     have:=Wd.dI hb;exact _z (_i (by lia:i<(Wd.len n:_j))) b
   rw[e,Ă] at q;exact q
 .rw[(ft _).mp a,hV] at q;exact q
inductive V5(vs:_a V)(H:Hp)(Q:VK)(d0:XK):Prop
|mk(n:_c)(_:vs=[.int n])(_:n<2 ^ 1200)(_:∀p H',H p=_o->Aj H H'->H' p=_b (.lst (nV (Wd.mem n)))->Q (.ref p) H')
theorem bH(n:_c):((((_L<|Wd.len n).map λ(i:_c)=>(0:_j)+(i:_j)).filter λi=>decide (0<=i) && n.testBit i.toNat).map λi=>V.int i)=nV (Wd.mem n):=by
 unfold Wd.mem;rw[fg,bb];have e:((λi:_j=>decide (0<=i) && n.testBit i.toNat) ∘ λ(i:_c)=>(0:_j)+(i:_j))=n.testBit:=by
  funext i;show (decide (0<=(0:_j)+(i:_j)) && n.testBit ((0:_j)+(i:_j)).toNat)=n.testBit i;have a:(0:_j)<=0+(i:_j):=zaf (by decide) (ja _)
  have b:((0:_j)+(i:_j)).toNat=i:=by lia
  rw[_i a,b,hU]
 rw[e];refine fN λi _=>?_;show V.int ((0:_j)+(i:_j))=V.int (i:_j);rw[iE]
theorem scMe:Am ["some"] ["some"] (Ae sMe):=Bc
include N T in
theorem Tn:BP P w K mg base BV 2 aD.Me ["some"] V5:=by
 refine N.FMe.1.DY scMe λH j Q E d h=>?_;obtain⟨n,rfl,f,q⟩:=h;refine⟨_,Af<|Aq<|Bp U (Bb (osc:=Ae sMe) (N:=["some"]) U U<|by decide) (Dk U T.range<|Aa (V2 PySem.F.plainAttrs_int PySem.F.slot_int_bit_length PySem.F.type_int_bit_length Ul<|pv 0) Ab) (λ_ _ _ _=>(G7<|Di<|BJ N.FHa (dU N T) d<|Aa (pv 1)<|Aa (pv 0) Ab))<|λ_ _ _ _=>(pv 0),?_⟩;have b:Wd.len n<=1200:=Wd.Pg f;refine⟨U,(n:_j),U,U,?_⟩;rw[MK];refine⟨_,U,by lia,by lia,?_⟩;rw[bp];refine Kc (lo:=0) (n:=Wd.len n) (λi=>decide (0<=i) && n.testBit i.toNat) (λi=>.int i) (cc b<|by decide) (λi g a c R k=>?_) (λi g _ a c R k=>k a<|Aj.refl a)<|λD a e c hl=>?_
 .exact⟨n,_,U,k a<|Aj.refl a⟩
 .rw[bH] at hl;exact q D a e c hl
inductive Z8(vs:_a V)(H:Hp)(Q:VK)(d0:XK):Prop
|mk(n:_c)(k:_j)(c:_c)(_:vs=[.int n,.int k,.int c])(_:n<2 ^ 1200)(_:-1200<=k)(_:k<=1200)(_:c<=1200)(_:Q (.int (Wd.mv n k c:_c)) H)
theorem XX(m c:_c):Χ (m:_j) (1 * 2 ^ ((if (0:_j) > (c:_j) then (0:_j) else (c:_j))).toNat - 1)=((m % 2 ^ c:_c):_j):=by
 have h:¬ (0:_j) > (c:_j):=Zs (ja _)
 rw[_l h,s_,bp,Ja];have a:1<=2 ^ c:=Nat.one_le_two_pow;have e:((2 ^ c:_c):_j) - 1=((2 ^ c - 1:_c):_j):=by lia
 rw[e,PJ,Nat.and_two_pow_sub_one_eq_mod]
theorem yX:Am ["some","steps","count","moved"] py (Ae sSh):=Bc
include N T in
theorem aO:BP P w K mg base BV 1 aD.Sh py Z8:=by
 refine N.FSh.1.DY yX λH o Q E j h=>?_;obtain⟨n,k,c,rfl,g,l,m,p,q⟩:=h;refine⟨_,(Ac (BZ (i:=3) yX.nd U (Or.inl U)<|K4 (Bd R3 (pv 1) Al) (BK jB (pv 0)<|pv 1)<|BK dR (pv 0)<|Km O8<|pv 1)
  (Af<|Aq<|BK KZ (pv 3)<|BK GZ (BK fK Al<|Ay (QS U) U T.max ŉ<|Aa (pv 2)<|Aa Al Ab) Al)),?_⟩
 have d:Wd.len n<=1200:=Wd.Pg g;have f:(2:_j) ^ 27=134217728:=by decide
 refine Cz (λa=>?_)<|λa=>?_
 .have b:0<k:=_s a;refine⟨⟨ST b,by rw[MK,f];lia⟩,?_⟩;refine⟨_,_,U,⟨⟨by split <;> lia,by split <;> lia,by decide⟩,?_⟩⟩;try dsimp only
  have e:((n:_j) * 2 ^ k.toNat)=((n * 2 ^ k.toNat:_c):_j):=by rw[Ja];simp
  show Q (.int _) _;rw[e,XX];unfold Wd.mv at q;rw[_n b] at q;exact q
 .have b:¬ 0<k:=λz=>a<|_i z
  refine⟨by lia,?_⟩;refine⟨_,_,U,⟨⟨by split <;> lia,by split <;> lia,by decide⟩,?_⟩⟩;try dsimp only
  have e:((n:_j) / 2 ^ (-k).toNat)=((n / 2 ^ (-k).toNat:_c):_j):=by rw[Ja];simp
  show Q (.int _) _;rw[e,XX];unfold Wd.mv at q;rw[_l b] at q;exact q
inductive dF(C:_d)(vs:_a V)(H:Hp)(Q:VK)(d0:XK):Prop
|mk(x:_d)(bs:_a (_m×_c))(ks:_a R)(_:vs=[.ref x])(_:Dv C H x bs ks)(_:∀D ys H',H D=_o->Aj H H'->H' D=_b (.lst ys)->Paired (λ(r:R) y=>TupAt H' [.str r.w,.str r.nm] y) ks ys->Q (.ref D) H')
theorem scOz:Am dv dv<|Ae sOz:=Bc
include N T in
theorem fQ:BP P w K mg base BV 1 aD.Oz dv<|dF C:=by
 refine N.FOz.1.DY scOz λH vs Q E I h=>?_;obtain⟨x,bs,ks,rfl,O,q⟩:=h;refine⟨_,Af<|Aq<|Bp U (Bb (osc:=Ae sOz) (N:=dv) U U<|by decide) (Bl<|BX (pv 0) U) (λ_ _ _ _=>Cj)<|λ_ _ _ _=>(CQ<|Aa (An K<|pv 0)<|Aa (An K<|pv 0) Ab),?_⟩;obtain⟨⟨G,fs,bl,bn,W,t,f',qf,d,s,o,Y,l2,X,u,V,h2,h3,J,h5,L,M,A,c⟩,we,Z,vF⟩:=id O;have i:Dd K H t d:=.inl<|.inl A
 have S:=c.length;refine⟨C,G,_,_,o,T.cl,T.n_knob_rows,u,⟨_,i⟩,Ow (K:=K) (xs:=d) (λ_=>_g) (λv=>[.str (KJ H v).w,.str (KJ H v).nm]) i (Ax<|by lia) (λy l a b R k=>k a<|Aj.refl a) (λy l _ a b R k=>?_)<|λD a p z b hl m=>?_⟩
 .obtain⟨r,_,f⟩:=Dg c l;have e:=Nv f;rw[e] at k;obtain⟨T0,rfl,g⟩:=f.mono b;exact⟨_,_,oP g,Av (j:=0) U,_,_,oP g,Av (j:=1) U,by show 2<=sizeLine;decide,λB n=>k _ _ (A_ n) ⟨B,U,Ah⟩⟩
 .rw[cw.mpr (λ_ _=>rfl)] at m;have h:=Bo (F:=λ(r:R) y=>TupAt a [.str r.w,.str r.nm] y) (KJ H) m;rw[Q5 c] at h;exact q D p a z b hl h
inductive fV(C:_d)(vs:_a V)(H:Hp)(Q:VK)(d0:XK):Prop
|mk(x:_d)(bs:_a (_m×_c))(ks:_a R)(wd:_m)(D:_c)(_:vs=[.ref x,.int (D:_c),.str wd])(_:Dv C H x bs ks)(_:∀L (cl:_a _c) H',H L=_o->Aj H H'->H' L=_b (.lst (nV cl))->(∀k,k∈cl ↔ ∃r,ks[k]? = _b r/\r.w=wd/\D.testBit k=_g)->cl.length<=200->Q (.ref L) H')
theorem z7:Am oa pz<|Ae sDc:=Bc
include N T in
theorem aC:BP P w K mg base BV 2 aD.Dc pz<|fV C:=by
 refine N.FDc.1.DY z7 λH vs Q E M h=>?_;obtain⟨x,bs,b,wd,D,rfl,O,q⟩:=h;refine⟨_,(Ac (X7 (i:=3) z7.nd U U U (Bb (osc:=Ae sDc) (N:=oa) U U<|by decide) (Bl<|Dp (pv 0) T.cl N.FOz (fQ N T) M) (λ_ _ _ _=>Cj)<|λ_ _ _ _=>(An K<|pv 0))
  (Af<|Aq<|RP U (Io (osc:=Ae sDc) (N:=oa) U U<|by decide) (Ly U T.enumerate<|Aa (pv 3) Ab) (λ_ _ _ _=>G7<|PW.pt<|HB (Bd Bt (pv 1)<|pv 4)<|Fg<|Di<|BJ N.FHa (dU N T) M<|Aa (pv 3)<|Aa (pv 0) Ab)<|λ_ _ _ _=>(pv 0))),?_⟩
 obtain⟨⟨dx,fs,bl,bn,kp,kr,f',qf,rf,ab,A,l1,l2,l3,l4,Z,o,n,h4,h5,h6,h7,h8,h9⟩,we,ui,vF⟩:=id O;refine⟨dx,fs,A,Z _<|by decide,x,_,_,U,O,λD1 I W FO Y F B=>?_⟩;have f:Dd K W D1 I:=.inl<|.inl F
 have ac:=B.length;refine⟨⟨_,f⟩,JR (K:=K) (xs:=I) (ZR W 0) f (λy hy a s R k=>?_)<|λL H2 vT G d=>?_⟩
 .obtain⟨r,_,S⟩:=Dg B hy;have e:=Kq S 0;obtain⟨T0,rfl,hT⟩:=S.mono s;have c:=k a<|Aj.refl a
  rw[e] at c;exact⟨_,_,oP hT,U,c⟩
 rw[Ni 0 B] at d;have e2:(b.map λr=>([V.str r.w,V.str r.nm]:_a V).getD 0 .non)=b.map λr=>V.str r.w:=rfl;rw[e2] at d;have m:Dd K H2 L<|b.map λr=>V.str r.w:=.inl<|.inl d
 refine⟨L,U,⟨_,m⟩,Y8 (K:=K) (xs:=b.map λr=>V.str r.w) (λi v=>decide (v=.str wd) && D.testBit i) (λi _=>.int (i:_c)) m (Ax<|by rw[ah];exact rx vF (by decide)) (λi v u a s R k=>?_) (λi v u _ a s R k=>k a<|Aj.refl a)<|λD3 H3 DF s3 qB=>?_⟩
 .rw[ar] at u;obtain⟨z,J,rfl⟩:=aI.mp u;have c:=k a<|Aj.refl a
  refine⟨U,?_⟩;refine Cz (λg=>?_)<|λg=>?_
  .rw[g,hU] at c;refine⟨D,_,U,?_⟩;rw[_i (by exact ja _:(0:_j)<=(i:_c)),hU,bp];exact c
  .rw[(ft _).mp g,hV] at c;exact c
 .refine q D3 (((b.map λr=>V.str r.w).zipIdx.filter λp=>decide (p.1=V.str wd) && D.testBit p.2).map (·.2)) H3 ((Y.trans G).free DF) ((Y.trans G).trans s3) ?_ (λk=>?_) ?_
  .rw[qB];refine congrArg (λl=>_b<|HO.lst l) ?_;unfold nV;rw[bb];rfl
  .constructor
   .intro hk;obtain⟨⟨v,X⟩,hm,rfl⟩:=ay.mp hk;obtain⟨A,o⟩:=be.mp hm;have n:=List.mem_zipIdx' A;rw[ow] at n;obtain⟨t,n⟩:=n;rw[eM] at o;have j:X<b.length:=by simpa using t
    refine⟨b[X],af j,?_,o.2⟩;have:=o.1;rw[n] at this;exact V.str.inj<|_s this
   .rintro⟨z,J,hc,hd⟩;refine ay.mpr ⟨(V.str z.w,k),be.mpr ⟨?_,?_⟩,U⟩
    .rw[List.mem_zipIdx_iff_getElem?,ar,J];rfl
    .show (decide (V.str z.w=V.str wd) && D.testBit k)=_g;rw[hc,hd,_i U];rfl
  .rw[ah];refine cq (cr _ _) ?_;rw[wh,ah];exact vF
inductive iR(C:_d)(vs:_a V)(H:Hp)(Q:VK)(d0:XK):Prop
|mk(x:_d)(bs:_a (_m×_c))(ks:_a R)(n:_c)(_:vs=[.ref x,.int (n:_c)])(_:Dv C H x bs ks)(_:n<2 ^ 1200)(_:Q (.int (Wd.mv n 0 (bs.map (·.2)).sum:_c)) H)
theorem Ft{bs:_a (_m×_c)}(O:Dv C H x bs ks):(bs.map (·.2)).sum<=305:=by
 have h:=Lg bs 61 O.sz;rw[Eg] at h;have:=O.nb;have:bs.length * 61<=5 * 61:=im _ this;exact rx h this
theorem scHk:Am rh rh<|Ae sHk:=Bc
include N T in
theorem nq:BP P w K mg base BV 2 aD.Hk rh<|iR C:=by
 refine N.FHk.1.DY scHk λH k Q E a h=>?_;obtain⟨x,bs,g,n,rfl,O,d,q⟩:=h;refine⟨_,Af<|Aq<|BJ N.FSh (aO N T) a<|Aa (pv 1)<|Aa Al<|Aa (Dp (pv 0) T.cl N.FOc (oN N T) a) Ab,?_⟩;obtain⟨⟨e,fs,p,y,m,v,t,s,i,f,b,l,j,o,u,c,_⟩,_⟩:=id O;have r:=Ft O;refine⟨e,fs,b,c _<|by decide,x,bs,g,U,O,n,0,(Eb bs).length,U,d,by decide,by decide,by rw[Eg];exact rx r (by decide),?_⟩;rw[Eg];exact q
theorem k_(h:n<=3000):n<sizeLine:=cc h<|by decide
theorem TV{v:V}{Q:St->Hp->Prop}:Df i v σ H Q=Q (σ.set i<|some v) H:=rfl
theorem Uw{c:TT}{u:TS}{r:VK}{b k:St->Hp->Prop}(h:RT c tb { D with nx:=u D } σ H):({ nx:=jr (RT c tb) u D,rt:=r,bk:=b,ct:=k }:Ends).nx σ H:=h
def qu:_r HO->_c
 |some (.lst xs)=>xs.length
 |_=>0
def tR:_r HO->_c
 |some (.dK kvs)=>kvs.length
 |_=>0
abbrev kI(j:_c):Key:=Key.inl ((j:_c):_j)
theorem eU{c:_a _c}(h:kvs.map (·.1)=c.map kI)(j:_c):(CW kvs<|kI j).isSome=decide (j∈c):=by
 rw[<-Hl];rw[fh,fq,_H];constructor
 .rintro⟨p,a,e⟩;have:p.1∈c.map kI:=by rw[<-h];exact aE a
  obtain⟨b,g,d⟩:=ay.mp this;have i:kI b=kI j:=d.trans<|_s e
  have:((b:_c):_j)=(j:_c):=Key.inl.inj i;have:b=j:=by lia
  subst this;exact g
 .intro f;have:kI j∈kvs.map (·.1):=by rw[h];exact aE f
  obtain⟨p,a,e⟩:=ay.mp this;exact⟨p,a,_i e⟩
def TF(H:Hp)(bs:_a<|_m×_c)(kbs:_a Kb)(D n:_c)(kvs:_a<|Key×V)(js:_a _c):Prop:=∀(m j:_c),js[m]? = _b j->∃(k i:_c)(T:_d)(z:Kb),CW kvs (kI j)=_b (.ref T)/\H T=_b (.tup [V.int (k:_c),V.int (i:_c)])/\D.testBit k=_g/\kbs[k]? = _b z/\gl bs z i=_b j/\(n.testBit i=_g \/ i∈js.take m)
theorem TF.by'{bs:_a (_m×_c)}{D:_c}{a:_a _c}(h:TF H bs kbs D n kvs a)(f:∀T xs,H T=_b (.tup xs)->H' T=_b (.tup xs)):TF H' bs kbs D n kvs a:=λm j d=>by
 obtain⟨k,i,T,z,b,c,e⟩:=h m j d;exact⟨k,i,T,z,b,f _ _ c,e⟩
theorem TF.mono{bs:_a (_m×_c)}{D:_c}{a:_a _c}(h:TF H bs kbs D n kvs a)(s:Aj H H'):TF H' bs kbs D n kvs a:=h.by' λT b e=>s _ _ e
theorem TF.upd{bs:_a (_m×_c)}{D:_c}{a:_a _c}{A:_d}{u:HO}(h:TF H bs kbs D n kvs a)(c:H A=_b u)(b:∀xs,u≠.tup xs):TF (L2.upd H A o) bs kbs D n kvs a:=h.by' λT xs e=>by
 rw[Ak (λz=>by rw[z,c] at e;exact b xs<|_h e)];exact e
theorem TF.snoc{bs:_a (_m×_c)}{D:_c}{c:_a _c}{k b:_c}{T:_d}{z:Kb}(h:TF H bs kbs D n kvs c)(g:CW kvs (kI j)=_o)(x:H T=_b (.tup [V.int (k:_c),V.int (b:_c)]))(C:D.testBit k=_g)(s:kbs[k]? = _b z)(u:gl bs z b=_b j)(hi:n.testBit b=_g \/ b∈c) :
  TF H bs kbs D n (kvs++[(kI j,.ref T)]) (c++[j]):=λm i d=>by
 by_cases a:m<c.length
 .rw[fb a] at d;obtain⟨r,y,B,t,f,w,A,o,v,p⟩:=h m i d;refine⟨r,y,B,t,?_,w,A,o,v,?_⟩
  .rw[Jh _ _ _ _ g];by_cases e:kI i=kI j
   .rw[e,g] at f
    cases f
   .rw[_l e];exact f
  .rw[fI (fR a)];exact p
 .have l:=(ag.mp d).1;rw[am,ax] at l;have E:m=c.length:=Fr (KE l) (me a)
  subst E;rw[bX (al _),iF] at d;have q:j=i:=by simpa using d
  subst q;refine⟨k,b,T,z,?_,x,C,s,u,?_⟩
  .rw[Jh _ _ _ _ g,_n U]
  .rw[fI (al _),eP];exact hi
inductive uq(C:_d)(vs:_a V)(H:Hp)(Q:VK)(d0:XK):Prop
|mk(x:_d)(c:_c->_m)(sz:_a _c)(kbs:_a Kb)(D n:_c)(_:vs=[.ref x,.int (D:_c),.int (n:_c)])(_:Dv C H x (Az c sz) (Bw c kbs))(_:Tg sz.length kbs)(_:n<2 ^ 1200)(_:∀i,n.testBit i=_g->i<sz.sum)(_:∀W (kvs:_a (Key×V)) (js:_a _c) H',H W=_o->Aj H H'->H' W=_b (.dK kvs)->kvs.map (·.1)=js.map kI->js.Nodup->TF H' (Az c sz) kbs D n kvs js->(∀j,j∈js ↔ Lh (stp (Az c sz) kbs D) (λi=>n.testBit i=_g) j)->Q (.ref W) H')
theorem WP:Am ["organ","knobs","held","couplers","ways","left","ahead","knob","key"] eh (Ae sWa):=Bc
inductive yJ(H:Hp)(CL:_d)(cl:_a _c)(W:_d)(L:_d)(c:_c->_m)(sz:_a _c)(kbs:_a Kb)(D:_c)(n:_c)(st:_c->_c->Prop)(x:_d)(σ:St)(H4:Hp):Prop
|mk(_:Aj H H4)(_:H4 CL=_b (.lst (nV cl)))(kvs:_a (Key × V))(js ls:_a _c)(_:H4 W=_b (.dK kvs))(_:H4 L=_b (.lst (nV ls)))(_:kvs.map (·.1)=js.map kI)(_:js.Nodup)(_:TF H4 (Az c sz) kbs D n kvs js)(_:(∀j∈js,Lh st (λi=>n.testBit i=_g) j))(_:(∀i∈ls,n.testBit i=_g \/ i∈js))(_:(∀i,(n.testBit i=_g \/ i∈js)->i∈ls \/ ∀j,st i j->j∈js))(_:ls.length+(sz.sum - js.length)<=1600)(v6 v7 v8:_)(_:σ=[_b (.ref x),_b<|.int (D:_c),_b<|.int (n:_c),_b<|.ref CL,_b<|.ref W,_b<|.ref L,v6,v7,v8])
inductive iI(H:Hp)(CL:_d)(cl:_a _c)(W:_d)(L:_d)(c:_c->_m)(sz:_a _c)(kbs:_a Kb)(D:_c)(n:_c)(st:_c->_c->Prop)(i0:_c)(ls:_a _c)(js:_a _c)(x:_d)(m:_c)(σ:St)(H6:Hp):Prop
|mk(_:Aj H H6)(_:H6 CL=_b (.lst (nV cl)))(k9:_a (Key × V))(qh sK:_a _c)(_:H6 W=_b (.dK k9))(_:H6 L=_b (.lst (nV sK)))(_:k9.map (·.1)=qh.map kI)(_:qh.Nodup)(_:TF H6 (Az c sz) kbs D n k9 qh)(_:(∀j∈qh,Lh st (λi=>n.testBit i=_g) j))(_:(∀i∈sK,n.testBit i=_g \/ i∈qh))(_:(∀i,(n.testBit i=_g \/ i∈qh)->i=i0 \/ i∈sK \/ ∀j,st i j->j∈qh))(_:(∀k∈cl.take m,∀z j,kbs[k]? = _b z->gl (Az c sz) z i0=_b j->j∈qh))(_:(n.testBit i0=_g \/ i0∈qh))(_:sK.length+(sz.sum - qh.length)<=ls.length+(sz.sum - js.length))(v7 v8:_)(_:σ=[_b (.ref x),_b<|.int (D:_c),_b<|.int (n:_c),_b<|.ref CL,_b<|.ref W,_b<|.ref L,_b<|.int (i0:_c),v7,v8])
theorem iI.snd{b:_d}{cl:_a _c}{W:_d}{L:_d}{c:_c->_m}{sz:_a _c}{D:_c}{st:_c->_c->Prop}{f:_c}{e:_a _c}{d:_a _c}{a:Hp}(h:iI H b cl W L c sz kbs D n st f e d x m σ a):a b=_b (.lst<|nV cl):=by
 cases h;assumption
include N T in
theorem yc:BP P w K mg base BV 4 aD.Wa eh<|uq C:=by
 refine N.FWa.1.DY WP λH vs Q E hr h=>?_;obtain⟨x,c,sz,f,D,n,rfl,O,re,hn,vx,q⟩:=h;have hu:=By hr;refine⟨_,(Ac (BZ (i:=3) WP.nd U (Or.inl U)<|BJ N.FDc (aC N T) hr<|Aa (pv 0)<|Aa (pv 1)<|Aa Aw Ab)
  (Ac (BZ (i:=4) WP.nd U (Or.inl U) Hg)
  (Ac (BZ (i:=5) WP.nd U (Or.inl U)<|BJ N.FMe (Tn N T) hr<|Aa (pv 2) Ab)
  (Ac (Uh _M (O5 (pv 5)<|λ_=>rfl) (Ac (BZ (i:=6) WP.nd U (Or.inl U)<|GR ci PySem.F.slot_list_pop PySem.F.type_list_pop dD (pv 5)<|Aa Al Ab)
  (Af (DQ _M U (Bl<|pv 3) (Bh (i:=7) WP.nd U<|Or.inl U) (Ac (BZ (i:=8) WP.nd U (Or.inl U)<|BJ N.FLe (zb N T) hr<|Aa (pv 0)<|Aa (pv 7)<|Aa (pv 6) Ab)
  (Af (Bg (PW.pt<|HB (Bd RZ (pv 8) Er)<|Fg<|PP<|Ma hu (pv 8)<|pv 4) (Ac (Gz hu (pv 4) (pv 8) (CQ<|Aa (pv 7)<|Aa (pv 6) Ab) U)
  (Af<|Bg (DP<|Di<|BJ N.FHa (dU N T) hr<|Aa (pv 2)<|Aa (pv 8) Ab) (Af<|Bq<|GR ci dA dE C_ (pv 5)<|Aa (pv 8) Ab) BR)) BR)))))))
  (Af<|Aq<|pv 4))))),?_⟩
 have F:((Az c sz).map (·.2)).sum=sz.sum:=by rw[Cr]
 generalize ab:stp (Az c sz) f D=st;have hR:∀{j},Lh st (λi=>n.testBit i=_g) j->j<sz.sum:=λ{j} r=>by
  rw[<-ab] at r;have:=r.lt;rw[F] at this;exact this
 refine⟨x,Az c sz,Bw c f,"coupler",D,U,O,λCL cl H1 OS s1 aN A2 BM=>?_⟩;have a3:∀k,k∈cl ↔ ∃z,f[k]? = _b z/\uy z=_g/\D.testBit k=true:=λk=>by
  rw[A2];constructor
  .rintro⟨r,hr,hw,hd⟩;obtain⟨z,hz,rfl⟩:=HY hr;rw[IK] at hw;exact⟨z,hz,_i<|congrArg V.str hw,hd⟩
  .rintro⟨z,hz,hc,hd⟩;exact⟨_,Ek hz,(IK _ _ _).trans<|V.str.inj<|_s hc,hd⟩
 intro W hW;obtain⟨H2,k7,t2,u2⟩:=Dr (o:=HO.dK []) hW;rw[k7];refine⟨n,U,hn,λL H3 hL s3 qB=>?_⟩;have a1:=t2.trans s3;have DE:=s1.trans a1;have a6:H W=none:=s1.free hW;have aZ:H L=none:=(s1.trans t2).free hL;have aK:W≠L:=λz=>by rw[<-z,s3 _ _ u2] at qB;cases qB
 have c3:=a1 _ _ aN;have bR:Dd K H3 CL<|nV cl:=.inl<|.inl c3
 have bv:CL≠W:=λz=>by rw[z,s3 _ _ u2] at c3;cases c3
 have ap:CL≠L:=λz=>by rw[z] at aN;rw[t2 _ _ aN] at hL;cases hL
 show Df 5 _ _ _ _;rw[TV];refine Uw ?_;refine R4 (yJ H CL cl W L c sz f D n st x)
  (λ_ I=>qu (I L)+(sz.sum - tR (I W))) ⟨DE,c3,[],[],Wd.mem n,s3 _ _ u2,qB,U,ħ,(λm j hm=>by simp at hm),(λj hj=>nomatch hj),λi X=>.inl<|Wd.mem_iff.mp X,(λi X=>.inl<|Wd.mem_iff.mpr<|X.resolve_right<|by simp),?_,_,_,_,U⟩ ?_ ?_
 .have:=Wd.Pg hn;have:(Wd.mem n).length<=Wd.len n:=by unfold Wd.mem;exact rx (ry _ _)<|by simp
  have o0:=Ft O;rw[F] at o0;simp;lia
 .rintro σ I ⟨s4,c4,G,Z,A,hw,hl,tz,nd,Ee,hj,xl,EH,GH,v6,v7,v8,rfl⟩;refine⟨_,.inl ⟨_,oP hl,U⟩,?_⟩;have bW:Z.length<=sz.sum:=Ef sz.sum nd λj h=>hR<|hj j h
  have bc:G.length=Z.length:=by have:=congrArg Ε tz;simpa using this
  cases A with
  |nil =>
   refine Jz ?_;refine q W G Z I a6 s4 hw tz nd Ee λj=>?_;rw[ab];exact Lh.all (W:=λj=>j∈Z) hj (λi X=>(EH i X).resolve_left<|by simp) j
  |cons d A =>
   refine Jx ?_;refine⟨.inl ⟨U,_,oP hl⟩,L,_,0,0,.int (d:_c),U,U,hl,by decide,by decide,ŭ (by decide) (by simp),U,?_⟩;have w5:upd I L (.lst<|(nV<|d::A).eraseIdx 0) W=_b (.dK G):=by rw[Ak aK];exact hw
   have l5:upd I L (.lst<|(nV<|d::A).eraseIdx 0) L=_b (.lst<|nV A):=Ah;have c5:upd I L (.lst<|(nV<|d::A).eraseIdx 0) CL=_b (.lst<|nV cl):=by rw[Ak ap];exact c4
   have s5:Aj H<|upd I L<|.lst<|(nV<|d::A).eraseIdx 0:=λb o e=>by rw[Ak (Ag e aZ)];exact s4 _ _ e
   have em:qu (I L)+(sz.sum - tR (I W))=A.length+1+(sz.sum - Z.length):=by
    rw[hl,hw];show (nV<|d::A).length+(sz.sum - G.length)=_;rw[bc];simp
   rw[em];have ac:TF (upd I L<|.lst<|(nV<|d::A).eraseIdx 0) (Az c sz) f D n G Z:=Ee.upd hl (λxs z=>by cases z);generalize upd I L (.lst ((nV (d::A)).eraseIdx 0))=H5 at w5 l5 c5 s5 ac |-;have bK:d<sz.sum:=by
    rcases xl d (br ..) with h | h
    .exact vx d h
    .exact hR<|hj d h
   have a7:∀j,st d j->Lh st (λi=>n.testBit i=_g) j:=λj h=>by
    rcases xl d (br ..) with g | g
    .exact .one g h
    .exact .more (hj d g) h
   obtain⟨qd,hq⟩:∃qd,(Eb (Az c sz))[d]? = _b qd:=⟨_,af<|by rw[Eg,F];exact bK⟩;have M:A.length+(sz.sum - Z.length)<A.length+1+(sz.sum - Z.length):=zag (gx _) _
   refine⟨⟨_,oP c5⟩,Gb (K:=K) (a:=CL) (xs:=nV cl) (iI H CL cl W L c sz f D n st d A Z x)
    ⟨s5,c5,G,Z,A,w5,l5,tz,nd,ac,hj,λi X=>xl i<|rz _ X,λi X=>?_,(λk hk=>by simp at hk),xl d<|Ä ..,Η _,_,_,U⟩ (λm σ H6 _ h=>.inl<|.inl h.snd) ?_ ?_⟩
   .rcases EH i X with h | h
    .rcases ce.mp h with rfl | h
     .exact .inl U
     .exact .inr<|.inl h
    .exact .inr<|.inr h
   .rintro m y σ H6 hm ⟨s6,c6,p,t,B,w6,l6,zI,C9,xI,AF,wm,wf,xA,wE,xL,v7,v8,rfl⟩;rw[ar] at hm;obtain⟨k,hk,rfl⟩:=aI.mp hm;obtain⟨z,hz,bl,OL⟩:=(a3 k).mp<|ai hk;have RY:=re.ok z<|ai hz
    obtain⟨j1,j2,s0,rfl⟩:=gb RY bl;obtain⟨bL,bd,_,_⟩:=RY;have a2:(Az c sz)[j1]? = _b (c j1,sz[j1]):=Ej<|af bL
    have as:(Az c sz)[j2]? = _b (c j2,sz[j2]):=Ej<|af bd
    have aw:(Bw c f)[k]? = _b ⟨"coupler",c<|30+k,[.str (c j1),.str<|c j2,.int s0]⟩:=Ek hz;have bP:t.length<=sz.sum:=Ef sz.sum C9 λj h=>hR<|AF j h
    have an:p.length=t.length:=by have:=congrArg Ε zI;simpa using this
    have o0:=Ft O;rw[F] at o0;refine⟨x,Az c sz,Bw c f,k,d,j1,j2,(c j1,sz[j1]),(c j2,sz[j2]),qd,c<|30+k,s0,U,O.mono s6,hq,aw,a2,as,λH7 u=>?_⟩;have l:∀{GW:_a _c},(∀j∈t,j∈GW)->(∀j,gl (Az c sz) (.cp j1 j2 s0) d=_b j->j∈GW)->∀k'∈cl.take (m+1),∀z j,f[k']? = _b z->gl (Az c sz) z d=_b j->j∈GW:=λ{GW} a0 a4 k' tT z' j aB hg=>by
     rw[dL,hk] at tT;rcases aT.mp tT with h | h
     .exact a0 j<|xA k' h z' j aB hg
     .have:k'=k:=by simpa using h
      subst this;rw[hz] at aB
      cases aB;exact a4 j hg
    rcases fD (j1:=j1) (s:=s0) hq as with⟨e,eg⟩ | ⟨j,e,eg,bS⟩
    .rw[e];refine⟨U,Jz<|?_⟩;exact⟨s6.trans u,u _ _ c6,p,t,B,u _ _ w6,u _ _ l6,zI,C9,xI.mono u,AF,wm,wf,l (λj h=>h) (λj h=>by rw[eg] at h;cases h),wE,xL,_,_,rfl⟩
    .rw[e];have aQ:st d j:=by rw[<-ab];exact⟨k,_,OL,hz,eg⟩
     refine⟨U,?_⟩;refine⟨_,Dm.k (k:=kI j)<|u _ _ w6,?_⟩;rw[eU zI j];by_cases J:j∈t
     .rw[_i J];exact⟨s6.trans u,u _ _ c6,p,t,B,u _ _ w6,u _ _ l6,zI,C9,xI.mono u,AF,wm,wf,l (λj h=>h) (λY h=>by rw[eg] at h;cases h;exact J),wE,xL,_,_,U⟩
     .rw[_t J];refine Jx ?_;have nv:CW p (kI j)=none:=by
       have:=eU zI j;rw[_t J] at this;exact Option.not_isSome_iff_eq_none.mp<|by rw[this];decide
      have aM:(t++[j]).Nodup:=ļ.mpr ⟨C9,by simp,λa ha b hb=>by rw[ĵ.mp hb];intro z;exact J<|z ▸ ha⟩;have aP:∀Y∈t++[j],Lh st (λi=>n.testBit i=_g) Y:=λY h=>by
       rcases aT.mp h with h | h
       .exact AF Y h
       .rw[av.mp h];exact a7 j aQ
      have a5:(t++[j]).length<=sz.sum:=Ef sz.sum aM λj h=>hR<|aP j h
      rw[am,ax] at a5;refine⟨by show 2<=sizeLine;decide,λR TH=>?_⟩;obtain⟨H8,k7,t8,KB⟩:=Dr (o:=HO.tup [V.int (k:_c),V.int (d:_c)]) TH;rw[k7];have w8:=t8 _ _<|u _ _ w6
      refine⟨_,Mr.k (k:=kI j) w8<|Ax<|by lia,?_⟩;have u9:upd H8 W (.dK<|putK p (kI j)<|.ref R) W=_b (.dK<|p++[(kI j,.ref R)]):=by rw[<-bT _ nv];exact Ah
      have l9:upd H8 W (.dK<|putK p (kI j)<|.ref R) L=_b (.lst<|nV B):=by rw[Ak aK.symm];exact t8 _ _<|u _ _ l6
      have c9:upd H8 W (.dK<|putK p (kI j)<|.ref R) CL=_b (.lst<|nV cl):=by rw[Ak bv];exact t8 _ _<|u _ _ c6
      have s9:Aj H<|upd H8 W<|.dK<|putK p (kI j)<|.ref R:=λb o e=>by rw[Ak (Ag e a6)];exact t8 _ _<|u _ _<|s6 _ _ e
      have S:TF (upd H8 W<|.dK<|putK p (kI j)<|.ref R) (Az c sz) f D n (p++[(kI j,.ref R)])<|t++[j]:=by
       have p8:=((xI.mono u).mono t8).upd (o:=.dK<|putK p (kI j)<|.ref R) w8 (λxs z=>by cases z);exact p8.snoc nv (by rw[Ak (λz=>by rw[z,w8] at KB;cases KB)];exact KB) OL hz eg wE
      generalize upd H8 W (.dK (putK p (kI j) (.ref R)))=H9 at u9 l9 c9 s9 S |-;have a8:(p++[(kI j,V.ref R)]).map (·.1)=(t++[j]).map kI:=by rw[ba,ba,zI];rfl
      refine⟨n,_,U,?_⟩;have eb:(decide ((0:_j)<=(j:_c)) && n.testBit ((j:_c):_j).toNat)=n.testBit j:=by rw[_i (ja _),hU,bp]
      rw[eb]
      cases hb:n.testBit j with
      |true =>
       refine⟨s9,c9,_,t++[j],B,u9,l9,a8,aM,S,aP,λi h=>(wm i h).imp id<|ω _,λi h=>?_,l (λj h=>ω _ h) (λY h=>by rw[eg] at h;cases h;simp),wE.imp id<|ω _,?_,_,_,U⟩
       .have h':n.testBit i=_g \/ i∈t:=by
         rcases h with h | h
         .exact .inl h
         .rcases aT.mp h with h | h
          .exact .inr h
          .rw[av.mp h];exact .inl hb
        rcases wf i h' with g | g | g
        .exact .inl g
        .exact .inr<|.inl g
        .exact .inr<|.inr λY uu=>bE _<|g Y uu
       .rw[am,ax];lia
      |false =>
       refine⟨.inl ⟨U,_,oP l9⟩,_,l9,k_ (by simp only[õ] at GH;rw[Τ];lia),?_⟩;have bm:upd H9 L (.lst<|nV B++[V.int (j:_c)]) L=_b (.lst<|nV<|B++[j]):=by
        have e9:nV (B++[j])=nV B++[V.int (j:_c)]:=ba;rw[e9];exact Ah
       have bB:upd H9 L (.lst<|nV B++[V.int (j:_c)]) W=_b (.dK<|p++[(kI j,.ref R)]):=by rw[Ak aK];exact u9
       have bN:upd H9 L (.lst<|nV B++[V.int (j:_c)]) CL=_b (.lst<|nV cl):=by rw[Ak ap];exact c9
       have bn:Aj H<|upd H9 L<|.lst<|nV B++[V.int (j:_c)]:=λb o e=>by rw[Ak (Ag e aZ)];exact s9 _ _ e
       refine⟨bn,bN,_,t++[j],B++[j],bB,bm,a8,aM,S.upd l9 (λxs z=>by cases z),aP,(λi h=>?_),(λi h=>?_),l (λj h=>ω _ h) (λY h=>by rw[eg] at h;cases h;simp),wE.imp id<|ω _,?_,_,_,U⟩
       .rcases aT.mp h with h | h
        .exact (wm i h).imp id<|bE _
        .exact .inr<|dc _ h
       .have h':(n.testBit i=_g \/ i∈t) \/ i=j:=by
         rcases h with h | h
         .exact .inl<|.inl h
         .rcases aT.mp h with h | h
          .exact .inl<|.inr h
          .exact .inr<|av.mp h
        rcases h' with h' | rfl
        .rcases wf i h' with g | g | g
         .exact .inl g
         .exact .inr<|.inl<|bE _ g
         .exact .inr<|.inr λY uu=>bE _<|g Y uu
        .exact .inr<|.inl<|by simp
       .rw[am,am,ax];lia
   .rintro σ H6 ⟨s6,c6,p,t,B,w6,l6,zI,C9,xI,AF,wm,wf,xA,wE,xL,v7,v8,rfl⟩;have an:p.length=t.length:=by have:=congrArg Ε zI;simpa using this
    refine⟨⟨s6,c6,p,t,B,w6,l6,zI,C9,xI,AF,wm,λi X=>?_,by simp only[õ] at GH;exact fR (cc xL (bq M GH)),_,_,_,U⟩,?_⟩
    .rcases wf i X with rfl | g | g
     .refine .inr λj a9=>?_;rw[<-ab] at a9;obtain⟨k,z,Kj,SD,hg⟩:=a9;refine xA k ?_ z j SD hg;rw[ë (by simp)];exact (a3 k).mpr ⟨z,SD,yZ hg,Kj⟩
     .exact .inl g
     .exact .inr g
    .show qu (H6 L)+(sz.sum - tR (H6 W))<_;rw[l6,w6];show (nV B).length+(sz.sum - p.length)<_;rw[ah,an];exact cc xL M
 .rintro σ H' Q1 Q2 hm h;obtain⟨v,hv,k,hk,h⟩:=Nf.e h;unfold Nf;rw[hv];exact⟨k,hk,hm _ _ h⟩
inductive rF(C:_d)(vs:_a V)(H:Hp)(Q:VK)(d0:XK):Prop
|mk(x:_d)(c:_c->_m)(sz:_a _c)(kbs:_a Kb)(D n:_c)(_:vs=[.ref x,.int (D:_c),.int (n:_c)])(_:Dv C H x (Az c sz) (Bw c kbs))(_:Tg sz.length kbs)(_:n<2 ^ 1200)(_:∀i,n.testBit i=_g->i<sz.sum)(_:∀(m:_c) H',Aj H H'->(∀j,m.testBit j=_g ↔ Lh (stp (Az c sz) kbs D) (λi=>n.testBit i=_g) j)->Q (.int (m:_c)) H')
theorem Xj{T:_c}(h:∀i,n.testBit i=_g->i<T):Wd.mv n 0 T=n:=by
 refine jo λi=>?_;rw[Wd.Pn];simp;intro a;exact h i a
theorem scCq:Am eh eh<|Ae sCq:=Bc
include N T in
theorem xm:BP P w K mg base BV 5 aD.Cq eh<|rF C:=by
 refine N.FCq.1.DY scCq λH F Q E i h=>?_;obtain⟨x,c,sz,e,D,n,rfl,O,r,m,k,q⟩:=h;refine⟨_,Af<|Aq<|BJ N.FSt (Qf N T) i<|Aa (Ci (Ol U) U T.list fe<|Aa (BJ N.FWa (yc N T) i<|Aa (pv 0)<|Aa (pv 1)<|Aa (BJ N.FHk (nq N T) i<|Aa (pv 0)<|Aa (pv 2) Ab) Ab) Ab) Ab,?_⟩;have a:((Az c sz).map (·.2)).sum=sz.sum:=by rw[Cr]
 have B:=Ft O;rw[a] at B;refine⟨x,Az c sz,Bw c e,n,U,O,m,?_⟩;rw[a,Xj k];refine⟨x,c,sz,e,D,n,U,O,r,m,k,λW f b G I A t y z _ o=>?_⟩;have d:∀j∈b,j<sz.sum:=λj h=>by
  have:=((o j).mp h).lt;rw[a] at this;exact this
 have v:=Ef sz.sum z d;have g:f.map (·.1)=(b.map λj:_c=>(j:_j)).map Key.inl:=by rw[y,bb];rfl
 refine⟨W,f,_,U,t,g,λl hl=>?_⟩;have s:(b.map λj:_c=>(j:_j)).map V.int=nV b:=by rw[bb];rfl
 rw[s];refine⟨l,b,U,Ah,rx v (rx B (by decide)),λj h=>by have:=d j h;exact bq this (rx B (by decide)),λu p=>?_⟩;refine q (Wd.mk b) u ((A.trans<|A_ hl).trans p) λj=>?_;rw[Wd.Ii,_H];exact o j
theorem KD{K:_q}(h:X.K=K):HW X (compareOp .NotIn)<|rIn K true:=h ▸ RK
theorem K9(l:_a _c):(nV l).all GP=true:=gi.mpr λv a=>by
 obtain⟨n,_,rfl⟩:=ay.mp a;rfl
theorem Rj(j:_c)(a:_a _c):inV (.int (j:_c)) (nV a)=decide (j∈a):=by
 rw[fh,_H];unfold inV;rw[fq];constructor
 .rintro⟨y,d,e⟩;obtain⟨n,b,rfl⟩:=ay.mp d;have c:(((n:_c):_j) == ((j:_c):_j))=true:=e;have f:((n:_c):_j)=(j:_c):=eq_of_beq c;have:n=j:=by lia
  subst this;exact b
 .intro h;exact⟨_,vv h,by show (((j:_c):_j) == ((j:_c):_j))=_g;exact HV _⟩
theorem scOm:Am eH eH<|Ae sOm:=Bc
include N T in
theorem zE:BP P w K mg base BV 2 aD.Om eH<|UG C:=by
 refine N.FOm.1.DY scOm λH R Q E c h=>?_;obtain⟨x,bs,j,k,f,l,wd,g,b,rfl,O,n,a,q⟩:=h;refine⟨_,Af<|Aq<|Fd (pv 0) T.cl N.FBk (Xf N T) c<|Aa (pv 1) Ab,?_⟩;obtain⟨⟨m,fs,A,F,t,G,W,V,o,i,d,v,M,u,I,e,D,X,p,B,r,s,S,z⟩,J,y,L⟩:=id O;exact⟨m,fs,d,e _<|by decide,x,bs,j,k,f,l,wd,g,b,U,O,n,a,q⟩
inductive ul(C:_d)(vs:_a V)(H:Hp)(Q:VK)(d0:XK):Prop
|mk(x:_d)(bs:_a (_m×_c))(rk:_a (_m×_c×_j))(ks:_a R)(ls:_a (_a Ln:_))(k j1:_c)(b1:_m×_c)(wd nm:_m)(rs:_a V)(l:_a Ln)(_:vs=[.ref x,.int (k:_c)])(_:FP C H x bs rk ks ls)(_:ks[k]? = _b ⟨wd,nm,.str b1.1::rs⟩)(_:bs[j1]? = _b b1)(_:ls[k]? = _b l)(_:∀(T0 L0:_d) (ts:_a V) H',H L0=_o->Aj H H'->H' T0=_b (.tup [.int (j1:_c),.ref L0])->H' L0=_b (.lst ts)->Paired (λx y=>TupAt H' (gZ x) y) l ts->Q (.ref T0) H')
theorem scOs:Am eH eH<|Ae sOs:=Bc
include N T in
theorem AAf:BP P w K mg base BV 2 aD.Os eH<|ul C:=by
 refine N.FOs.1.DY scOs λH vs Q E F h=>?_;obtain⟨x,bs,rk,u,ls,k,g,V,wd,p,D,l,rfl,O,Z,b,hl,q⟩:=h;refine⟨_,Af<|Aq<|CQ<|Aa (Fd (pv 0) T.cl N.FBk (Xf N T) F<|Aa (pv 1) Ab)<|Aa (Ci Ec U T.list fe<|Aa (B_ K (BX (pv 0) U)<|pv 1) Ab) Ab,?_⟩;obtain⟨⟨Y,fs,bl,bn,kp,kr,f',qf,rf,L,e,l1,l2,l3,l4,m,h2,h3,h4,h5,h6,h7,h8,h9⟩,we,ui,vF⟩:=id O.o;obtain⟨J,n,rl,rn,pp,kl,i8,CH,i6,f,m1,m2,m3,r,g2,g3,g4,g5,g6,g7,t,W,v⟩:=id O.r;obtain⟨z,M⟩:J=Y/\n=fs:=by rw[e] at f;cases f;exact⟨U,U⟩
 subst z M;obtain⟨y,R,A,c,rfl,s,X⟩:=Br v hl;refine⟨_,_,e,m _<|by decide,x,bs,u,k,g,V,wd,p,D,U,O.o,Z,b,?_⟩;refine⟨C,_,_,_,e,T.cl,T.n_knob_lines,r,t,_,oP W,Av R,A,c,U,oP<|.inl s,λj a=>?_⟩;obtain⟨H1,G,i,B⟩:=Dr (o:=HO.lst c) a;rw[G];refine⟨by show 2<=sizeLine;decide,λI S=>?_⟩;have d:=A_ (o:=HO.tup [.int (g:_c),.ref j]) S;exact q I j c _ a (i.trans d) Ah (d _ _ B)<|Ar (i.trans d) X
inductive uQ(C:_d)(vs:_a V)(H:Hp)(Q:VK)(d0:XK):Prop
|mk(x:_d)(bs:_a (_m×_c))(rk:_a (_m×_c×_j))(ks:_a R)(ls:_a (_a Ln:_))(_:vs=[.ref x])(_:FP C H x bs rk ks ls)(_:∀D i8 H',H D=_o->Aj H H'->H' D=_b (.lst i8)->Paired (λ(a:Th) y=>TupAt H' (tV a) y) (rk.map Z7) i8->Q (.ref D) H')
theorem scOr:Am dv dv<|Ae sOr:=Bc
include N T in
theorem yC:BP P w K mg base BV 1 aD.Or dv<|uQ C:=by
 refine N.FOr.1.DY scOr λH vs Q E r h=>?_;obtain⟨x,bs,rk,ks,z,rfl,O,q⟩:=h;refine⟨_,Af<|Aq<|Ci Ec U T.list fe<|Aa (BX (pv 0) U) Ab,?_⟩;obtain⟨⟨o,fs,L,W,y,Y,f',qf,p,i,a,D,l2,A,l4,v,V,h3,s,R,t,u,h8,J⟩,we,G,vF⟩:=id O.o;obtain⟨g,e,n,Z,M,F,c,CH,I,b,f,m2,m3,S,k,d,X,g5,g6,B,lv,g8,g9⟩:=id O.r;obtain⟨m,j⟩:g=o/\e=fs:=by rw[a] at b;cases b;exact⟨U,U⟩
 subst m j;exact⟨C,_,_,_,a,T.cl,T.n_rank_list,f,n,c,U,oP<|.inl k,λl hl=>q l c _ hl (A_ hl) Ah<|Ar (A_ hl) d⟩
inductive sH(C:_d)(vs:_a V)(H:Hp)(Q:VK)(d0:XK):Prop
|mk(x:_d)(bs:_a (_m×_c))(rk:_a (_m×_c×_j))(ks:_a R)(ls:_a (_a Ln:_))(_:vs=[.ref x])(_:FP C H x bs rk ks ls)(_:Q (.int ((Eb (rk.map Rz)).length:_c)) H)
theorem scOq:Am dv dv<|Ae sOq:=Bc
include N T in
theorem yL:BP P w K mg base BV 1 aD.Oq dv<|sH C:=by
 refine N.FOq.1.DY scOq λH vs Q E p h=>?_;obtain⟨x,bs,rk,Z,A,rfl,O,q⟩:=h;refine⟨_,Af<|Aq<|Ay BL U T.len bt<|Aa (BX (pv 0) U) Ab,?_⟩;obtain⟨⟨m,fs,J,S,y,X,f',qf,o,g,a,D,l2,z,l4,u,R,h3,r,L,s,t,h8,I⟩,we,G,vF⟩:=id O.o;obtain⟨f,d,rl,Y,e,B,i8,l,F,b,V,m2,n,M,g2,v,W,g5,j,c,lv,g8,g9⟩:=id O.r;obtain⟨k,i⟩:f=m/\d=fs:=by rw[a] at b;cases b;exact⟨U,U⟩
 subst k i;refine⟨C,_,_,_,a,T.cl,T.n_pipe_places,n,e,l,U,oP<|.inl j,?_⟩;rw[<-c.length];exact q
inductive qm(C:_d)(vs:_a V)(H:Hp)(Q:VK)(d0:XK):Prop
|mk(x:_d)(bs:_a (_m×_c))(rk:_a (_m×_c×_j))(ks:_a R)(ls:_a (_a Ln:_))(j:_c)(r:_m×_c×_j)(n:_j)(_:vs=[.ref x,.str r.1,.int n])(_:FP C H x bs rk ks ls)(_:rk[j]? = _b r)(_:∀H',Aj H H'->Q (.int ((((rk.take j).map (λr=>r.2.1)).sum:_c)+n)) H')
theorem scOe:Am nK nK<|Ae sOe:=Bc
include N T in
theorem yh:BP P w K mg base BV 2 aD.Oe nK<|qm C:=by
 refine N.FOe.1.DY scOe λH vs Q E s h=>?_;obtain⟨x,bs,rk,ks,ls,j,r,n,rfl,O,t,q⟩:=h;have W:=By s;refine⟨_,Af<|Aq<|BK Bu (BJ N.FCa (m9 N T) s<|Aa (FN Lk (BX (pv 0) U) Gk<|Fi<|DK W (BX (pv 0) U) (pv 1)<|λ_ _=>rfl) Ab)<|pv 2,?_⟩;obtain⟨⟨X,fs,bl,bn,kp,kr,f',qf,Y,M,d,l1,l2,l3,l4,lm,h2,h3,Z,h5,h6,h7,h8,h9⟩,we,ui,vF⟩:=id O.o;obtain⟨L,v,D,rn,pp,kl,b,CH,i6,p,J,B,m3,m4,V,m,z,F,g6,g7,lv,g8,g9⟩:=id O.r;obtain⟨A,S⟩:L=X/\v=fs:=by rw[d] at p;cases p;exact⟨U,U⟩
 subst A S;have hj:j<rk.length:=(ag.mp t).1;have hl:=m.length;rw[ah] at hl;have g:=Dm.k (k:=Key.inr r.1) z;rw[F j r t] at g;refine⟨C,_,_,_,d,T.cl,T.n_rank_list,J,C,_,_,_,d,T.cl,T.n_rank_numbers,B,_,g,D,b,U,oP V,λc f=>?_⟩;have l:=A_ (o:=HO.lst<|FQ b _o<|some (j:_j)) f;have i:upd H c (HO.lst<|FQ b _o<|some (j:_j)) c=_:=Ah;generalize upd H c (HO.lst (FQ b _o (_b (j:_j))))=H6 at l i |-;rw[Lf b j (fR (wT hj hl))] at i;refine⟨c,(rk.map Z7).take j,b.take j,U,i,M9 (Ar l m) j,(by rw[cm,ah];have:=O.nr;lia),(λa G=>by obtain⟨u,e,rfl⟩:=ay.mp<|gg G;exact cq (O.nz u e)<|by decide),λR I=>?_⟩;have y:(((rk.map Z7).take j).map λa=>a.2.1)=(rk.take j).map (λr=>r.2.1):=by
  rw[<-gE,bb];rfl
 rw[y];exact q R<|l.trans I
def Vx(l:_a _c):Nat:=l.foldl (· ||| ·) 0
theorem SJ(l:_a _c)(n:_c):Vx (l++[n])=Vx l ||| n:=by
 unfold Vx;rw[kQ];rfl
theorem Rn:∀(l:_a _c)(i:_c),(Vx l).testBit i=_g ↔ ∃n∈l,n.testBit i=true:=by
 have f:∀(k:_c)(l:_a _c)(i:_c),l.length=k->((Vx l).testBit i=_g ↔ ∃n∈l,n.testBit i=_g):=by
  intro k
  induction k with
  |zero =>
   intro l i h
   cases l with
   |nil=>exact⟨λz=>_z z (by unfold Vx;rw[List.foldl_nil,Ė];decide),λ⟨n,d,_⟩=>nomatch d⟩
   |cons a b=>cases h
  |succ k g =>
   intro l i h;obtain⟨a,z,rfl⟩:=CJ (l:=l)<|by intro e;rw[e] at h;cases h
   rw[am,ax] at h;rw[SJ,Zg,g a i<|Fr (YN (Ĝ h)) (YN (Ĝ h.symm))];constructor
   .rintro (⟨n,d,c⟩ | c)
    .exact⟨n,bE _ d,c⟩
    .exact⟨z,by simp,c⟩
   .rintro⟨n,d,c⟩;rcases aT.mp d with h | h
    .exact .inl ⟨n,h,c⟩
    .rw[av.mp h] at c;exact .inr c
 exact λl i=>f l.length l i U
inductive c7(vs:_a V)(H:Hp)(Q:VK)(d0:XK):Prop
|mk(p:_d)(l:_a _c)(_:vs=[.ref p])(_:H p=_b (.lst (nV l)))(_:l.length<=500)(_:Q (.int (Vx l:_c)) H)
theorem jy:Am ["sets","some","each"] ["sets"] (Ae sUn):=Bc
include N T in
theorem fY:BP P w K mg base BV 1 aD.Un ["sets"] c7:=by
 refine N.FUn.1.DY jy λH m Q E k h=>?_;obtain⟨p,l,rfl,j,o,q⟩:=h;refine⟨_,(Ac (BZ (i:=1) jy.nd U (Or.inl U) Al)
  (Ac (DQ _M U (Bl<|pv 0) (Bh (i:=2) jy.nd U<|Or.inl U)<|Af<|BZ (i:=1) jy.nd U (Or.inl U)<|BK QM (pv 1)<|pv 2)
  (Af<|Aq<|pv 1))),?_⟩
 have d:Dd K H p<|nV l:=.inl<|.inl j
 refine⟨⟨_,d⟩,Gb (K:=K) (a:=p) (xs:=nV l) (λi σ b=>b=H/\∃c,σ=[_b (.ref p),_b<|.int (Vx (l.take i):_c),c]) ⟨U,_,U⟩ (λi σ b _ h=>by rw[h.1];exact d) ?_ ?_⟩
 .rintro i y σ b e ⟨rfl,c,rfl⟩;rw[ar] at e;obtain⟨n,g,rfl⟩:=aI.mp e;refine⟨U,_b<|.int (n:_j),?_⟩;try dsimp only
  rw[Jo,dL,g];show _=[_b (V.ref p),_b<|V.int ((Vx (l.take i++[n]):_c):_j),_];rw[SJ];rfl
 .rintro σ b ⟨rfl,c,rfl⟩;have f:l.take (nV l).length=l:=ë<|by simp
  rw[f];exact q
noncomputable def JC(kbs:_a Kb)(k:_c):Nat:=match kbs[k]? with
 |some (.pl _ b)=>b
 |some (.cp b _ _)=>b
 |none=>0
theorem Xa{c:_c->_m}{k:_c}(h:(Bw c kbs)[k]? = _b r):∃rs,r=⟨r.w,r.nm,.str (c<|JC kbs k)::rs⟩:=by
 obtain⟨z,a,rfl⟩:=HY h;unfold JC;rw[a]
 cases z with
 |cp i j s=>exact⟨_,U⟩
 |pl w i=>exact⟨_,U⟩
theorem fO{k:_c}{z:Kb}(h:Tg n kbs)(a:kbs[k]? = _b z):JC kbs k<n:=by
 have b:=h.ok z<|ai a
 unfold JC;rw[a]
 cases z with
 |cp i j s=>exact b.1
 |pl w i=>exact b.1
inductive Xu(kbs:_a Kb)(D b:_c):Prop
|mk(k:_c)(z:Kb)(_:kbs[k]? = _b z)(_:z.w = "mute")(_:D.testBit k=_g)(_:JC kbs k=b)
inductive tQ(C:_d)(vs:_a V)(H:Hp)(Q:VK)(d0:XK):Prop
|mk(x:_d)(c:_c->_m)(sz:_a _c)(kbs:_a Kb)(D:_c)(_:vs=[.ref x,.int (D:_c)])(_:Dv C H x (Az c sz) (Bw c kbs))(_:Tg sz.length kbs)(_:∀L (ml:_a _c) H',H L=_o->Aj H H'->H' L=_b (.lst (nV ml))->(∀b,b∈ml ↔ Xu kbs D b)->ml.length<=200->Q (.ref L) H')
theorem scMu:Am ol ol<|Ae sMu:=Bc
include N T in
theorem wV:BP P w K mg base BV 3 aD.Mu ol<|tQ C:=by
 refine N.FMu.1.DY scMu λH vs Q E d h=>?_;obtain⟨x,c,sz,a,D,rfl,O,L,q⟩:=h;refine⟨_,Af<|Aq<|Bp U (Bb (osc:=Ae sMu) (N:=ol) U U<|by decide) (Bl<|BJ N.FDc (aC N T) d<|Aa (pv 0)<|Aa (pv 1)<|Aa Aw Ab) (λ_ _ _ _=>Cj)<|λ_ _ _ _=>(Fd (pv 1) T.cl N.FOm (zE N T) d<|Aa (pv 0) Ab),?_⟩;refine⟨x,Az c sz,Bw c a,"mute",D,U,O,λY s H1 OS A u f BM=>?_⟩;have n:Dd K H1 Y<|nV s:=.inl<|.inl u
 have B:=O.mono A;let g:V->V:=λv=>match v with | .int k=>.int (JC a k.toNat:_c) | _=>.non
 refine⟨⟨_,n⟩,Ed (K:=K) (xs:=nV s) (λ_=>_g) g n (Ax<|by rw[ah];exact rx BM (by decide)) (λy F l t R k=>k l<|Aj.refl l) (λy F _ l t R k=>?_)<|λD2 W vT I j=>?_⟩
 .obtain⟨i,hi,rfl⟩:=ay.mp F;obtain⟨r,d,o,p⟩:=(f i).mp hi;obtain⟨G,er⟩:=Xa d;rw[er] at d;obtain⟨z,m,_⟩:=HY d;have S:=fO L m;obtain⟨⟨dx,fs,bl,bn,kp,kr,f',qf,rf,X,J,l1,l2,l3,l4,M,_⟩,_⟩:=id<|B.mono t;have Z:=k l<|Aj.refl l
  refine⟨dx,fs,J,M _<|by decide,x,Az c sz,Bw c a,i,JC a i,(c<|JC a i,sz[JC a i]),_,_,G,U,B.mono t,d,Ej<|af S,Z⟩
 .rw[cw.mpr (λ_ _=>rfl)] at j;have e:(nV s).map g=nV (s.map<|JC a):=by
   unfold nV;rw[bb,bb];rfl
  rw[e] at j;refine q D2 _ W (A.free vT) (A.trans I) j (λb=>?_)<|by rw[ah];exact BM
  rw[ay];constructor
  .rintro⟨k,hk,rfl⟩;obtain⟨r,d,o,p⟩:=(f k).mp hk;obtain⟨z,m,rfl⟩:=HY d;exact⟨k,z,m,(IK _ _ _).symm.trans o,p,U⟩
  .rintro⟨k,z,m,o,p,rfl⟩;exact⟨k,(f k).mpr ⟨_,Ek m,(IK _ _ _).trans o,p⟩,U⟩
inductive vQ(sz:_a _c)(i b:_c):Prop
|mk(n:_)(_:n<sz.getD b 0)(_:b<sz.length)(_:i=(sz.take b).sum+n)
theorem Ri{c:_c->_m}{sz:_a _c}{a:_c}(h:(Eb<|Az c sz)[i]? = _b (a,n)):vQ sz i a:=by
 obtain⟨b,g,f,e⟩:=Nq h;obtain⟨z,d,rfl⟩:=Yt g;rw[Cr] at e;refine⟨n,?_,(ag.mp d).1,e⟩;rw[aS,d];exact f
theorem Ti{sz:_a _c}{a b:_c}(f:vQ sz i a)(l:vQ sz i b):a=b:=by
 obtain⟨n,d,g,rfl⟩:=f;obtain⟨m,o,j,e⟩:=l;have c:∀{a b n m:_c},a<b->b<sz.length->n<sz.getD a 0->(sz.take a).sum+n≠(sz.take b).sum+m:=λ{a b n m} p j d e=>by
  have f:(sz.take<|a+1).sum<=(sz.take b).sum:=RQ sz<|p
  have g:a<sz.length:=lh p j
  rw[dL,af g,ge] at f;rw[aS,af g] at d;have k:n<sz[a]:=d;simp at f;lia
 rcases Nat.lt_trichotomy a b with h | h | h
 .exact _z e<|c h j d
 .exact h
 .exact _z e.symm<|c h g o
inductive sI(C:_d)(vs:_a V)(H:Hp)(Q:VK)(d0:XK):Prop
|mk(x:_d)(c:_c->_m)(sz:_a _c)(kbs:_a Kb)(D n:_c)(_:vs=[.ref x,.int (D:_c),.int (n:_c)])(_:Dv C H x (Az c sz) (Bw c kbs))(_:Tg sz.length kbs)(_:n<2 ^ 1200)(_:∀i,n.testBit i=_g->i<sz.sum)(_:sz.sum<=305)(_:∀(m:_c) H',Aj H H'->(∀j,m.testBit j=_g ↔ n.testBit j=_g/\∀b,vQ sz j b->¬ Xu kbs D b)->Q (.int (m:_c)) H')
theorem yj:Am ["organ","knobs","keys","muted"] fy (Ae sUk):=Bc
include N T in
theorem yR:BP P w K mg base BV 4 aD.Uk fy<|sI C:=by
 refine N.FUk.1.DY yj λH vs Q E F h=>?_;obtain⟨x,c,sz,u,D,n,rfl,O,re,hn,I,o0,q⟩:=h;refine⟨_,(Ac (BZ (i:=3) yj.nd U (Or.inr U)<|BJ N.FMu (wV N T) F<|Aa (pv 0)<|Aa (pv 1) Ab)
  (Af<|Aq<|BJ N.FSt (Qf N T) F<|Aa (Bp U (Bb (osc:=Ae sUk) (N:=["organ","knobs","keys","muted"]) U U<|by decide) (Bl<|BJ N.FMe (Tn N T) F<|Aa (pv 2) Ab) (λ_ _ _ _=>(G7<|Jl (KD (K:=K) U) (An K<|Fd (pv 1) T.cl N.FOo (dq N T) F<|Aa (pv 0) Ab) (pv 4) U))<|λ_ _ _ _=>(pv 0)) Ab)),?_⟩
 refine⟨x,c,sz,u,D,U,O,re,λML f H1 EA s1 X Qr Z=>?_⟩;refine⟨n,U,hn,λP1 H2 EM G W=>?_⟩;have r:Dd K H2 P1<|nV<|Wd.mem n:=.inl<|.inl W
 have Y:=O.mono<|s1.trans G
 have ab:=Wd.Pg hn;have ac:(Wd.mem n).length<=305:=by
  have nd:(Wd.mem n).Nodup:=by unfold Wd.mem;exact ň _ zC
  refine cq (Ef sz.sum nd λi g=>I i<|Wd.mem_iff.mp g) o0
 have e:∀{i},i∈Wd.mem n->∃a m,(Eb<|Az c sz)[i]? = _b (a,m):=λ{i} g=>by
  have L:i<(Eb<|Az c sz).length:=by rw[Eg,Cr];exact I i<|Wd.mem_iff.mp g
  exact⟨_,_,af L⟩
 let p:V->Bool:=λv=>match v with | .int i=>(match (Eb<|Az c sz)[i.toNat]? with | some (a,_)=>!decide (a∈f) | none=>_g) | _=>_g
 refine⟨⟨_,r⟩,Ed (K:=K) (xs:=nV<|Wd.mem n) p id r (Ax<|by rw[ah];exact rx ac (by decide)) (λy hy o B R k=>?_) (λy hy _ o B R k=>k o<|Aj.refl o)<|λD3 H3 DF s3 M=>?_⟩
 .obtain⟨i,g,rfl⟩:=ay.mp hy;obtain⟨a,m,d⟩:=e g;have s:p (V.int (i:_c)) = !decide (a∈f):=by
   show (match (Eb<|Az c sz)[((i:_c):_j).toNat]? with | some (a,_)=>!decide (a∈f) | none=>_g)=_;rw[bp,d]
  have kk:=k o<|Aj.refl o
  rw[s] at kk;obtain⟨⟨dx,fs,bl,bn,kp,kr,f',qf,rf,an,l,l1,l2,l3,l4,lm,_⟩,_⟩:=id<|Y.mono B;refine⟨dx,fs,l,lm _<|by decide,x,Az c sz,Bw c u,i,(a,m),U,Y.mono B,d,λyv J=>?_⟩;obtain⟨T0,rfl,hT⟩:=J;refine⟨_,_,oP hT,U,_,.inl<|oP<|B _ _<|G _ _ X,U,K9 f,?_⟩;have S:inV (V.int (a:_c)) (nV f)=decide (a∈f):=Rj a f;rw[S];exact kk
 .rw[nt] at M;have e3:(nV<|Wd.mem n).filter p=nV ((Wd.mem n).filter λi=>p<|.int (i:_c)):=by
   unfold nV;rw[fg];rfl
  rw[e3] at M;have A:∀i∈(Wd.mem n).filter (λi=>p<|.int (i:_c)),i<sz.sum:=λi g=>I i<|Wd.mem_iff.mp (be.mp g).1
  refine⟨D3,_,U,M,cq (cr _ _)<|rx ac (by decide),λi g=>by have:=A i g;exact bq this (rx o0 (by decide)),λH4 s4=>?_⟩;refine q _ H4 (s1.trans<|G.trans<|s3.trans s4) λj=>?_;rw[Wd.Ii,_H,be,Wd.mem_iff];constructor
  .rintro⟨l,t⟩;refine⟨l,λb hb hm=>?_⟩;obtain⟨a,m,d⟩:=e<|Wd.mem_iff.mpr l;have s:p (V.int (j:_c)) = !decide (a∈f):=by
    show (match (Eb<|Az c sz)[((j:_c):_j).toNat]? with | some (a,_)=>!decide (a∈f) | none=>_g)=_;rw[bp,d]
   rw[s] at t;have XO:=Ti hb<|Ri d
   subst XO;rw[_i ((Qr b).mpr hm)] at t
   cases t
  .rintro⟨l,t⟩;refine⟨l,?_⟩;obtain⟨a,m,d⟩:=e<|Wd.mem_iff.mpr l;have s:p (V.int (j:_c)) = !decide (a∈f):=by
    show (match (Eb<|Az c sz)[((j:_c):_j).toNat]? with | some (a,_)=>!decide (a∈f) | none=>_g)=_;rw[bp,d]
   rw[s,_t λz=>t a (Ri d)<|(Qr a).mp z];rfl
def V8(c:_c->_m)(sz:_a _c)(kbs:_a Kb)(D n j:_c):Prop:=Lh (stp (Az c sz) kbs D) (λi=>n.testBit i=_g) j \/ (n.testBit j=_g/\∀b,vQ sz j b->¬ Xu kbs D b)
inductive tL(C:_d)(vs:_a V)(H:Hp)(Q:VK)(d0:XK):Prop
|mk(x:_d)(c:_c->_m)(sz:_a _c)(kbs:_a Kb)(D n:_c)(_:vs=[.ref x,.int (D:_c),.int (n:_c)])(_:Dv C H x (Az c sz) (Bw c kbs))(_:Tg sz.length kbs)(_:n<2 ^ 1200)(_:∀i,n.testBit i=_g->i<sz.sum)(_:∀(m:_c) H',Aj H H'->(∀j,m.testBit j=_g ↔ V8 c sz kbs D n j)->Q (.int (m:_c)) H')
theorem scSk:Am eh eh<|Ae sSk:=Bc
include N T in
theorem zO:BP P w K mg base BV 6 aD.Sk eh<|tL C:=by
 refine N.FSk.1.DY scSk λH t Q E d h=>?_;obtain⟨x,c,sz,b,D,n,rfl,O,i,f,e,q⟩:=h;refine⟨_,Af<|Aq<|BK QM (BJ N.FCq (xm N T) d<|Aa (pv 0)<|Aa (pv 1)<|Aa (pv 2) Ab)<|BJ N.FUk (yR N T) d<|Aa (pv 0)<|Aa (pv 1)<|Aa (BJ N.FHk (nq N T) d<|Aa (pv 0)<|Aa (pv 2) Ab) Ab,?_⟩;have a:((Az c sz).map (·.2)).sum=sz.sum:=by rw[Cr]
 have l:=Ft O;rw[a] at l;refine⟨x,c,sz,b,D,n,U,O,i,f,e,λo u g s=>?_⟩;refine⟨x,Az c sz,Bw c b,n,U,O.mono g,f,?_⟩;rw[a,Xj e];refine⟨x,c,sz,b,D,n,U,O.mono g,i,f,e,l,λk m p r=>?_⟩;show Q (.int<|Ć (o:_j) (k:_j)) m;rw[Jo];refine q (o ||| k) m (g.trans p) λj=>?_;rw[Zg,s,r];rfl
noncomputable def jX(sz:_a _c)(b n:_c):Nat:=Wd.mv n (-((sz.take b).sum:_j))<|sz.getD b 0
theorem eN(n:_c)(k:_j)(c:_c):Wd.mv n k c<2 ^ c:=by
 unfold Wd.mv;exact Nat.mod_lt _<|Nat.two_pow_pos _
inductive tG(C:_d)(vs:_a V)(H:Hp)(Q:VK)(d0:XK):Prop
|mk(x:_d)(c:_c->_m)(sz:_a _c)(ks:_a R)(b n:_c)(_:vs=[.ref x,.int (b:_c),.int (n:_c)])(_:Dv C H x (Az c sz) ks)(_:b<sz.length)(_:n<2 ^ 1200)(_:∀H',Aj H H'->Q (.int (jX sz b n:_c)) H')
theorem zT:Am ["organ","board","keys","told"] pN (Ae sNb):=Bc
include N T in
theorem vd:BP P w K mg base BV 3 aD.Nb pN<|tG C:=by
 refine N.FNb.1.DY zT λH Z Q E g h=>?_;obtain⟨x,c,sz,r,b,n,rfl,O,u,L,q⟩:=h;refine⟨_,(Ac (BZ (i:=3) zT.nd U (Or.inl U)<|B_ K (Dp (pv 0) T.cl N.FOb (Wl N T) g)<|pv 1)
  (Af<|Aq<|BJ N.FSh (aO N T) g<|Aa (pv 2)<|Aa (Km O8<|Fd (pv 0) T.cl N.FOk (bz N T) g<|Aa (An K<|pv 3)<|Aa Al Ab)<|Aa (An K<|pv 3) Ab)),?_⟩
 have S:=Ft O;rw[Cr] at S;have I:(sz.take b).sum<=sz.sum:=by
  have:=congrArg sg<|eW b sz
  rw[ge] at this;lia
 have e:(Az c sz)[b]? = _b (c b,sz[b]):=Ej<|af u
 have s:=O.sz (c b,sz[b])<|ai e
 have A:sz[b]<=61:=s;have a:(((Az c sz).take b).map (·.2)).sum=(sz.take b).sum:=by rw[gE,Cr]
 have o:sz.getD b 0=sz[b]:=by rw[aS,af u];rfl
 have d:∀{v:Hp},Dv C v x (Az c sz) r->∃f fs,v x=_b (.ins C f fs)/\∀m∈meths,fs.lookup m=none:=λX=>by
  obtain⟨⟨f,fs,_,_,_,_,_,_,_,_,B,_,_,_,_,l,_⟩,_⟩:=X;exact⟨f,fs,B,l⟩
 obtain⟨f,fs,F,l⟩:=d O;refine⟨f,fs,F,l _<|by decide,x,Az c sz,r,U,O,λD V Y hD j p t=>?_⟩;obtain⟨v3,M,T3,rfl,y⟩:=Br t e;refine⟨V,_,oP p,Av M,?_⟩;obtain⟨W,k,R,G⟩:=d<|O.mono j;refine⟨W,k,R,G _<|by decide,_,_,oP y,U,x,Az c sz,r,b,(c b,sz[b]),0,U,O.mono j,e,λJ z=>?_⟩;refine⟨_,_,oP<|z _ _ y,U,n,_,sz[b],U,L,?_,?_,rx A (by decide),?_⟩
 .rw[a];lia
 .rw[a];lia
 .have fin:=q J<|j.trans z
  unfold jX at fin;rw[o] at fin;rw[a,Iy];exact fin
noncomputable def Ze(rk:_a<|_m×_c×_j)(r:_c):Nat:=((rk.take r).map<|λr=>r.2.1).sum
def N8(rk:_a<|_m×_c×_j)(r:_c):Nat:=(rk.map<|λr=>r.2.1).getD r 0
def gD(rk:_a<|_m×_c×_j):Nat:=(rk.map<|λr=>r.2.1).sum
structure qM(rk:_a<|_m×_c×_j)(l:Ln):Prop where
 r:l.r<rk.length
 lo:0<=l.lo
 le:l.lo<=l.hi
 hi:l.hi<=60
 s1 : -200<=l.sh
 s2:l.sh<=200
noncomputable def S_(rk:_a<|_m×_c×_j)(l:Ln)(n:_c):Nat:=Wd.mv (Wd.mv (Wd.mv n (-l.lo) (l.hi - l.lo+1).toNat) (l.lo+l.sh)<|N8 rk l.r) (Ze rk l.r:_c)<|gD rk
theorem WD{rk:_a (_m×_c×_j)}{r:_c}(h:r<rk.length):Ze rk r+N8 rk r<=gD rk:=by
 unfold Ze N8 gD;have e:((rk.map<|λr=>r.2.1).take<|r+1).sum=((rk.take r).map<|λr=>r.2.1).sum+(rk.map<|λr=>r.2.1).getD r 0:=by
  rw[dL,af<|by rw[ah];exact h,ge,gE,aS,af<|by rw[ah];exact h];simp
 have:=congrArg sg<|eW (r+1)<|rk.map<|λr=>r.2.1
 rw[ge] at this;lia
theorem ue{rk:_a (_m×_c×_j)}(a:rk.length<=12)(d:∀r∈rk,r.2.1<=97):gD rk<=1164:=by
 have h:=Lg (rk.map Rz) 97 λb f=>by
  obtain⟨r,c,rfl⟩:=ay.mp f;exact d r c
 rw[Eg,bb,ah] at h;have:rk.length * 97<=12 * 97:=im _ a;have e:gD rk=(rk.map ((·.2) ∘ Rz)).sum:=rfl;lia
inductive o6(C:_d)(vs:_a V)(H:Hp)(Q:VK)(d0:XK):Prop
|mk(x:_d)(bs:_a (_m×_c))(rk:_a (_m×_c×_j))(ks:_a R)(ls:_a (_a Ln:_))(y:V)(l:Ln)(n:_c)(_:vs=[.ref x,y,.int (n:_c)])(_:FP C H x bs rk ks ls)(_:TupAt H (gZ l) y)(_:qM rk l)(_:n<2 ^ 1200)(_:∀H',Aj H H'->Q (.int (S_ rk l n:_c)) H')
theorem ji:Am ["organ","line","numbers","rank","from_low","on_rank"] o4 (Ae sLl):=Bc
include N T in
theorem vq:BP P w K mg base BV 3 aD.Ll o4<|o6 C:=by
 refine N.FLl.1.DY ji λH vs Q E d h=>?_;obtain⟨x,bs,rk,p,o,y,l,n,rfl,O,hy,b,hn,q⟩:=h;refine⟨_,(Ac (BZ (i:=3) ji.nd U (Or.inl U)<|B_ K (Dp (pv 0) T.cl N.FOr (yC N T) d)<|An K<|pv 1)
  (Ac (BZ (i:=4) ji.nd U (Or.inl U)<|BJ N.FSh (aO N T) d<|Aa (pv 2)<|Aa (Km O8<|An K<|pv 1)<|Aa (BK Bu (BK GZ (An K<|pv 1)<|An K<|pv 1) Al) Ab)
  (Ac (BZ (i:=5) ji.nd U (Or.inl U)<|BJ N.FSh (aO N T) d<|Aa (pv 4)<|Aa (BK Bu (An K<|pv 1)<|An K<|pv 1)<|Aa (An K<|pv 3) Ab)
  (Af<|Aq<|BJ N.FSh (aO N T) d<|Aa (pv 5)<|Aa (Fd (pv 0) T.cl N.FOe (yh N T) d<|Aa (An K<|pv 3)<|Aa Al Ab)<|Aa (Dp (pv 0) T.cl N.FOq (yL N T) d) Ab)))),?_⟩
 obtain⟨T0,rfl,hT⟩:=hy;have Y:=ue O.nr O.nz;have j:l.r<rk.length:=b.r;have ac:=WD j;have G:=af j;have ab:rk[l.r].2.1<=97:=O.nz _<|eJ b.r
 have t:N8 rk l.r=rk[l.r].2.1:=by
  unfold N8;rw[aS,ar,G];rfl
 have f:(Eb<|rk.map Rz).length=gD rk:=by
  rw[Eg,bb];rfl
 have V:=b.lo;have h2:=b.le;have h3:=b.hi;have h4:=b.s1;have h5:=b.s2;have a:∀{S:Hp},FP C S x bs rk p o->∃g fs,S x=_b (.ins C g fs)/\∀m∈meths,fs.lookup m=none:=λO'=>by
  obtain⟨⟨g,fs,_,_,_,_,_,_,_,_,V,_,_,_,_,F,_⟩,_⟩:=O'.o;exact⟨g,fs,V,F⟩
 obtain⟨g,fs,hx,F⟩:=a O;refine⟨g,fs,hx,F _<|by decide,x,bs,rk,p,o,U,O,λD i8 H2 hD c B I=>?_⟩;have e:=c _ _ hT;have k:(rk.map Z7)[l.r]? = _b (Z7 rk[l.r]):=by rw[ar,G];rfl
 obtain⟨v3,FK,T3,rfl,W⟩:=Br I k;refine⟨_,_,oP e,U,i8,_,oP B,Av FK,?_⟩;have e1:l.hi - l.lo+1=(((l.hi - l.lo+1).toNat:_c):_j):=by lia
 refine⟨_,_,oP e,U,_,_,oP e,U,_,_,oP e,U,n,-l.lo,(l.hi - l.lo+1).toNat,by rw[<-e1] <;> rfl,hn,by lia,by lia,by lia,?_⟩;have R:=eN n (-l.lo) (l.hi - l.lo+1).toNat;generalize J:Wd.mv n (-l.lo) (l.hi - l.lo+1).toNat=s at R |-;have A:s<2 ^ 1200:=bq R<|ko (by decide)<|by lia
 refine⟨_,_,oP e,U,_,_,oP e,U,_,_,oP W,U,s,l.lo+l.sh,rk[l.r].2.1,U,A,by lia,by lia,rx ab (by decide),?_⟩;have M:=eN s (l.lo+l.sh) rk[l.r].2.1;generalize L:Wd.mv s (l.lo+l.sh) rk[l.r].2.1=X at M |-;have u:X<2 ^ 1200:=bq M<|ko (by decide)<|rx ab (by decide)
 obtain⟨Fu,z,tJ,Fa⟩:=a<|O.mono c;refine⟨Fu,z,tJ,Fa _<|by decide,_,_,oP W,U,x,bs,rk,p,o,l.r,rk[l.r],0,U,O.mono c,G,λH3 v=>?_⟩;obtain⟨WC,LJ,BI,Z⟩:=a<|(O.mono c).mono v;refine⟨WC,LJ,BI,Z _<|by decide,x,bs,rk,p,o,U,(O.mono c).mono v,X,_,(Eb<|rk.map Rz).length,U,u,?_,?_,?_,?_⟩
 .lia
 .have:((rk.take l.r).map<|λr=>r.2.1).sum=Ze rk l.r:=rfl;lia
 .lia
 .have fin:=q H3<|c.trans v
  unfold S_ at fin;rw[J,t,L] at fin;rw[f,Iy];exact fin
noncomputable def lnH(H:Hp):V->Ln
 |.ref T=>match H T with
  |some (.tup [.int r,.int sh,.int lo,.int hi])=>⟨r.toNat,sh,lo,hi⟩
  |_=>⟨0,0,0,0⟩
 |_=>⟨0,0,0,0⟩
theorem Zj{l:Ln}{v:V}(h:TupAt H (gZ l) v):lnH H v=l:=by
 obtain⟨T,rfl,e⟩:=h;show (match H T with | some (.tup [.int r,.int sh,.int lo,.int hi])=>(⟨r.toNat,sh,lo,hi⟩:Ln) | _=>⟨0,0,0,0⟩)=l;rw[e];show (⟨((l.r:_c):_j).toNat,l.sh,l.lo,l.hi⟩:Ln)=l;rw[bp]
theorem jw{l:_a Ln}(h:Paired (λx y=>TupAt H (gZ x) y) l vs):vs.map (lnH H)=l:=by
 induction h with
 |nil=>rfl
 |cons x y a=>rw[ee,a,Zj x]
def m7(sz:_a _c)(rk:_a<|_m×_c×_j)(b:_c)(l:_a Ln)(n:_c):Nat:=Vx<|l.map λln=>S_ rk ln<|jX sz b n
inductive sS(C:_d)(vs:_a V)(H:Hp)(Q:VK)(d0:XK):Prop
|mk(x:_d)(c:_c->_m)(sz:_a _c)(rk:_a (_m×_c×_j))(kbs:_a Kb)(ls:_a (_a Ln:_))(k n:_c)(z:Kb)(l:_a Ln)(_:vs=[.ref x,.int (k:_c),.int (n:_c)])(_:FP C H x (Az c sz) rk (Bw c kbs) ls)(_:Tg sz.length kbs)(_:kbs[k]? = _b z)(_:ls[k]? = _b l)(_:l.length<=100)(_:∀ln∈l,qM rk ln)(_:n<2 ^ 1200)(_:∀H',Aj H H'->Q (.int (m7 sz rk (JC kbs k) l n:_c)) H')
theorem qZ:Am oQ qs<|Ae sBs:=Bc
include N T in
theorem wG:BP P w K mg base BV 4 aD.Bs qs<|sS C:=by
 refine N.FBs.1.DY qZ λH vs Q E b h=>?_;obtain⟨x,c,sz,rk,a,A,k,n,z,l,rfl,O,re,Z,hl,OR,hg,hn,q⟩:=h;refine⟨_,(Ac (BZ (i:=3) qZ.nd U (Or.inl U)<|Fd (pv 0) T.cl N.FOs (AAf N T) b<|Aa (pv 1) Ab)
  (Ac (BZ (i:=4) qZ.nd U (Or.inr U)<|BJ N.FNb (vd N T) b<|Aa (pv 0)<|Aa (An K<|pv 3)<|Aa (pv 2) Ab)
  (Af<|Aq<|BJ N.FUn (fY N T) b<|Aa (Bp U (Bb (osc:=Ae sBs) (N:=oQ) U U<|by decide) (Bl<|An K<|pv 3) (λ_ _ _ _=>Cj)<|λ_ _ _ _=>(BJ N.FLl (vq N T) b<|Aa (pv 1)<|Aa (pv 0)<|Aa (pv 5) Ab)) Ab))),?_⟩
 have b:=Ek (c:=c) Z;obtain⟨rs,er⟩:=Xa b;rw[er] at b;have B:=fO re Z;have g:(Az c sz)[JC a k]? = _b (c<|JC a k,sz[JC a k]):=Ej<|af B
 have j:∀{d:Hp},FP C d x (Az c sz) rk (Bw c a) A->∃r fs,d x=_b (.ins C r fs)/\∀m∈meths,fs.lookup m=none:=λO'=>by
  obtain⟨⟨r,fs,_,_,_,_,_,_,_,_,h1,_,_,_,_,u,_⟩,_⟩:=O'.o;exact⟨r,fs,h1,u⟩
 obtain⟨r,fs,hx,u⟩:=j O;refine⟨r,fs,hx,u _<|by decide,x,Az c sz,rk,Bw c a,A,k,JC a k,(c<|JC a k,sz[JC a k]),_,_,rs,l,U,O,b,g,hl,λT0 L0 I H1 _ Y W G DD=>?_⟩;have M:=O.mono Y;refine⟨_,_,oP W,U,x,c,sz,Bw c a,JC a k,n,U,M.o,B,hn,λD f=>?_⟩;have O2:=M.mono f;have Zp:=eN n (-((sz.take<|JC a k).sum:_j))<|sz.getD (JC a k) 0
 have ac:sz.getD (JC a k) 0<=61:=by
  rw[aS,af B];exact O.o.sz _<|ai g
 have p:jX sz (JC a k) n<2 ^ 1200:=bq Zp<|ko (by decide)<|rx ac (by decide)
 have XI:=f _ _ G;have t:=Ar f DD;have ab:=t.length;have o:Dd K D L0 I:=.inl<|.inl XI
 refine⟨_,_,oP<|f _ _ W,U,⟨_,o⟩,Ed (K:=K) (xs:=I) (λ_=>_g) (λv=>.int (S_ rk (lnH D v) (jX sz (JC a k) n):_c)) o (Ax<|by lia) (λy S d F R k=>k d<|Aj.refl d) (λy S _ d F R X=>?_)<|λD3 H3 DF s3 J=>?_⟩
 .obtain⟨s,si,L⟩:=Dg t S;have e:=Zj L;rw[e] at X;exact⟨x,Az c sz,rk,Bw c a,A,y,s,_,U,O2.mono F,L.mono F,hg s si,p,λH4 s4=>X H4 s4⟩
 .rw[cw.mpr (λ_ _=>rfl)] at J;have e3:(I.map λv=>V.int (S_ rk (lnH D v) (jX sz (JC a k) n):_c))=nV (l.map λs=>S_ rk s<|jX sz (JC a k) n):=by
   rw[<-jw t];unfold nV;rw[bb,bb];rfl
  rw[e3] at J;exact⟨D3,_,U,J,by rw[ah];exact rx OR (by decide),q H3<|Y.trans<|f.trans s3⟩
noncomputable def uI(sz:_a _c)(rk:_a<|_m×_c×_j)(kbs:_a Kb)(ls:_a<|_a Ln)(cl:_a _c)(n:_c):Nat:=Vx<|cl.map λk=>m7 sz rk (JC kbs k) (ls.getD k []) n
abbrev oU(rk:_a<|_m×_c×_j)(ls:_a<|_a Ln):Prop:=∀l∈ls,l.length<=100/\∀ln∈l,qM rk ln
inductive t_(C:_d)(vs:_a V)(H:Hp)(Q:VK)(d0:XK):Prop
|mk(x:_d)(c:_c->_m)(sz:_a _c)(rk:_a (_m×_c×_j))(kbs:_a Kb)(ls:_a (_a Ln:_))(D n:_c)(_:vs=[.ref x,.int (D:_c),.int (n:_c)])(_:FP C H x (Az c sz) rk (Bw c kbs) ls)(_:Tg sz.length kbs)(_:oU rk ls)(_:n<2 ^ 1200)(_:∀(cl:_a _c) H',Aj H H'->(∀k,k∈cl ↔ ∃z,kbs[k]? = _b z/\z.w = "stop" /\ D.testBit k=_g)->Q (.int (uI sz rk kbs ls cl n:_c)) H')
theorem scBa:Am fy fy<|Ae sBa:=Bc
include N T in
theorem yN:BP P w K mg base BV 5 aD.Ba fy<|t_ C:=by
 refine N.FBa.1.DY scBa λH vs Q E l h=>?_;obtain⟨x,c,sz,rk,a,b,D,n,rfl,O,X,xl,hn,q⟩:=h;refine⟨_,Af<|Aq<|BJ N.FUn (fY N T) l<|Aa (Bp U (Bb (osc:=Ae sBa) (N:=fy) U U<|by decide) (Bl<|BJ N.FDc (aC N T) l<|Aa (pv 0)<|Aa (pv 1)<|Aa Aw Ab) (λ_ _ _ _=>Cj)<|λ_ _ _ _=>(BJ N.FBs (wG N T) l<|Aa (pv 1)<|Aa (pv 0)<|Aa (pv 3) Ab)) Ab,?_⟩;refine⟨x,Az c sz,Bw c a,"stop",D,U,O.o,λCL f H1 OS S A A2 BM=>?_⟩;have m:∀k,k∈f ↔ ∃z,a[k]? = _b z/\z.w = "stop" /\ D.testBit k=true:=λk=>by
  rw[A2];constructor
  .rintro⟨r,l,s,t⟩;obtain⟨z,j,rfl⟩:=HY l;exact⟨z,j,(IK _ _ _).symm.trans s,t⟩
  .rintro⟨z,j,s,t⟩;exact⟨_,Ek j,(IK _ _ _).trans s,t⟩
 have p:Dd K H1 CL<|nV f:=.inl<|.inl A
 have Z:=O.mono S;let g:V->V:=λv=>match v with | .int k=>.int (m7 sz rk (JC a k.toNat) (b.getD k.toNat []) n:_c) | _=>.non
 refine⟨⟨_,p⟩,Ed (K:=K) (xs:=nV f) (λ_=>_g) g p (Ax<|by rw[ah];exact rx BM (by decide)) (λy M u J R k=>k u<|Aj.refl u) (λy M _ u J R k=>?_)<|λD2 Y vT W d=>?_⟩
 .obtain⟨i,hi,rfl⟩:=ay.mp M;obtain⟨z,j,s,t⟩:=(m i).mp hi;have o:i<b.length:=by
   rw[O.nl,PK];exact (ag.mp j).1
  have F:=af o;have B:b.getD i []=b[i]:=by rw[aS,F];rfl
  have G:=xl b[i] (eJ o);refine⟨x,c,sz,rk,a,b,i,n,z,b[i],U,Z.mono J,X,j,F,G.1,G.2,hn,λI s4=>?_⟩;have L:R (.int (m7 sz rk (JC a i) (b.getD i []) n:_c)) I:=k I s4;rw[B] at L;exact L
 .rw[cw.mpr (λ_ _=>rfl)] at d;have e:(nV f).map g=nV (f.map λk=>m7 sz rk (JC a k) (b.getD k []) n):=by
   unfold nV;rw[bb,bb];rfl
  rw[e] at d;exact⟨D2,_,U,d,by rw[ah];exact rx BM (by decide),q f Y (S.trans W) m⟩
inductive sG(C:_d)(vs:_a V)(H:Hp)(Q:VK)(d0:XK):Prop
|mk(x:_d)(c:_c->_m)(sz:_a _c)(rk:_a (_m×_c×_j))(kbs:_a Kb)(ls:_a (_a Ln:_))(D n:_c)(_:vs=[.ref x,.int (D:_c),.int (n:_c)])(_:FP C H x (Az c sz) rk (Bw c kbs) ls)(_:Tg sz.length kbs)(_:oU rk ls)(_:n<2 ^ 1200)(_:∀i,n.testBit i=_g->i<sz.sum)(_:∀(cl:_a _c) (m:_c) H',Aj H H'->(∀k,k∈cl ↔ ∃z,kbs[k]? = _b z/\z.w = "stop" /\ D.testBit k=_g)->(∀j,m.testBit j=_g ↔ V8 c sz kbs D n j)->Q (.int (uI sz rk kbs ls cl m:_c)) H')
theorem scSo:Am eh eh<|Ae sSo:=Bc
include N T in
theorem wk:BP P w K mg base BV 7 aD.So eh<|sG C:=by
 refine N.FSo.1.DY scSo λH y Q E e h=>?_;obtain⟨x,c,sz,rk,b,o,D,n,rfl,O,f,s,u,g,q⟩:=h;refine⟨_,Af<|Aq<|BJ N.FBa (yN N T) e<|Aa (pv 0)<|Aa (pv 1)<|Aa (BJ N.FSk (zO N T) e<|Aa (pv 0)<|Aa (pv 1)<|Aa (pv 2) Ab) Ab,?_⟩;have v:=Ft O.o;rw[Cr] at v;refine⟨x,c,sz,b,D,n,U,O.o,f,u,g,λm z k j=>?_⟩;have a:m<2 ^ 1200:=by
  refine hZ m λi A=>?_;rw[<-ft];intro p;rcases (j i).mp p with h | h
  .have:=h.lt;rw[Cr] at this;lia
  .have:=g i h.1;lia
 exact⟨x,c,sz,rk,b,o,D,m,U,O.mono k,f,s,a,λt r l d=>q t m r (k.trans l) d j⟩
theorem aJ(sz:_a _c)(b n i:_c):(jX sz b n).testBit i=_g ↔ i<sz.getD b 0/\n.testBit ((sz.take b).sum+i)=true:=by
 unfold jX;rw[Wd.Pn];have e:((i:_j) - -(((sz.take b).sum:_c):_j)).toNat=(sz.take b).sum+i:=by lia
 rw[e,eM,eM,_H,_H];exact⟨λh=>⟨h.1,h.2.2⟩,λh=>⟨h.1,by lia,h.2⟩⟩
theorem X4{rk:_a (_m×_c×_j)}{l:Ln}(g:qM rk l)(n p:_c):(S_ rk l n).testBit p=_g ↔ ∃i:_c,n.testBit i=_g/\l.lo<=(i:_j)/\(i:_j)<=l.hi/\0<=(i:_j)+l.sh/\(i:_j)+l.sh<(N8 rk l.r:_c)/\(p:_j)=(Ze rk l.r:_c)+((i:_j)+l.sh):=by
 have f:=g.lo;have q:=g.le;have s:=WD g.r;unfold S_;rw[Wd.Pn,Wd.Pn,Wd.Pn];simp only[Θ,_H];constructor
 .rintro⟨d,b,k,o,h,r,a⟩;exact⟨_,a,by lia,by lia,by lia,by lia,by lia⟩
 .rintro⟨i,a,d,b,m,j,e⟩;have c:(((((((p:_j) - ((Ze rk l.r:_c):_j)).toNat:_c):_j) - (l.lo+l.sh)).toNat:_c):_j) - -l.lo=(i:_j):=by lia
  refine⟨by lia,by lia,by lia,by lia,by lia,by lia,?_⟩;rw[c,bp];exact a
theorem Wf{sz:_a _c}{rk:_a (_m×_c×_j)}{b:_c}{l:_a Ln}{p:_c}(g:∀ln∈l,qM rk ln):(m7 sz rk b l n).testBit p=_g ↔ ∃ln∈l,∃i:_c,i<sz.getD b 0/\n.testBit ((sz.take b).sum+i)=_g/\ln.lo<=(i:_j)/\(i:_j)<=ln.hi/\0<=(i:_j)+ln.sh/\(i:_j)+ln.sh<(N8 rk ln.r:_c)/\(p:_j)=(Ze rk ln.r:_c)+((i:_j)+ln.sh):=by
 unfold m7;rw[Rn];constructor
 .rintro⟨m,c,a⟩;obtain⟨ln,hl,rfl⟩:=ay.mp c;obtain⟨i,d,r⟩:=(X4 (g ln hl) _ _).mp a;obtain⟨x,y⟩:=(aJ _ _ _ _).mp d;exact⟨ln,hl,i,x,y,r⟩
 .rintro⟨ln,hl,i,x,y,r⟩;exact⟨_,aE hl,(X4 (g ln hl) _ _).mpr ⟨i,(aJ _ _ _ _).mpr ⟨x,y⟩,r⟩⟩
theorem fL{sz:_a _c}{rk:_a (_m×_c×_j)}{cl:_a _c}{p:_c}:(uI sz rk kbs ls cl n).testBit p=_g ↔ ∃k∈cl,(m7 sz rk (JC kbs k) (ls.getD k []) n).testBit p=true:=by
 unfold uI;rw[Rn];constructor
 .rintro⟨m,c,b⟩;obtain⟨k,a,rfl⟩:=ay.mp c;exact⟨k,a,b⟩
 .rintro⟨k,a,b⟩;exact⟨_,aE a,b⟩
inductive Zz(C:_d)(vs:_a V)(H:Hp)(Q:VK)(d0:XK):Prop
|mk(x:_d)(us:_a V)(bs:_a (_m×_c))(rk:_a (_m×_c×_j))(ks:_a R)(ls:_a (_a Ln:_))(sts:_a _c)(_:vs=[.ref x])(_:Jv C H x us bs rk ks ls sts)(_:∀D H',H D=_o->Aj H H'->H' D=_b (.lst (nV sts))->Q (.ref D) H')
theorem scOy:Am dv dv<|Ae sOy:=Bc
include N T in
theorem cZ:BP P w K mg base BV 1 aD.Oy dv<|Zz C:=by
 refine N.FOy.1.DY scOy λH n Q E i h=>?_;obtain⟨x,k,bs,rk,y,o,c,rfl,O,q⟩:=h;refine⟨_,Af<|Aq<|Ci Ec U T.list fe<|Aa (BX (pv 0) U) Ab,?_⟩;obtain⟨_,f,fs,t,r,e,g,a,p,m,d,u,v,j,s,b,_⟩:=id O;exact⟨C,f,_,_,a,T.cl,T.n_step_sets,d,e,_,U,oP<|.inl b,λl hl=>q l _ hl (A_ hl) Ah⟩
inductive Z6(vs:_a V)(H:Hp)(Q:VK)(d0:XK):Prop
|mk(z:_m)(_:vs=[.str z,.str letters,.int 8])(_:Tx z)(_:∀b H',Aj H H'->(b=_g ↔ isNm z)->Q (.bl b) H')
include N T in
theorem vM:BP P w K mg base BV 1 aD.Md hH Z6:=by
 refine N.FMd.1.DY xX λH p Q E o h=>?_;obtain⟨z,rfl,g,q⟩:=h;refine⟨_,Af<|Aq<|Dl (HN Ei Ei Al (Ay MF U T.len bt<|Aa (pv 0) Ab)<|pv 2)<|Dh<|Ay (JM U) U T.all gX<|Aa (Bp U (Bb (osc:=Ae sMd) (N:=hH) U U<|by decide) (eE<|pv 0) (λ_ _ _ _=>Cj)<|λ_ _ _ _=>(DX QC (pv 0) (pv 2) U)) Ab,?_⟩;have d:z.length<sizeLine:=Ax g.1;have l:¬ isNm z->Q (.bl _p) H:=λh=>q _p H (Aj.refl H) ⟨λz=>(nomatch z),λz=>_z z h⟩;refine⟨z,U,fR d,?_⟩;refine Cz (λf=>?_)<|λf=>(l λc=>f<|_i (by have:=c.1;exact KK.mpr this))
 refine Cz (λi=>?_)<|λi=>l λc=>i<|_i (by have:=c.2.1;exact KK.mpr this)
 refine⟨z,U,Ub (λ_=>_g) (λc=>.bl<|jf letters c) d (λc a b j R k=>k b<|Aj.refl b) (λc a _ b j R k=>⟨_,_,U,U,k b<|Aj.refl b⟩)<|λD b r j hl=>?_⟩;refine⟨D,z.cps.toList.map<|jf letters,U,.inl<|.inl ?_,q _ b j ?_⟩
 .rw[hl,cw.mpr<|λ_ _=>rfl,bb];rfl
 .rw[oC,gi];have m:1<=z.length:=by have:=_s f;lia
  have n:z.length<=8:=by have:=_s i;lia
  constructor
  .intro h;refine⟨m,n,λc a=>?_⟩;have e:jf letters c=true:=h c a;rw[RD c (g.2 c a)] at e;exact _s e
  .intro h c a;show jf letters c=_g;rw[RD c (g.2 c a)];exact _i<|h.2.2 c a
theorem ty8i{K:_q}:ξ K (.type "int") (.type "str")=_b false:=by kernel_rfl
theorem ty8b{K:_q}:ξ K (.type "bool") (.type "str")=_b false:=by kernel_rfl
theorem ty8n{K:_q}:ξ K (.type "NoneType") (.type "str")=_b false:=by kernel_rfl
theorem ty8l{K:_q}:ξ K (.type "list") (.type "str")=_b false:=by kernel_rfl
theorem ty8t{K:_q}:ξ K (.type "tuple") (.type "str")=_b false:=by kernel_rfl
def isStr:V->_O
 |.str _=>_g
 |_=>_p
theorem qN(K:_q){v:V}(h:CZ H v):∃n,K7 K H v (.type n)/\ξ K (.type n) (.type "str")=_b (isStr v):=by
 cases h with
 |non=>exact⟨_,.non,ty8n⟩
 |bl b=>exact⟨_,.bl b,ty8b⟩
 |int i=>exact⟨_,.int i,ty8i⟩
 |lst h=>exact⟨_,.lst h,ty8l⟩
 |tup h=>exact⟨_,.tup h,ty8t⟩
 |str h=>exact⟨_,.str _,W_⟩
inductive rN(v:V):Prop
|mk(t:_)(_:v=.str t)(_:isNm t)
inductive X6(vs:_a V)(H:Hp)(Q:VK)(d0:XK):Prop
|mk(v:V)(_:vs=[v])(_:CZ H v)(_:∀b H',Aj H H'->(b=_g ↔ rN v)->Q (.bl b) H')
include N T in
theorem Z_:BP P w K mg base BV 2 aD.Nm fx X6:=by
 refine N.FNm.1.DY wN λH o Q E c h=>?_;obtain⟨v,rfl,a,q⟩:=h;obtain⟨i,k⟩:=T.letters;obtain⟨d,l⟩:=T.mostL;refine⟨_,Af<|Aq<|Dl (Ay DW U T.isin cf<|Aa (pv 0)<|Aa (Em (v:=.ty "str") U T.str jS U) Ab)<|Dh<|BJ N.FMd (vM N T) c<|Aa (pv 0)<|Aa (Cu (v:=.str letters) U k ⟨i,U⟩)<|Aa (Cu (v:=.int 8) U l ⟨d,U⟩) Ab,?_⟩;obtain⟨n,f,m⟩:=qN K a;refine⟨_,"str",_,_,U,f,m,?_⟩
 cases a with
 |str h =>
  refine⟨_,U,h,λb j s g=>q b j s<|g.trans ⟨λz=>⟨_,U,z⟩,λ⟨t,e,z⟩=>by cases e;exact z⟩⟩
 |_=>exact (q _p H (Aj.refl H) ⟨λz=>(nomatch z),λ⟨t,e,z⟩=>(nomatch e)⟩)
inductive vD(C:_d)(vs:_a V)(H:Hp)(Q:VK)(d0:XK):Prop
|mk(x:_d)(us:_a V)(bs:_a (_m×_c))(rk:_a (_m×_c×_j))(ks:_a R)(ls:_a (_a Ln:_))(sts:_a _c)(v:V)(_:vs=[.ref x,v])(_:Jv C H x us bs rk ks ls sts)(_:CZ H v)(_:∀n∈bs.map (·.1),isNm n)(_:∀H',Aj H H'->Q (G9 (bs.map (·.1)) v) H')
inductive qJ(C:_d)(vs:_a V)(H:Hp)(Q:VK)(d0:XK):Prop
|mk(x:_d)(us:_a V)(bs:_a (_m×_c))(rk:_a (_m×_c×_j))(ks:_a R)(ls:_a (_a Ln:_))(sts:_a _c)(v:V)(_:vs=[.ref x,v])(_:Jv C H x us bs rk ks ls sts)(_:CZ H v)(_:∀n∈ks.map (·.nm),isNm n)(_:∀H',Aj H H'->Q (G9 (ks.map (·.nm)) v) H')
theorem Wt{v:V}(a:∀n∈ns,isNm n)(h:¬ rN v):G9 ns v=.non:=by
 cases v with
 |str t=>exact _l λz=>h ⟨t,U,a t z⟩
 |_=>rfl
theorem valN(a:∀(i:_c) t,ns[i]? = _b t->CW kvs (Key.inr t)=_b (.int (i:_c)))(b:∀t,t ∉ ns->CW kvs (Key.inr t)=_o)(t:_m):(CW kvs<|Key.inr t).getD .non=G9 ns (.str t):=by
 by_cases h:t∈ns
 .rw[a _ t (Gv h)];exact (_n h).symm
 .rw[b t h];exact (_l h).symm
theorem scOj:Am ey ey<|Ae sOj:=Bc
include N T in
theorem AAX:BP P w K mg base BV 3 aD.Oj ey<|qJ C:=by
 refine N.FOj.1.DY scOj λH X Q E d h=>?_;obtain⟨x,D,bs,rk,V,G,l,v,rfl,O,r,s,q⟩:=h;have u:=By d;refine⟨_,Af<|Aq<|K4 (Di<|BJ N.FNm (Z_ N T) d<|Aa (pv 1) Ab) (SQ u (BX (pv 0) U) (pv 1) ⟨U,U,U,U⟩) Er,?_⟩;obtain⟨W,y,fs,rl,o,Y,n,i,I,p,F,R,g,j,m,A,S,L,B,h8,J⟩:=id O;refine⟨v,U,r,λb Z a f=>?_⟩;refine Cz (λz=>?_)<|λz=>?_
 .obtain⟨t,rfl,M⟩:=f.mp z;refine⟨C,y,_,_,a _ _ i,T.cl,T.n_knob_numbers,p,o,U,.inl ⟨_,.inl<|a _ _ g⟩,_,Dm.k (k:=Key.inr t)<|a _ _ g,?_⟩;rw[valN j m t];exact q _ a
 .have e:=Wt s λc=>z<|f.mpr c
  rw[e] at q;exact q _ a
theorem q_(k:_c):Wd.mk [k]=2 ^ k:=by
 show 0 ||| 2 ^ k=2 ^ k
 rw[Nat.zero_or]
theorem yO(h:t∈ns):G9 ns (.str t)=.int ((ns.idxOf t:_c):_j):=_n h
inductive gJ(C cK:_d)(vs:_a V)(H:Hp)(Q:VK)(E:XK):Prop
|mk(x:_d)(us:_a V)(bs:_a (_m×_c))(rk:_a (_m×_c×_j))(ks:_a R)(ls:_a (_a Ln:_))(sts:_a _c)(v:V)(_:vs=[.ref x,v])(_:Jv C H x us bs rk ks ls sts)(_:CZ H v)(_:∀n∈ks.map (·.nm),isNm n)(_:ks.length<=100)(_:∀t H',Aj H H'->v=.str t->t∈ks.map (·.nm)->Q (.int ((2 ^ (ks.map (·.nm)).idxOf t:_c):_j)) H')(_:∀H',Aj H H'->G9 (ks.map (·.nm)) v=.non->E (.ref cK) _o H')
theorem Qu(ns:_a _m)(v:V):G9 ns v=.non \/ ∃t,v=.str t/\t∈ns/\G9 ns v=.int ((ns.idxOf t:_c):_j):=by
 cases v with
 |str t =>
  by_cases h:t∈ns
  .exact .inr ⟨t,U,h,_n h⟩
  .exact .inl<|_l h
 |_=>exact .inl U
theorem z_:Am ["organ","name","knob"] e7 (Ae sKn):=Bc
include N T in
theorem nW:BP P w K mg base (HH P w) 4 aD.Kn e7<|gJ C cK:=by
 refine N.FKn.1.LQ z_ λH I Q E b h=>?_;obtain⟨x,l,bs,rk,a,p,c,v,rfl,O,B,d,hl,q,s⟩:=h;have J:=By b;refine⟨_,(Ac (BZ (i:=2) z_.nd U (Or.inl U)<|Fd (pv 0) T.cl N.FOj (AAX N T) b<|Aa (pv 1) Ab)
  (Ac (Bg (Bd VD (pv 2) Er) (Af<|Ga T.x4.rK.ex U T.x4.mK U Ih<|Aa Aw Ab) BR)
  (Af<|Aq<|BJ N.FSt (Qf N T) b<|Aa (Cm<|Aa (pv 2) Ab) Ab))),?_⟩
 obtain⟨⟨⟨G,fs,_,_,_,_,_,_,_,_,j,_,_,_,_,m,_⟩,_⟩,_⟩:=id O.o;refine⟨G,fs,j,m _<|by decide,x,l,bs,rk,a,p,c,v,U,O,B,d,λA g=>?_⟩;rcases Qu (a.map (·.nm)) v with e | ⟨t,rfl,f,e⟩
 .have D:=s A g e;rw[e];exact⟨U,⟨by show 1<=1000;decide,D⟩⟩
 .rw[e];have F:=gL f;rw[ah] at F;refine⟨U,?_⟩;refine⟨CV (by simp),λr z=>?_⟩;have k:=A_ (o:=HO.lst [V.int (((a.map (·.nm)).idxOf t:_c):_j)]) z;refine⟨r,[(a.map (·.nm)).idxOf t],U,Ah,by simp,λn d=>by rw[ĵ.mp d];exact bq F (rx hl (by decide)),λu y=>?_⟩;rw[q_];exact q t u (g.trans<|k.trans y) U f
inductive uf(Cy:_d)(vs:_a V)(H:Hp)(Q:VK)(d0:XK):Prop
|mk(y dy x:_d)(_:vs=[.ref y,.ref x])(_:H y=_b (.ins Cy dy []))(_:∀(sd:_d) H',SX y H H'->H sd=_o->H' sd=_b (.dK [])->Dj Cy H' y x 0 0 sd->Q .non H')
inductive VM(Cy:_d)(vs:_a V)(H:Hp)(Q:VK)(d0:XK):Prop
|mk(y x:_d)(dr sh:_c)(sd:_d)(n:_c)(_:vs=[.ref y,.int (n:_c)])(_:Dj Cy H y x dr sh sd)(_:∀H',SX y H H'->Dj Cy H' y x n sh sd->Q (.bl (!decide (n=dr))) H')
theorem scXi:Am hY hY<|Ae sXi:=Bc
include N T in
theorem AAn:BP P w K mg base BV 1 aD.Xi hY<|uf Cy:=by
 refine N.FXi.1.DY scXi λH G Q E t h=>?_;obtain⟨y,a,x,rfl,s,q⟩:=h;have I:=By t;refine⟨_,(Ac (DG (pv 0) (pv 1) U)
  (Ac (DG (pv 0) Al U)
  (Ac (DG (pv 0) Al U)
  (Af<|DG (pv 0) Hg U)))),?_⟩
 refine⟨Cy,a,_,s,T.clR,T.nr_organ,by show 0<1000;decide,?_⟩;have m:upd H y (HO.ins Cy a<|Bj "organ" (.ref x) []) y=_b (.ins Cy a<|Bj "organ" (.ref x) []):=Ah;have l:SX y H<|upd H y<|HO.ins Cy a<|Bj "organ" (.ref x) []:=SX.up
 generalize upd H y (HO.ins Cy a (Bj "organ" (.ref x) []))=d at m l |-;have J:=Fq "organ" (.ref x) [];have L:=Fq "drawn_set" (.int 0) (Bj "organ" (.ref x) []);have C:=Fq "shoe_step" (.int 0) (Bj "drawn_set" (.int 0) (Bj "organ" (.ref x) []));have B:([]:_a<|_m×V).length=0:=rfl;refine⟨Cy,a,_,m,T.clR,T.nr_drawn_set,cc J (by decide),?_⟩;have r:upd d y (HO.ins Cy a<|Bj "drawn_set" (.int 0) (Bj "organ" (.ref x) [])) y=_b (.ins Cy a<|Bj "drawn_set" (.int 0) (Bj "organ" (.ref x) [])):=Ah;have n:SX y d<|upd d y<|HO.ins Cy a<|Bj "drawn_set" (.int 0) (Bj "organ" (.ref x) []):=SX.up
 generalize upd d y (HO.ins Cy a (Bj "drawn_set" (.int 0) (Bj "organ" (.ref x) [])))=c at r n |-;refine⟨Cy,a,_,r,T.clR,T.nr_shoe_step,cc L (Y' (cc J (by decide))),?_⟩;have e:upd c y (HO.ins Cy a<|Bj "shoe_step" (.int 0) (Bj "drawn_set" (.int 0) (Bj "organ" (.ref x) []))) y=_b (.ins Cy a<|Bj "shoe_step" (.int 0) (Bj "drawn_set" (.int 0) (Bj "organ" (.ref x) []))):=Ah;have j:SX y c<|upd c y<|HO.ins Cy a<|Bj "shoe_step" (.int 0) (Bj "drawn_set" (.int 0) (Bj "organ" (.ref x) [])):=SX.up
 generalize upd c y (HO.ins Cy a (Bj "shoe_step" (.int 0) (Bj "drawn_set" (.int 0) (Bj "organ" (.ref x) []))))=F at e j |-;intro b g;obtain⟨D,u,p,v⟩:=Dr (o:=HO.dK []) g;rw[u];refine⟨Cy,a,_,p _ _ e,T.clR,T.nr_stored,by lia,?_⟩;have i:b≠y:=_J<|Ag e g
 have k:=l.trans<|n.trans j
 have f:H b=none:=by
  cases z:H b with
  |none=>rfl
  |some A =>
   have:=k b A z i;rw[g] at this
   cases this
 exact q b _ (k.trans<|(SX.of p).trans SX.up) f (by rw[Ak i];exact v)<|Dj.new Ah
theorem yK:Am ["self","knobs","changed"] j5 (Ae sXd):=Bc
include N T in
theorem Xl:BP P w K mg base BV 1 aD.Xd j5<|VM Cy:=by
 refine N.FXd.1.DY yK λH u Q E g h=>?_;obtain⟨y,x,f,r,m,n,rfl,D,q⟩:=h;have v:=By g;refine⟨_,(Ac (BZ (i:=2) yK.nd U (Or.inl U)<|DX PB (pv 1) (BX (pv 0) U)<|Et _)
  (Ac (DG (pv 0) (pv 1) U)
  (Af<|Aq<|pv 2))),?_⟩
 obtain⟨a,fs,b,o,c,l,t,p,k⟩:=id D.ex;refine⟨Cy,a,_,_,b,T.clR,T.nr_drawn_set,c,U,?_⟩;refine⟨Cy,a,_,b,T.clR,T.nr_drawn_set,cc p (by decide),?_⟩;have j:SX y H<|upd H y<|HO.ins Cy a<|Bj "drawn_set" (.int (n:_c)) fs:=SX.up
 have s:Dj Cy (upd H y<|HO.ins Cy a<|Bj "drawn_set" (.int (n:_c)) fs) y x n r m:=Dj.putD n o c l t p k Ah;have e:(!decide (V.int ((n:_c):_j)=V.int ((f:_c):_j))) = !decide (n=f):=by
  congr 1;rw[IC];constructor
  .intro z;have:=V.int.inj z;lia
  .rintro rfl;rfl
 have d:=q _ j s;rw[<-e] at d;exact d
theorem XD(a b:_c):Χ (a:_j) (_S (b:_j))=((a - (a &&& b):_c):_j):=by
 have h:¬ 0<=_S (b:_j):=by unfold _S;lia
 have c:_S (_S (b:_j))=(b:_j):=by unfold _S;lia
 have d:a &&& b<=a:=B1;unfold Χ;rw[_i (ja a),_t h];show (a:_j) - ((((a:_j).toNat &&& (_S<|_S (b:_j)).toNat:_c)):_j)=_;rw[c,bp,bp];lia
abbrev I_(ks:_a R):_a Str:=ks.map (·.nm)
def Gj(C Cy:_d)(Ho H:Hp)(y x:_d)(ks:_a R)(sts:_a _c)(dr sh:_c)(sd:_d):Prop:=(∃us bs rk ls,sJ C Cy Ho H y x us bs rk ks ls sts dr sh sd)/\(∀n∈I_ ks,isNm n)/\ks.length<=100
theorem Gj.mono(s:Aj H H')(h:Gj C Cy Ho H y x ks sts dr sh sd):Gj C Cy Ho H' y x ks sts dr sh sd:=by
 obtain⟨⟨b,bs,rk,d,a⟩,c,e⟩:=h;exact⟨⟨b,bs,rk,d,a.mono s⟩,c,e⟩
theorem Gj.put{d f:_c}(h:Gj C Cy Ho H y x ks sts dr sh sd)(s:SX y H H')(c:Dj Cy H' y x d f sd):Gj C Cy Ho H' y x ks sts d f sd:=by
 obtain⟨⟨g,bs,rk,j,a⟩,i,k⟩:=h;exact⟨⟨g,bs,rk,j,a.o,λb o e=>s b o (a.s b o e)<|Ag e a.n,a.n,c⟩,i,k⟩
inductive fX(up:_O)(C Cy cK:_d)(vs:_a V)(H:Hp)(Q:VK)(E:XK):Prop
|mk(Ho:Hp)(y x:_d)(ks:_a R)(sts:_a _c)(dr sh:_c)(sd:_d)(v:V)(_:vs=[.ref y,v])(_:Gj C Cy Ho H y x ks sts dr sh sd)(_:CZ H v)(_:∀t d2 H',SX y H H'->v=.str t->t∈I_ ks->d2=(if up then dr ||| 2 ^ (I_ ks).idxOf t else dr - (dr &&& 2 ^ (I_ ks).idxOf t))->Gj C Cy Ho H' y x ks sts d2 sh sd->Q (.bl (!decide (d2=dr))) H')(_:∀H',Aj H H'->G9 (I_ ks) v=.non->E (.ref cK) _o H')
theorem scXp:Am ey ey<|Ae sXp:=Bc
include N T in
theorem AAR:BP P w K mg base (HH P w) 5 aD.Xp ey<|fX _g C Cy cK:=by
 have g:BP P w K mg base (HH P w) 4 aD.Kn e7<|gJ C cK:=nW N T
 refine N.FXp.1.LQ scXp λH V Q E c h=>?_;obtain⟨R,y,x,B,d,A,r,n,v,rfl,O,G,q,u⟩:=h;have W:=By c;refine⟨_,Af<|Aq<|Fd (pv 0) T.clR N.FXd (Xl N T) c<|Aa (BK QM (BX (pv 0) U)<|BJ N.FKn g c<|Aa (BX (pv 0) U)<|Aa (pv 1) Ab) Ab,?_⟩;obtain⟨⟨k,bs,rk,m,D⟩,I,hl⟩:=id O;obtain⟨f,fs,b,o,F,L,S,M,l⟩:=id D.c.ex;refine⟨f,fs,b,l _<|by decide,Cy,f,_,_,b,T.clR,T.nr_drawn_set,F,Cy,f,_,_,b,T.clR,T.nr_organ,o,x,k,bs,rk,B,m,d,v,U,D.o.mono D.s,G,I,hl,λt i a p s=>?_,λi a e=>u i a e⟩;subst p;try dsimp only
 dsimp only[XS,rU,Np];rw[Jo];refine⟨y,x,A,r,n,_,U,D.c.mono a,λz j J=>?_⟩;exact q t _ z ((SX.of a).trans j) U s U<|(O.mono a).put j J
theorem scXq:Am ey ey<|Ae sXq:=Bc
include N T in
theorem yr:BP P w K mg base (HH P w) 5 aD.Xq ey<|fX _p C Cy cK:=by
 have g:BP P w K mg base (HH P w) 4 aD.Kn e7<|gJ C cK:=nW N T
 refine N.FXq.1.LQ scXq λH V Q E c h=>?_;obtain⟨R,y,x,B,d,A,r,n,v,rfl,O,G,q,u⟩:=h;have W:=By c;refine⟨_,Af<|Aq<|Fd (pv 0) T.clR N.FXd (Xl N T) c<|Aa (BK KZ (BX (pv 0) U)<|Km Q_<|BJ N.FKn g c<|Aa (BX (pv 0) U)<|Aa (pv 1) Ab) Ab,?_⟩;obtain⟨⟨k,bs,rk,m,D⟩,I,hl⟩:=id O;obtain⟨f,fs,b,o,F,L,S,M,l⟩:=id D.c.ex;refine⟨f,fs,b,l _<|by decide,Cy,f,_,_,b,T.clR,T.nr_drawn_set,F,Cy,f,_,_,b,T.clR,T.nr_organ,o,x,k,bs,rk,B,m,d,v,U,D.o.mono D.s,G,I,hl,λt i a p s=>?_,λi a e=>u i a e⟩;subst p;try dsimp only
 dsimp only[XS,rU,Np];rw[XD];refine⟨y,x,A,r,n,_,U,D.c.mono a,λz j J=>?_⟩;exact q t _ z ((SX.of a).trans j) U s U<|(O.mono a).put j J
inductive vK(C Cy:_d)(vs:_a V)(H:Hp)(Q:VK)(d0:XK):Prop
|mk(Ho:Hp)(y x:_d)(ks:_a R)(sts:_a _c)(dr sh:_c)(sd:_d)(_:vs=[.ref y])(_:Gj C Cy Ho H y x ks sts dr sh sd)(_:sh<=sts.length)(_:sts.length<=100)(_:∀H',Aj H H'->Q (.int ((dr ||| Vx (sts.take sh):_c):_j)) H')
theorem scXk:Am dv dv<|Ae sXk:=Bc
include N T in
theorem yF:BP P w K mg base BV 2 aD.Xk dv<|vK C Cy:=by
 refine N.FXk.1.DY scXk λH Z Q E f h=>?_;obtain⟨W,y,x,z,a,X,b,S,rfl,O,J,s,q⟩:=h;have hu:=By f;refine⟨_,Af<|Aq<|BK QM (BX (pv 0) U)<|BJ N.FUn (fY N T) f<|Aa (FN Lk (Dp (BX (pv 0) U) T.cl N.FOy (cZ N T) f) Gk<|Fi<|BX (pv 0) U) Ab,?_⟩;obtain⟨⟨m,bs,rk,p,D⟩,hn,hl⟩:=id O;obtain⟨g,fs,e,r,B,n,Y,V,R⟩:=id D.c.ex;have j:=D.o.mono D.s;obtain⟨⟨⟨M,u,_,_,_,_,_,_,_,_,t,_,_,_,_,I,_⟩,_⟩,_⟩:=id j.o;refine⟨Cy,g,_,_,e,T.clR,T.nr_drawn_set,B,Cy,g,_,_,e,T.clR,T.nr_organ,r,M,u,t,I _<|by decide,x,m,bs,rk,z,p,a,U,j,λL k FO l F=>?_⟩;refine⟨Cy,g,_,_,l _ _ e,T.clR,T.nr_shoe_step,n,L,_,U,oP F,λc G=>?_⟩;have i:=A_ (o:=HO.lst<|FQ (nV a) _o<|some (b:_j)) G;have d:upd k c (HO.lst<|FQ (nV a) _o<|some (b:_j)) c=_:=Ah;generalize upd k c (HO.lst (FQ (nV a) _o (_b (b:_j))))=v at i d |-;have lz:(nV a).length=a.length:=ah _;rw[Lf (nV a) b (lz.symm▸J)] at d;have A:(nV a).take b=nV (a.take b):=(gE ..).symm;rw[A] at d;refine⟨c,a.take b,U,d,by rw[cm];lia,?_⟩;try dsimp only
 show Q (.int _) _;rw[Jo];exact q v<|l.trans i
def isI:V->_O
 |.int _=>_g
 |_=>_p
theorem ty9n{K:_q}:ξ K (.type "NoneType") (.type "int")=_b false:=by kernel_rfl
theorem ty9b{K:_q}:ξ K (.type "bool") (.type "int")=_b true:=by kernel_rfl
theorem ty9c{K:_q}:ξ K (.type "bool") (.type "bool")=_b true:=by kernel_rfl
theorem ty9l{K:_q}:ξ K (.type "list") (.type "int")=_b false:=by kernel_rfl
theorem ty9t{K:_q}:ξ K (.type "tuple") (.type "int")=_b false:=by kernel_rfl
theorem ty9s{K:_q}:ξ K (.type "str") (.type "int")=_b false:=by kernel_rfl
inductive Tt(vs:_a V)(H:Hp)(Q:VK)(d0:XK):Prop
|mk(v:V)(_:vs=[v])(_:CZ H v)(_:Q (.bl (isI v)) H)
include N T in
theorem Vd:BP P w K mg base BV 1 aD.Wh fx Tt:=by
 refine N.FWh.1.DY y_ λH d Q E c h=>?_;obtain⟨v,rfl,a,q⟩:=h;refine⟨_,Af<|Aq<|Dl (Ay DW U T.isin cf<|Aa (pv 0)<|Aa (Em (v:=.ty "int") U T.int gc U) Ab)<|Dh<|Vu<|Ay DW U T.isin cf<|Aa (pv 0)<|Aa (Em (v:=.ty "bool") U T.bool Ņ U) Ab,?_⟩
 cases a with
 |non=>exact⟨_,"int",_,_,U,.non,ty9n,q⟩
 |bl b=>exact⟨_,"int",_,_,U,.bl b,ty9b,⟨_,"bool",_,_,U,.bl b,ty9c,q⟩⟩
 |int i=>exact⟨_,"int",_,_,U,.int i,ty_int,⟨_,"bool",_,_,U,.int i,nZ,q⟩⟩
 |lst h=>exact⟨_,"int",_,_,U,.lst h,ty9l,q⟩
 |tup h=>exact⟨_,"int",_,_,U,.tup h,ty9t,q⟩
 |str h=>exact⟨_,"int",_,_,U,.str _,ty9s,q⟩
noncomputable def qT(n:_c):V->_O
 |.int i=>decide (0<=i) && decide (i<=(n:_c))
 |_=>_p
inductive pq(C Cy cS:_d)(vs:_a V)(H:Hp)(Q:VK)(E:XK):Prop
|mk(Ho:Hp)(y x:_d)(ks:_a R)(sts:_a _c)(dr sh:_c)(sd:_d)(v:V)(_:vs=[.ref y,v])(_:Gj C Cy Ho H y x ks sts dr sh sd)(_:CZ H v)(_:∀(i:_c) H',v=.int (i:_c)->i<=sts.length->SX y H H'->Gj C Cy Ho H' y x ks sts dr i sd->Q .non H')(_:∀H',Aj H H'->qT sts.length v=_p->E (.ref cS) _o H')
theorem scXh:Am pi pi<|Ae sXh:=Bc
include N T in
theorem zr:BP P w K mg base (HH P w) 3 aD.Xh pi<|pq C Cy cS:=by
 refine N.FXh.1.LQ scXh λH Z Q E c h=>?_;obtain⟨X,y,x,u,a,Y,W,V,v,rfl,O,I,q,e⟩:=h;have hu:=By c;refine⟨_,(Ac (Bg (PW.pt<|Fy (DP<|Di<|BJ N.FWh (Vd N T) c<|Aa (pv 1) Ab)<|Eu<|DP<|Fv Ei Ei Al (pv 1)<|Ay BL U T.len bt<|Aa (Dp (BX (pv 0) U) T.cl N.FOy (cZ N T) c) Ab) (Af<|Ga T.x4.rS.ex U T.x4.mS U Ih<|Aa Aw Ab) BR)
  (Af<|DG (pv 0) (pv 1) U)),?_⟩
 obtain⟨⟨m,bs,rk,p,D⟩,hn,hl⟩:=id O;obtain⟨k,fs,f,g,B,o,A,r,n⟩:=id D.c.ex;have l:=D.o.mono D.s;obtain⟨⟨⟨S,t,_,_,_,_,_,_,_,_,s,_,_,_,_,J,_⟩,_⟩,_⟩:=id l.o;refine⟨v,U,I,?_⟩
 cases v with
 |int i =>
  refine Jz<|Cz (λd=>?_)<|λd=>?_
  .refine⟨Cy,k,_,_,f,T.clR,T.nr_organ,g,S,t,s,J _<|by decide,x,m,bs,rk,u,p,a,U,l,λR G FO b F=>?_⟩;refine⟨R,_,U,oP<|.inl F,?_⟩;have lst:(nV a).length=a.length:=ah _;by_cases M:i<=((a.length:_c):_j)
   .refine ib ?_;rw[_i (show i<=(((nV a).length:_c):_j) from lst.symm▸M)];have L:0<=i:=_s d;refine⟨Cy,k,_,b _ _ f,T.clR,T.nr_shoe_step,cc r (by decide),?_⟩;obtain⟨j,rfl⟩:=iP L;exact q j _ U (by lia) ((SX.of b).trans SX.up)<|(O.mono b).put SX.up<|Dj.vo j g B o A r n Ah
   .refine ib ?_;rw[_t (show ¬ i<=(((nV a).length:_c):_j) by lia)];exact⟨by show 1<=1000;decide,e G b<|by show (decide (0<=i) && decide (i<=((a.length:_c):_j)))=_p;rw[_t M,Ă]⟩
  .exact⟨by show 1<=1000;decide,e H (Aj.refl H)<|by show (decide (0<=i) && decide (i<=((a.length:_c):_j)))=_p;rw[_t (λz=>d<|_i z),B6]⟩
 |_=>exact⟨by show 1<=1000;decide,e H (Aj.refl H) U⟩
inductive jV(pE pA:_d)(vs:_a V)(H:Hp)(Q:VK)(d0:XK):Prop
|mk(x c dx:_d)(k:_c)(_:vs=[.ref x,.int (k:_c)])(_:c=pE \/ c=pA)(_:H x=_b (.ins c dx []))(_:Q .non (upd H x (.ins c dx [("knob_set",.int (k:_c))])))
inductive qW(pE pA:_d)(vs:_a V)(H:Hp)(Q:VK)(d0:XK):Prop
|mk(x dx:_d)(k w:_c)(_:vs=[.ref x,.int (k:_c),.int (w:_c)])(_:H x=_b (.ins pA dx []))(_:∀H',SX x H H'->Iu pE pA H' x (.part k w)->Q .non H')
inductive qg(pE:_d)(vs:_a V)(H:Hp)(Q:VK)(d0:XK):Prop
|mk(x dx:_d)(k d:_c)(_:vs=[.ref x,.int (d:_c)])(_:H x=_b (.ins pE dx [("knob_set",.int (k:_c))]))(_:Q (.int (k:_c)) H)
inductive uh(pA:_d)(vs:_a V)(H:Hp)(Q:VK)(d0:XK):Prop
|mk(x dx:_d)(k w d:_c)(_:vs=[.ref x,.int (d:_c)])(_:H x=_b (.ins pA dx [("knob_set",.int (k:_c)),("whole_set",.int (w:_c))]))(_:Q (.int (((d - (d &&& w)) ||| k:_c):_j)) H)
theorem scPi:Am j5 j5<|Ae sPi:=Bc
include N T in
theorem mq:BP P w K mg base BV 1 aD.Pi j5<|jV pE pA:=by
 refine N.FPi.1.DY scPi λH g Q E d h=>?_;obtain⟨x,c,b,k,rfl,e,a,q⟩:=h;have f:=By d;refine⟨_,Af<|DG (pv 0) (pv 1) U,?_⟩;rcases e with rfl | rfl
 .exact⟨_,b,_,a,T.pis.cE,T.pis.nEk,by show 0<1000;decide,q⟩
 .exact⟨_,b,_,a,T.pis.cA,T.pis.nAk,by show 0<1000;decide,q⟩
theorem scAi:Am nN nN<|Ae sAi:=Bc
include N T in
theorem AAm:BP P w K mg base BV 2 aD.Ai nN<|qW pE pA:=by
 refine N.FAi.1.DY scAi λH f Q E b h=>?_;obtain⟨x,a,k,e,rfl,c,q⟩:=h;have d:=By b;refine⟨_,(Ac (Bq<|V0 U T.pis.mB N.cPi (mq N T) (ae b) N.FPi.2.1 .nil J7<|Aa (pv 0)<|Aa (pv 1) Ab)
  (Af<|DG (pv 0) (pv 2) U)),?_⟩
 refine⟨x,pA,a,k,U,.inr U,c,?_⟩;refine⟨pA,a,_,Ah,T.pis.cA,T.pis.nAw,by show 1<1000;decide,?_⟩;exact q _ (SX.up.trans SX.up) ⟨a,Ah⟩
theorem scEp:Am i7 i7<|Ae sEp:=Bc
include N T in
theorem vm:BP P w K mg base BV 1 aD.Ep i7<|qg pE:=by
 refine N.FEp.1.DY scEp λH f Q E b h=>?_;obtain⟨x,c,k,d,rfl,a,q⟩:=h;have e:=By b;refine⟨_,Af<|Aq<|BX (pv 0) U,?_⟩;exact⟨pE,c,_,_,a,T.pis.cE,T.pis.nEk,U,q⟩
theorem scAp:Am i7 i7<|Ae sAp:=Bc
include N T in
theorem wO:BP P w K mg base BV 1 aD.Ap i7<|uh pA:=by
 refine N.FAp.1.DY scAp λH g Q E c h=>?_;obtain⟨x,b,k,f,d,rfl,a,q⟩:=h;have e:=By c;refine⟨_,Af<|Aq<|BK QM (BK KZ (pv 1)<|Km Q_<|BX (pv 0) U)<|BX (pv 0) U,?_⟩;refine⟨pA,b,_,_,a,T.pis.cA,T.pis.nAw,U,pA,b,_,_,a,T.pis.cA,T.pis.nAk,U,?_⟩;try dsimp only
 show Q (.int _) _;rw[XD,Jo];exact q
noncomputable def Mx:V->_O
 |.int i=>decide (0<=i) && decide (i<10)
 |_=>_p
inductive kZ(vs:_a V)(H:Hp)(Q:VK)(d0:XK):Prop
|mk(v:V)(_:vs=[v])(_:CZ H v)(_:Q (.bl (Mx v)) H)
theorem scIp:Am fx fx<|Ae sIp:=Bc
include N T in
theorem lJ:BP P w K mg base BV 2 aD.Ip fx kZ:=by
 refine N.FIp.1.DY scIp λH g Q E c h=>?_;obtain⟨v,rfl,f,q⟩:=h;obtain⟨b,d⟩:=T.pis.most;refine⟨_,Af<|Aq<|Dl (BJ N.FWh (Vd N T) c<|Aa (pv 0) Ab)<|Dh<|HN Ei Gw Al (pv 0)<|Cu (v:=.int 10) U d ⟨b,U⟩,?_⟩;refine⟨v,U,f,?_⟩
 cases v with
 |int i =>
  refine Jx<|Cz (λa=>?_)<|λa=>?_
  .have e:Mx (.int i)=decide (i<10):=by
    show (decide (0<=i) && decide (i<10))=_;rw[a,hU]
   rw[e] at q;exact q
  .have e:Mx (.int i)=false:=by
    show (decide (0<=i) && decide (i<10))=_;rw[(ft _).mp a,hV]
   rw[e] at q;exact q
 |_=>exact q
theorem scOu:Am ey ey<|Ae sOu:=Bc
include N T in
theorem yg:BP P w K mg base BV 3 aD.Ou ey<|vD C:=by
 refine N.FOu.1.DY scOu λH vs Q E p h=>?_;obtain⟨x,R,bs,rk,ks,W,r,v,rfl,O,B,D,q⟩:=h;have I:=By p;obtain⟨AA,zo⟩:=T.letters;obtain⟨IL,EA⟩:=T.mostL;refine⟨_,Af<|Aq<|K4 (Di<|BJ N.FNm (Z_ N T) p<|Aa (pv 1) Ab) (SQ I (BX (pv 0) U) (pv 1) ⟨U,U,U,U⟩) Er,?_⟩;obtain⟨y,J,fs,rl,kd,ss,G,o,l1,l2,V,h2,h3,M,h5,h6,u,kb,j,g,s⟩:=id O;obtain⟨⟨yi,X,bl,F,kp,kr,f',qf,L,i6,l,m1,n,m3,m4,S,e2,e3,m,A,e6,Z,e8,e9⟩,we,Y,vF⟩:=id y.o;rw[o] at l
 cases l;rw[j] at n
 cases n;rw[g] at m
 cases m;refine⟨v,U,B,λb H1 a d=>?_⟩;refine Cz (λz=>?_)<|λz=>?_
 .obtain⟨t,rfl,f⟩:=d.mp z;refine⟨C,J,_,_,a _ _ o,T.cl,T.n_board_numbers,j,u,U,.inl ⟨_,.inl<|a _ _ g⟩,_,Dm.k (k:=Key.inr t)<|a _ _ g,?_⟩;rw[valN (λi t f=>by rw[ar] at f;obtain⟨b,d,rfl⟩:=aI.mp f;exact A i b d) s t];exact q _ a
 .have e:=Wt D λc=>z<|d.mpr c
  rw[e] at q;exact q _ a
inductive h_(C cB:_d)(vs:_a V)(H:Hp)(Q:VK)(E:XK):Prop
|mk(x:_d)(us:_a V)(bs:_a (_m×_c))(rk:_a (_m×_c×_j))(ks:_a R)(ls:_a (_a Ln:_))(sts:_a _c)(v:V)(_:vs=[.ref x,v])(_:Jv C H x us bs rk ks ls sts)(_:CZ H v)(_:∀n∈bs.map (·.1),isNm n)(_:∀t H',Aj H H'->v=.str t->t∈bs.map (·.1)->Q (.int (((bs.map (·.1)).idxOf t:_c):_j)) H')(_:∀H',Aj H H'->G9 (bs.map (·.1)) v=.non->E (.ref cB) _o H')
theorem wJ:Am qk e7<|Ae sBn:=Bc
include N T in
theorem oE:BP P w K mg base (HH P w) 4 aD.Bn e7<|h_ C cB:=by
 refine N.FBn.1.LQ wJ λH u Q E b h=>?_;obtain⟨x,g,bs,rk,s,k,a,v,rfl,O,l,m,q,r⟩:=h;have y:=By b;refine⟨_,(Ac (BZ (i:=2) wJ.nd U (Or.inl U)<|Fd (pv 0) T.cl N.FOu (yg N T) b<|Aa (pv 1) Ab)
  (Ac (Bg (Bd VD (pv 2) Er) (Af<|Ga T.x4.rB.ex U T.x4.mB U Ih<|Aa Aw Ab) BR)
  (Af<|Aq<|pv 2))),?_⟩
 obtain⟨⟨⟨n,fs,_,_,_,_,_,_,_,_,f,_,_,_,_,j,_⟩,_⟩,_⟩:=id O.o;refine⟨n,fs,f,j _<|by decide,x,g,bs,rk,s,k,a,v,U,O,l,m,λc d=>?_⟩;rcases Qu (bs.map (·.1)) v with e | ⟨t,rfl,p,e⟩
 .have o:=r c d e;rw[e];exact⟨U,⟨by show 1<=1000;decide,o⟩⟩
 .rw[e];exact⟨U,q t c d U p⟩
noncomputable def gF(ks:_a R)(t:_m)(k:_c):Bool:=match ks[k]? with
 |some r=>decide (r.rest.head? = _b (V.str t))
 |none=>_p
def G_(ks:_a R)(t:_m):Nat:=Wd.mk<|(_L ks.length).filter<|gF ks t
inductive pG(C cB:_d)(vs:_a V)(H:Hp)(Q:VK)(E:XK):Prop
|mk(x:_d)(us:_a V)(bs:_a (_m×_c))(rk:_a (_m×_c×_j))(ks:_a R)(ls:_a (_a Ln:_))(sts:_a _c)(v:V)(_:vs=[.ref x,v])(_:Jv C H x us bs rk ks ls sts)(_:CZ H v)(_:∀n∈bs.map (·.1),isNm n)(_:(bs.map (·.1)).Nodup)(_:ks.length<=100)(_:∀r∈ks,∃b∈bs,∃rs,r.rest=.str b.1::rs)(_:∀t H',Aj H H'->v=.str t->t∈bs.map (·.1)->Q (.int ((G_ ks t:_c):_j)) H')(_:∀H',Aj H H'->G9 (bs.map (·.1)) v=.non->E (.ref cB) _o H')
theorem AAQ:Am qk e7<|Ae sKb:=Bc
include N T in
theorem zq:BP P w K mg base (HH P w) 5 aD.Kb e7<|pG C cB:=by
 have o:BP P w K mg base (HH P w) 4 aD.Bn e7<|h_ C cB:=oE N T
 refine N.FKb.1.LQ AAQ λH vs Q E d h=>?_;obtain⟨x,Z,bs,rk,a,ls,m,v,rfl,O,hv,A,nd,hl,re,q,qe⟩:=h;have hu:=By d;refine⟨_,(Ac (BZ (i:=2) AAQ.nd U (Or.inr U)<|BJ N.FBn o d<|Aa (pv 0)<|Aa (pv 1) Ab)
  (Af<|Aq<|BJ N.FSt (Qf N T) d<|Aa (Bp U (Bb (osc:=Ae sKb) (N:=qk) U U<|by decide) (Dk U T.range<|Aa (Ay BL U T.len bt<|Aa (Dp (pv 0) T.cl N.FOz (fQ N T) d) Ab) Ab) (λ_ _ _ _=>(G7<|Bd Bt (Fd (pv 1) T.cl N.FBk (Xf N T) d<|Aa (pv 0) Ab)<|pv 3))<|λ_ _ _ _=>(pv 0)) Ab)),?_⟩
 refine⟨x,Z,bs,rk,a,ls,m,v,U,O,hv,A,λt M g ev s=>?_,λM g e=>qe M g e⟩;subst ev;have y:=O.mono g;obtain⟨⟨⟨dx,fs,_,_,_,_,_,_,_,_,h1,_,_,_,_,lm,_⟩,_⟩,_⟩:=id y.o;refine⟨dx,fs,h1,lm _<|by decide,x,_,_,U,y.o.o,λD2 u H2 vT I q2 p2=>?_⟩;have F:u.length=a.length:=p2.length.symm;refine⟨D2,_,U,oP<|.inl q2,_,U,by lia,by lia,Kc (lo:=0) (n:=u.length) (λz=>gF a t z.toNat) (λz=>.int z) (Ax<|by lia) (λi hi f S R l=>?_) (λi hi _ f S R l=>l f<|Aj.refl f)<|λD3 H3 DF s3 X=>?_⟩
 .have ei:(0:_j)+((i:_c):_j)=((i:_c):_j):=by lia
  rw[ei] at l |-;obtain⟨r,d⟩:∃r,a[i]? = _b r:=⟨_,af<|wT hi F⟩;obtain⟨b,hb,Y,W⟩:=re r<|ai d;obtain⟨j,L⟩:=dS hb;have e1:gF a t i=decide (V.int ((j:_c):_j)=V.int (((bs.map (·.1)).idxOf t:_c):_j)):=by
   unfold gF;rw[d];show decide (r.rest.head? = _b (V.str t))=_;rw[W,IC];have c:(bs.map (·.1))[j]? = _b b.1:=by rw[ar,L];rfl
   constructor
   .intro z;have B:b.1=t:=V.str.inj<|_h z
    rw[B] at c;have G:=(ag.mp c).1;rw[(kU G nd).mp (c.trans (Gv s).symm)]
   .intro z;have B:j=(bs.map (·.1)).idxOf t:=by have:=V.int.inj z;lia
    rw[B,Gv s] at c;show _b (V.str b.1)=_b (V.str t);rw[<-_h c]
  obtain⟨ZT,rn,rr⟩:=r;obtain rfl:rr=.str b.1::Y:=W;have J:=(y.mono I).mono S;obtain⟨⟨⟨yi,rp,_,_,_,_,_,_,_,_,p,_,_,_,_,D,_⟩,_⟩,_⟩:=id J.o;refine⟨yi,rp,p,D _<|by decide,x,bs,a,i,j,b,ZT,rn,Y,U,J.o.o,d,L,U,?_⟩;have:=l f<|Aj.refl f
  rw[bp,e1] at this;exact this
 have el:((((_L u.length).map λ(i:_c)=>(0:_j)+(i:_j)).filter λz=>gF a t z.toNat).map λz=>V.int z)=nV ((_L a.length).filter<|gF a t):=by
  rw[F,fg,bb];have ef:((λz:_j=>gF a t z.toNat) ∘ λ(i:_c)=>(0:_j)+(i:_j))=gF a t:=by
   funext k;show gF a t ((0:_j)+(k:_j)).toNat=gF a t k;rw[iE,bp]
  rw[ef];unfold nV;refine fN λk _=>?_;show V.int ((0:_j)+(k:_j))=V.int (k:_j);rw[iE]
 rw[el] at X;refine⟨D3,_,U,X,cq (cr _ _)<|by rw[fT];exact rx hl (by decide),λn A=>?_,λH4 s4=>q t H4 (g.trans<|I.trans<|s3.trans s4) U s⟩;have:=fF.mp (be.mp A).1;exact bq this (rx hl (by decide))
structure uz(bs:_a<|_m×_c)(ks:_a R):Prop where
 bn:∀n∈bs.map (·.1),isNm n
 bd:(bs.map (·.1)).Nodup
 kn:∀n∈I_ ks,isNm n
 kd:(I_ ks).Nodup
 kl:ks.length<=12
 kb:∀r∈ks,∃b∈bs,∃rs,r.rest=.str b.1::rs
structure Ey(C Cy pE pA:_d)(Ho H:Hp)(y x:_d)(bs:_a<|_m×_c)(ks:_a R)(sts:_a _c)(dr sh:_c)(sd:_d)(m:_c->_r Ps)(c:_c):Prop where
 o:∃us rk ls,sJ C Cy Ho H y x us bs rk ks ls sts dr sh sd
 f:uz bs ks
 hs:Ho sd=_o
 ny:sd≠y
 st:di pE pA H sd m c
section
variable{bs:_a (_m×_c)}{DM B9:_c}{m m':_c->_r Ps}{c c':_c}
theorem Ey.ok(h:Ey C Cy pE pA Ho H y x bs ks sts dr sh sd m c):Gj C Cy Ho H y x ks sts dr sh sd:=by
 obtain⟨d,rk,b,a⟩:=h.o;exact⟨⟨d,bs,rk,b,a⟩,h.f.kn,by have:=h.f.kl;exact rx this (by decide)⟩
theorem Ey.mono(s:Aj H H')(h:Ey C Cy pE pA Ho H y x bs ks sts dr sh sd m c):Ey C Cy pE pA Ho H' y x bs ks sts dr sh sd m c:=by
 obtain⟨d,rk,b,a⟩:=h.o;exact⟨⟨d,rk,b,a.mono s⟩,h.f,h.hs,h.ny,h.st.mono s⟩
theorem Ey.at(h:Ey C Cy pE pA Ho H y x bs ks sts dr sh sd m c):Dj Cy H y x dr sh sd:=by
 obtain⟨d,rk,b,a⟩:=h.o;exact a.c
theorem Ey.not(h:Ey C Cy pE pA Ho H y x bs ks sts dr sh sd m c){o:_d}{ps:Ps}(f:Iu pE pA H o ps):o≠y/\o≠sd:=by
 obtain⟨q,fs,g,i,_⟩:=h.at.ex;obtain⟨n,j,_⟩:=h.st.ex;have b:∃c a d,H o=_b (.ins c a d)/\d.lookup ("organ" : _m)=none:=by
  cases ps with
  |every k =>
   obtain⟨a,e⟩:=f;exact⟨_,_,_,e,by rw[Ω,show (("organ" : _m) == "knob_set")=_p by decide];rfl⟩
  |part k w =>
   obtain⟨a,e⟩:=f;exact⟨_,_,_,e,by rw[Ω,show (("organ" : _m) == "knob_set")=_p by decide];show Á _ _=_o;rw[Ω,show (("organ" : _m) == "whole_set")=_p by decide];rfl⟩
 obtain⟨p,a,d,e,l⟩:=b;refine⟨λz=>?_,λz=>by rw[z,j] at e;cases e⟩;rw[z,g] at e
 cases e;rw[i] at l
 cases l
theorem Ey.put(h:Ey C Cy pE pA Ho H y x bs ks sts dr sh sd m c)(s:SX y H H')(a:Dj Cy H' y x DM B9 sd):Ey C Cy pE pA Ho H' y x bs ks sts DM B9 sd m c:=by
 obtain⟨i,rk,k,d⟩:=h.o;obtain⟨f,l,t,u,v⟩:=h.st.ex;refine⟨⟨i,rk,k,d.o,λb o e=>s b o (d.s b o e)<|Ag e d.n,d.n,a⟩,h.f,h.hs,h.ny,f,s _ _ l h.ny,t,u,λp j n r=>?_⟩;obtain⟨o,q,g⟩:=v p j n r;exact⟨o,q,g.keep λ_ _ _ e=>s _ _ e (h.not g).1⟩
end
noncomputable def Mw(m:_c->_r Ps)(p:_c)(ps:Ps):_c->_r Ps:=λq=>if q=p then _b ps else m q
theorem gW(kvs:_a<|Key×V)(k:Key)(v:V):(putK kvs k v).length<=kvs.length+1:=by
 unfold putK;split
 .rw[ah];exact zor _ _
 .rw[am];exact al _
theorem Wk{v:V}(h:Mx v=_g):∃p:_c,v=.int (p:_c)/\p<10:=by
 cases v with
 |int i =>
  have a:(decide (0<=i) && decide (i<10))=true:=h;rw[eM,_H,_H] at a;obtain⟨j,rfl⟩:=iP a.1;exact⟨j,U,by lia⟩
 |_=>cases h
theorem pK{p:_c}(h:p<10):Mx (.int (p:_c))=true:=by
 show (decide (0<=(p:_j)) && decide ((p:_j)<10))=_g;rw[_i (ja p),_i<|by lia];rfl
section
variable{bs:_a (_m×_c)}{DM B9:_c}{m m':_c->_r Ps}{c c':_c}
theorem Ey.keep(h:Ey C Cy pE pA Ho H y x bs ks sts dr sh sd m c){p:_c}{ps:Ps}{o:_d}(e:H sd=_b (.dK kvs))(F:kvs.length<=c)(v:∀p,p<10->m p=_o->CW kvs (Key.inl (p:_c))=_o)(r:∀p ps,p<10->m p=_b ps->∃o,CW kvs (Key.inl (p:_c))=_b (.ref o)/\Iu pE pA H o ps)(k:Iu pE pA H o ps) :
  Ey C Cy pE pA Ho (upd H sd<|.dK<|putK kvs (Key.inl (p:_c))<|.ref o) y x bs ks sts dr sh sd (Mw m p ps) (c+1):=by
 obtain⟨t,rk,u,g⟩:=h.o;have up:SX sd H<|upd H sd<|.dK<|putK kvs (Key.inl (p:_c))<|.ref o:=SX.up
 have i:∀{o ps},Iu pE pA H o ps->Iu pE pA (upd H sd<|.dK<|putK kvs (Key.inl (p:_c))<|.ref o) o ps:=λ{_ _} f=>f.keep λ_ _ _ e=>by
  rw[Ak (h.not f).2];exact e
 have ne:∀q:_c,¬ q=p->¬ (Key.inl ((q:_c):_j):Key)=Key.inl ((p:_c):_j):=λq d z=>d (by have:=Key.inl.inj z;lia);refine⟨⟨t,rk,u,g.o,λb l j=>up b l (g.s b l j) (λz=>by rw[z,h.hs] at j;cases j),g.n,?_⟩,h.f,h.hs,h.ny,_,Ah,cq (gW _ _ _) (md F),λq d a=>?_,λq w d a=>?_⟩
 .obtain⟨B,fs,E,A⟩:=g.c.ex;exact⟨B,fs,by rw[Ak (_J h.ny)];exact E,A⟩
 .unfold Mw at a;by_cases z:q=p
  .rw[_n z] at a
   cases a
  .rw[_l z] at a;rw[Ht,_l<|ne q z];exact v q d a
 .unfold Mw at a;by_cases z:q=p
  .rw[_n z] at a
   cases a;subst z;exact⟨o,by rw[Ht,_n U],k.keep λ_ _ _ e=>by rw[Ak (h.not k).2];exact e⟩
  .rw[_l z] at a;obtain⟨s,D,n⟩:=r q w d a;exact⟨s,by rw[Ht,_l<|ne q z];exact D,n.keep λ_ _ _ e=>by rw[Ak (h.not n).2];exact e⟩
end
inductive o7(C Cy pE pA:_d)(vs:_a V)(H:Hp)(Q:VK)(d0:XK):Prop
|mk(Ho:Hp)(y x:_d)(bs:_a (_m×_c))(ks:_a R)(sts:_a _c)(dr sh:_c)(sd:_d)(m:_c->_r Ps)(c:_c)(_:vs=[.ref y])(_:Ey C Cy pE pA Ho H y x bs ks sts dr sh sd m c)(_:∀H',SX y H H'->Ey C Cy pE pA Ho H' y x bs ks sts 0 0 sd m c->Q .non H')
inductive rJ(C Cy pE pA cP:_d)(vs:_a V)(H:Hp)(Q:VK)(E:XK):Prop
|mk(Ho:Hp)(y x:_d)(bs:_a (_m×_c))(ks:_a R)(sts:_a _c)(dr sh:_c)(sd:_d)(m:_c->_r Ps)(c:_c)(v:V)(_:vs=[.ref y,v])(_:Ey C Cy pE pA Ho H y x bs ks sts dr sh sd m c)(_:CZ H v)(_:∀(p:_c) ps H',v=.int (p:_c)->p<10->m p=_b ps->SX y H H'->Ey C Cy pE pA Ho H' y x bs ks sts (ps.put dr) sh sd m c->Q .non H')(_:∀H',Aj H H'->(∀p:_c,v=.int (p:_c)->p<10->m p=_o)->E (.ref cP) _o H')
inductive pF(C Cy pE pA cP cB:_d)(vs:_a V)(H:Hp)(Q:VK)(E:XK):Prop
|mk(Ho:Hp)(y x:_d)(bs:_a (_m×_c))(ks:_a R)(sts:_a _c)(dr sh:_c)(sd:_d)(m:_c->_r Ps)(c:_c)(v b:V)(_:vs=[.ref y,v,b])(_:Ey C Cy pE pA Ho H y x bs ks sts dr sh sd m c)(_:c<900)(_:CZ H v)(_:CZ H b)(_:∀(p:_c) H',v=.int (p:_c)->p<10->b=.non->SX sd H H'->Ey C Cy pE pA Ho H' y x bs ks sts dr sh sd (Mw m p (.every dr)) (c+1)->Q .non H')(_:∀(p:_c) t H',v=.int (p:_c)->p<10->b=.str t->t∈bs.map (·.1)->SX sd H H'->Ey C Cy pE pA Ho H' y x bs ks sts dr sh sd (Mw m p (.part (dr &&& G_ ks t) (G_ ks t))) (c+1)->Q .non H')(_:∀H',Aj H H'->Mx v=_p->E (.ref cP) _o H')(_:∀H',Aj H H'->Mx v=_g->b≠.non->G9 (bs.map (·.1)) b=.non->E (.ref cB) _o H')
theorem scXc:Am dv dv<|Ae sXc:=Bc
include N T in
theorem wg:BP P w K mg base BV 2 aD.Xc dv<|o7 C Cy pE pA:=by
 refine N.FXc.1.DY scXc λH S Q E a h=>?_;obtain⟨J,y,x,bs,M,g,p,k,j,m,c,rfl,O,q⟩:=h;have W:=By a;refine⟨_,(Ac (Bq<|Fd (pv 0) T.clR N.FXd (Xl N T) a<|Aa Al Ab)
  (Af<|DG (pv 0) Al U)),?_⟩
 obtain⟨z,rk,B,D⟩:=id O.o;obtain⟨o,fs,f,F,R,A,L,I,i⟩:=id D.c.ex;refine⟨o,fs,f,i _<|by decide,y,x,p,k,j,0,U,D.c,λV b d=>?_⟩;obtain⟨r,G,n,l,t,v,s,u,e⟩:=id d.ex;refine⟨Cy,r,_,n,T.clR,T.nr_shoe_step,cc u (by decide),?_⟩;exact q _ (b.trans SX.up)<|(O.put b d).put SX.up<|Dj.vo 0 l t v s u e Ah
theorem scXr:Am ou ou<|Ae sXr:=Bc
include N T in
theorem ye:BP P w K mg base (HH P w) 3 aD.Xr ou<|rJ C Cy pE pA cP:=by
 refine N.FXr.1.LQ scXr λH vs Q E g h=>?_;obtain⟨Ho,y,x,bs,ks,G,j,R,L,m,c,v,rfl,O,hv,q,s⟩:=h;have A:=By g;refine⟨_,(Ac (Bg (PW.pt<|Fy (DP<|Di<|BJ N.FIp (lJ N T) g<|Aa (pv 1) Ab)<|Eu<|PP<|Ma A (pv 1)<|BX (pv 0) U) (Af<|Ga T.x4.rP.ex U T.x4.mP U Ih<|Aa Aw Ab) BR)
  (Af<|Bq<|Fd (pv 0) T.clR N.FXd (Xl N T) g<|Aa (dw (DK A (BX (pv 0) U) (pv 1)<|λ_ _=>rfl) T.pis.cE N.FEp.2.2 (vm N T) N.FEp.2.1 T.pis.cA N.FAp.2.2 (wO N T) N.FAp.2.1 (ae g) J7<|Aa (BX (pv 0) U) Ab) Ab)),?_⟩
 obtain⟨us,rk,ls,D⟩:=id O.o;obtain⟨d,fs,a,l1,z,l3,t,l5,J⟩:=id D.c.ex;obtain⟨X,r,d2,d3,d4⟩:=id O.st.ex;refine⟨v,U,hv,?_⟩
 cases hb:Mx v with
 |false =>
  refine⟨by show 1<=1000;decide,s H (Aj.refl H) λp l b=>?_⟩;rw[l,pK b] at hb
  cases hb
 |true =>
  obtain⟨p,rfl,b⟩:=Wk hb;refine⟨Cy,d,_,_,a,T.clR,T.nr_stored,t,_,Dm.k (k:=Key.inl ((p:_c):_j)) r,?_⟩
  cases hm:m p with
  |none =>
   rw[d3 p b hm];exact⟨by show 1<=1000;decide,s H (Aj.refl H) λM l _=>by rw[show M=p by have:=V.int.inj l;lia];exact hm⟩
  |some i =>
   obtain⟨o,B,F⟩:=d4 p i b hm;rw[B];refine⟨d,fs,a,J _<|by decide,Cy,d,_,_,a,T.clR,T.nr_stored,t,_,B ▸ Dm.k (k:=Key.inl ((p:_c):_j)) r,?_⟩;have fin:∀{E0:XK}(n:_c),n=i.put j->VM Cy [.ref y,.int (n:_c)] H (λ_ W=>Q .non W) E0:=λn Y=>⟨y,x,j,R,L,n,U,D.c,λZ u I=>q p i Z U b hm u<|Y ▸ O.put u I⟩
   cases i with
   |every k =>
    obtain⟨f,e⟩:=F;refine⟨o,f,_,U,by rw[Ω,show (("put" : _m) == "knob_set")=_p by decide];rfl,.inl ⟨e,Cy,d,_,_,a,T.clR,T.nr_drawn_set,z,o,f,k,j,U,e,fin k U⟩⟩
   |part k S =>
    obtain⟨f,e⟩:=F;refine⟨o,f,_,U,by rw[Ω,show (("put" : _m) == "knob_set")=_p by decide];show Á _ _=_o;rw[Ω,show (("put" : _m) == "whole_set")=_p by decide];rfl,.inr ⟨e,Cy,d,_,_,a,T.clR,T.nr_drawn_set,z,o,f,k,S,j,U,e,fin _ U⟩⟩
theorem zJ:Am ["self","piston","board","whole"] gp (Ae R1):=Bc
include N T in
theorem yE:BP P w K mg base (HH P w) 6 aD.Xt gp<|pF C Cy pE pA cP cB:=by
 have S:BP P w K mg base (HH P w) 5 aD.Kb e7<|pG C cB:=zq N T
 refine N.FXt.1.LQ zJ λH vs Q E r h=>?_;obtain⟨Ho,y,x,bs,ks,s,n,sh,I,m,c,v,b,rfl,O,hc,hv,hb,q1,q2,X,UA⟩:=h;have hu:=By r;refine⟨_,(Ac (Bg (DP<|Di<|BJ N.FIp (lJ N T) r<|Aa (pv 1) Ab) (Af<|Ga T.x4.rP.ex U T.x4.mP U Ih<|Aa Aw Ab) BR)
  (Af (Bg (Bd VD (pv 2) Er) (Af<|Gz hu (BX (pv 0) U) (pv 1) (Kr N.FPi.2.2 (mq N T) (r.mono<|by decide) U T.pis.mE N.FPi.2.1 .nil J7<|Aa (BX (pv 0) U) Ab) U) (Ac (BZ (i:=3) zJ.nd U (Or.inl U)<|BJ N.FKb S r<|Aa (BX (pv 0) U)<|Aa (pv 2) Ab)
  (Af<|Gz hu (BX (pv 0) U) (pv 1) (Kr N.FAi.2.2 (AAm N T) (r.mono<|by decide) U T.pis.mA N.FAi.2.1 .nil J7<|Aa (BK KZ (BX (pv 0) U)<|pv 3)<|Aa (pv 3) Ab) U))))),?_⟩
 obtain⟨us,rk,ls,D⟩:=id O.o;obtain⟨z,fs,q,l1,l2,l3,l4,l5,lm⟩:=id D.c.ex;refine⟨v,U,hv,?_⟩
 cases hk:Mx v with
 |false=>exact⟨by show 1<=1000;decide,X H (Aj.refl H) hk⟩
 |true =>
  obtain⟨p,rfl,Z⟩:=Wk hk;refine Jz ?_;have u:∀f,Aj H f->∀(o:_d)(G:Ps),Iu pE pA f o G->∃g,Mr f I (.int ((p:_c):_j)) (.ref o) g/\SX I H g/\Ey C Cy pE pA Ho g y x bs ks s n sh I (Mw m p G) (c+1):=λf j o G ET=>by
   obtain⟨ab,Y,d2,d3,d4⟩:=(O.mono j).st.ex;exact⟨_,Mr.k (k:=Key.inl ((p:_c):_j)) Y<|Ax<|fR (cc d2 (bq hc (by decide))),(SX.of j).trans SX.up,(O.mono j).keep Y d2 d3 d4 ET⟩
  by_cases L:b=.non
  .subst L;refine⟨U,⟨Cy,z,_,_,q,T.clR,T.nr_drawn_set,l2,λo d A R W=>?_⟩⟩;refine⟨o,pE,d,n,U,.inl U,Ah,U,?_⟩;have l:Aj H<|upd (upd (upd H d<|.own o) o<|.ins pE d []) o<|.ins pE d [("knob_set",.int (n:_c))]:=λa ob e=>by
    rw[Ak (Ag e A),Ak<|Ag e A,Ak<|Ag e R];exact e
   have B:Iu pE pA (upd (upd (upd H d<|.own o) o<|.ins pE d []) o<|.ins pE d [("knob_set",.int (n:_c))]) o<|.every n:=⟨d,Ah⟩
   generalize (upd (upd (upd H d (.own o)) o (.ins pE d [])) o (.ins pE d [("knob_set",.int (n:_c))]))=f at l B |-;obtain⟨g,J,M,F⟩:=u f l o _ B;exact⟨Cy,z,_,_,l _ _ q,T.clR,T.nr_stored,l4,g,J,q1 p g U Z U M F⟩
  .have ZA:(decide (b=V.non))=false:=_t L;refine⟨U,?_⟩;rw[ZA];refine⟨Cy,z,_,_,q,T.clR,T.nr_organ,l1,x,us,bs,rk,ks,ls,s,b,U,D.o.mono D.s,hb,O.f.bn,O.f.bd,cq O.f.kl<|by decide,O.f.kb,λt f j ev ht=>?_,λf j e=>UA f j hk L e⟩;subst ev;refine⟨Cy,z,_,_,j _ _ q,T.clR,T.nr_drawn_set,l2,λo d A R W=>?_⟩;try dsimp only
   rw[PJ];refine⟨o,d,_,_,U,Ah,λg c2 B=>⟨U,?_⟩⟩;have l:Aj f g:=λa ob e=>c2 a ob (by rw[Ak (Ag e A),Ak<|Ag e R];exact e)<|Ag e A
   obtain⟨H3,J,M,F⟩:=u g (j.trans l) o _ B;exact⟨Cy,z,_,_,l _ _<|j _ _ q,T.clR,T.nr_stored,l4,H3,J,q2 p t H3 U Z U ht M F⟩
inductive oY(K:_q)(vs:_a V)(H:Hp)(Q:VK)(d0:XK):Prop
|mk(a:_d)(k:_c)(ns:_a _j)(_:vs=[.ref a,.int (k:_c)])(_:Dd K H a (ns.map V.int))(_:Q (.int (ns.getD k 0)) H)
theorem scCe:Am gq gq<|Ae sCe:=Bc
include N T in
theorem ww:BP P w K mg base BV 1 aD.Ce gq<|oY K:=by
 refine N.FCe.1.DY scCe λH i Q E g h=>?_;obtain⟨a,k,e,rfl,f,q⟩:=h;refine⟨_,(Ac (Bg (Bd Gw (pv 1)<|Ay BL U T.len bt<|Aa (pv 0) Ab) (Af<|Aq<|Gi En (pv 0) (pv 1)<|λ_ _=>rfl) BR)
  (Af<|Aq Al)),?_⟩
 refine⟨a,_,U,.inl f,?_⟩;rw[aS] at q;refine Cz (λc=>?_)<|λc=>?_
 .have b:k<e.length:=by have:=_s c;rw[ah] at this;lia
  rw[af b] at q;exact⟨_,.int e[k],f,Av<|by rw[ar,af b];rfl,q⟩
 .have d:e.length<=k:=by
   rw[ah,_H] at c;lia
  rw[eD d] at q;exact q
noncomputable def Oh(c b m:_j):Int:=(c % 1000003+7) * b % 2147483647 * ((c % 1000003+7) * b % 2147483647) % 2147483629 / 64 % m
theorem WW(c b:_j){m:_j}(a:0<m):0<=Oh c b m/\Oh c b m<m:=⟨kM _<|YP a,jp _ a⟩
inductive tu(vs:_a V)(H:Hp)(Q:VK)(d0:XK):Prop
|mk(c b m:_j)(_:vs=[.int c,.int b,.int m])(_:0<m)(_:0<=b)(_:b<4611686018427387904)(_:Q (.int (Oh c b m)) H)
theorem AAp:Am ["_law_cell","_law_by","_law_many","_law_number"] kw (Ae sMi):=Bc
include N T in
theorem wU:BP P w K mg base BV 1 aD.Mi kw tu:=by
 refine N.FMi.1.DY AAp λH j Q E f h=>?_;obtain⟨c,b,m,rfl,d,g,a,q⟩:=h;refine⟨_,(Ac (BZ (i:=3) AAp.nd U (Or.inl U)<|BK FW (BK JL (BK Bu (BK FW (pv 0) Al) Al)<|pv 1) Al)
  (Af<|Aq<|BK FW (BK Rk (BK FW (BK JL (pv 3)<|pv 3) Al) Al)<|pv 2)),?_⟩
 refine⟨(by show (0:_j)<1000003;decide),.inr ⟨by lia,zad a (by decide)⟩,(by show (0:_j)<2147483647;decide),?_⟩;have k:0<=(c % 1000003+7) * b % 2147483647:=kM _<|by decide
 have e:(c % 1000003+7) * b % 2147483647<2147483647:=jp _<|by decide
 exact⟨.inl ⟨by lia,zad e (by decide)⟩,(by show (0:_j)<2147483629;decide),⟨by decide,by decide⟩,d,q⟩
def SrcAt(H:Hp)(p:_d):Prop:=∃u s:_j,H p=_b (.lst [.int u,.int s])/\0<=u/\0<=s/\s<2147483647
theorem SrcAt.mono(s:Aj H H')(h:SrcAt H p):SrcAt H' p:=by
 obtain⟨u,r,a,b⟩:=h;exact⟨u,r,s _ _ a,b⟩
def gC(H H':Hp)(p:_d):Prop:=∀b,b≠p->H' b=H b
inductive kE(K:_q)(vs:_a V)(H:Hp)(Q:VK)(d0:XK):Prop
|mk(a:_d)(k:_c)(ns:_a _j)(_:vs=[.ref a,.int (k:_c)])(_:Dd K H a (ns.map V.int))(_:k<=1000)(_:∀p H',H p=_o->Aj H H'->SrcAt H' p->Q (.ref p) H')
theorem uV:Am ["_law_script","_law_k","_law_cell","_law_seed"] gq (Ae sLo):=Bc
include N T in
theorem lW:BP P w K mg base BV 2 aD.Lo gq<|kE K:=by
 refine N.FLo.1.DY uV λH i Q E e h=>?_;obtain⟨a,k,d,rfl,f,j,q⟩:=h;refine⟨_,(Ac (Be 2 uV.nd U (Or.inl U) (BJ N.FCe (ww N T) e<|Ao U (pv 0)<|Ao U (pv 1) Ab) (by kernel_rfl)<|.inl U)
  (Ac (Be 3 uV.nd U (Or.inl U) (BK FW (BK JL (BK Bu (BK Bu (BK FW (pv 2) Al)<|BK JL Al<|pv 1) Al) Al) Al) (by kernel_rfl)<|.inl U)
  (Af<|Aq<|Cm<|Ao U (BK JL (pv 2)<|Ci HJ U T.int gc<|Ao U (DX nH (pv 2) (BK Vr Al Al)<|Et _) Ab)<|Ao U (pv 3) Ab))),?_⟩
 refine⟨a,k,d,U,f,?_⟩;generalize d.getD k 0=c;have g:0<=c % 1000003/\c % 1000003<1000003:=⟨kM _<|by decide,jp _<|by decide⟩;refine⟨(by show (0:_j)<1000003;decide),.inl ⟨by decide,by decide⟩,.inr ⟨by decide,by decide⟩,(by show (0:_j)<2147483647;decide),?_⟩;refine⟨⟨by decide,by decide,by decide⟩,.inr ⟨_,U,.inr ⟨?_,?_⟩,CV (by simp),λp b=>?_⟩⟩
 .split <;> decide
 .split <;> decide
 .refine q p _ b (A_ b) ⟨_,_,Ah,?_,kM _<|by decide,jp _<|by decide⟩;by_cases h:(10:_j) ^ (18:_j).toNat<=c
  .rw[_i h,_n U,oI];have:(0:_j)<=10 ^ (18:_j).toNat:=by decide
   exact YU this h
  .rw[_t h,_l eI,Int.mul_zero];decide
inductive eQ(vs:_a V)(H:Hp)(Q:VK)(d0:XK):Prop
|mk(p:_d)(m:_j)(_:vs=[.ref p,.int m])(_:SrcAt H p)(_:0<m)(_:m<1073741824)(_:∀(z:_c) H',((z:_c):_j)<m->gC H H' p->SrcAt H' p->Q (.int (z:_c)) H')
theorem zu:Am ["_law_source_here","_law_many","_law_digit"] l7 (Ae sDw):=Bc
include N T in
theorem fj:BP P w K mg base BV 1 aD.Dw l7 eQ:=by
 refine N.FDw.1.DY zu λH G Q E F h=>?_;obtain⟨p,m,rfl,⟨u,a,k,v,D,n⟩,f,B,q⟩:=h;refine⟨_,(Ac (Bg (Bd R3 (@Gi _ _ _ _ _ _ _ En (pv 0) Al<|λ_ _=>rfl) Al) (Ac (Be 2 zu.nd U (Or.inl U) (BK FW (@Gi _ _ _ _ _ _ _ En (pv 0) Al<|λ_ _=>rfl)<|pv 1) (by kernel_rfl)<|.inl U)
  (Ac (Ph (BK Rk (@Gi _ _ _ _ _ _ _ En (pv 0) Al<|λ_ _=>rfl)<|pv 1)<|cL (pv 0) Al set_list)
  (Af<|Aq<|pv 2))) BR)
  (Ac (Ph (BK FW (BK Bu (BK JL (@Gi _ _ _ _ _ _ _ En (pv 0) Al<|λ_ _=>rfl) Al) Al) Al)<|cL (pv 0) Al set_list)
  (Af<|Aq<|BK FW (BK Rk (BK FW (BK JL (@Gi _ _ _ _ _ _ _ En (pv 0) Al<|λ_ _=>rfl)<|@Gi _ _ _ _ _ _ _ En (pv 0) Al<|λ_ _=>rfl) Al) Al)<|pv 1))),?_⟩
 have y:∀(z:_j) e,0<=z->z<m->gC H e p->SrcAt e p->Q (.int z) e:=λz e C A=>by
  obtain⟨r,rfl⟩:=iP C;exact q r e A
 have i:Dd K H p [V.int u,V.int a]:=.inl<|.inl k
 refine⟨_,_,i,U,Cz (λg=>?_)<|λg=>?_⟩
 .refine⟨_,_,i,U,f,?_⟩;refine⟨_,_,i,U,⟨f,B⟩,p,_,0,0,U,U,k,U,?_⟩;exact y (u % m) _ (kM _<|YP f) (jp _ f) (λb j=>Ak j) ⟨u / m,a,Ah,Int.ediv_nonneg v<|ST f,D,n⟩
 .refine⟨_,_,i,U,.inr ⟨by decide,by decide⟩,(by show (0:_j)<2147483647;decide),p,_,1,1,U,U,k,U,?_⟩;try dsimp only
  have o:=Ĥ (a * 48271+11) (show (2147483647:_j)≠0 by decide);have t:=ĉ (a * 48271+11) (show (0:_j)<2147483647 by decide);generalize (a * 48271+11) % 2147483647=c at o t |-;have l:upd H p (HO.lst<|[V.int u,V.int a].set 1 (V.int c)) p=_b (.lst [V.int u,V.int c]):=Ah;have x:gC H (upd H p<|HO.lst<|[V.int u,V.int a].set 1 (V.int c)) p:=λb j=>Ak j;generalize upd H p (HO.lst ([V.int u,V.int a].set 1 (V.int c)))=s at l x |-;have d:Dd K s p [V.int u,V.int c]:=.inl<|.inl l
  exact⟨_,_,d,U,_,_,d,U,.inl ⟨by lia,zad t (by decide)⟩,(by show (0:_j)<2147483629;decide),⟨by decide,by decide⟩,f,y _ s (Ĥ _<|YP f) (ĉ _ f) x ⟨u,c,l,v,o,t⟩⟩
def Tu(c:_j):Nat:=(1+Oh c 950706376 8).toNat
theorem cz(c:_j):1<=Tu c/\Tu c<=8:=by
 have:=WW c 950706376 (m:=8)<|by decide
 unfold Tu;lia
theorem AAL(c:_j):1+Oh c 950706376 8=((Tu c:_c):_j):=by
 have:=WW c 950706376 (m:=8)<|by decide
 unfold Tu;lia
def Z1(c:_j):Nat:=(Oh c 742938285 (Tu c:_c)).toNat
theorem m8(c:_j):Z1 c<Tu c/\Oh c 742938285 (Tu c:_c)=((Z1 c:_c):_j):=by
 have h:=WW c 742938285 (m:=((Tu c:_c):_j)) (by have:=(cz c).1;exact BT.mpr (bq (gx _) this));unfold Z1;lia
noncomputable def cF(c:_j)(n:_c)(i:_j):Nat:=97+((Oh (c+i) 62089911 26+(n:_j) * (if decide (V.int i=V.int ((Z1 c:_c):_j))=_g then 1 else 0)) % 26).toNat
theorem cF_b(c:_j)(n:_c)(i:_j):97<=cF c n i/\cF c n i<=122:=by
 unfold cF;have b:=Ĥ (Oh (c+i) 62089911 26+(n:_j) * (if decide (V.int i=V.int ((Z1 c:_c):_j))=_g then 1 else 0)) (show (26:_j)≠0 by decide);have a:=ĉ (Oh (c+i) 62089911 26+(n:_j) * (if decide (V.int i=V.int ((Z1 c:_c):_j))=_g then 1 else 0)) (show (0:_j)<26 by decide);lia
def U8(c:_j)(n:_c):_a Nat:=(_L<|Tu c).map λj:_c=>cF c n<|(0:_j)+(j:_j)
def Iv(c:_j)(n:_c):Str:=⟨(U8 c n).toArray⟩
theorem W5(c:_j)(n:_c):(U8 c n).length=Tu c:=by unfold U8;rw[Τ,List.length_range]
theorem jG(l:_a _c):Txt.join ("" : _m) (l.map λx=>(⟨#[x]⟩:_m))=(⟨l.toArray⟩:_m):=by
 have h:=VR l;generalize Txt.join ("" : _m) (l.map λx=>(⟨#[x]⟩:_m))=z at h;obtain⟨a⟩:=z;have b:a.toList=l:=h;rw[<-b]
theorem Ij(c:_j)(n:_c):isNm<|Iv c n:=by
 have hl:(Iv c n).length=Tu c:=by
  have:=W5 c n;show (U8 c n).toArray.size=Tu c;rw[bo];exact this
 have b:=cz c;refine⟨by rw[hl];exact b.1,by rw[hl];exact b.2,λx d=>?_⟩;have a:x∈U8 c n:=d;unfold U8 at a;obtain⟨j,_,rfl⟩:=ay.mp a;exact cF_b c n _
theorem Lz{n':_c}(h:n<26)(h':n'<26)(e:Iv c n=Iv c n'):n=n':=by
 have d:(U8 c n).toArray=(U8 c n').toArray:=congrArg _m.cps e;have g:U8 c n=U8 c n':=by
  have:=congrArg ű d;exact this
 have f:=(m8 c).1;have a:(U8 c n)[Z1 c]? = (U8 c n')[Z1 c]?:=by rw[g]
 unfold U8 at a;rw[ar,ar,uA f] at a;have b:cF c n ((0:_j)+((Z1 c:_c):_j))=cF c n' ((0:_j)+((Z1 c:_c):_j)):=_h a;unfold cF at b;rw[iE,_i U,_n U,oI,oI] at b;generalize Oh (c+((Z1 c:_c):_j)) 62089911 26=x at b;lia
theorem ie{l:_a _c}(h:l.length<=8):JoinOk ("" : _m) (l.map λx=>(⟨#[x]⟩:_m))=true:=by
 refine J' ?_<|by decide
 rw[bb,ah];have c:(l.map<|(λx:_m=>x.length) ∘ λx=>(⟨#[x]⟩:_m)).sum=l.length:=by
  clear h
  induction l with
  |nil=>rfl
  |cons a l b =>
   rw[ee,kG,b,bi];show 1+l.length=l.length+1;exact zac _ _
 rw[c];lia
inductive ux(vs:_a V)(H:Hp)(Q:VK)(d0:XK):Prop
|mk(c:_j)(n:_c)(_:vs=[.int c,.int (n:_c)])(_:n<=100)(_:∀H',Aj H H'->Q (.str (Iv c n)) H')
theorem iC:Am jm ox<|Ae sNa:=Bc
include N T in
theorem AAT:BP P w K mg base BV 2 aD.Na ox ux:=by
 refine N.FNa.1.DY iC λH s Q E d h=>?_;obtain⟨c,n,rfl,u,q⟩:=h;refine⟨_,(Ac (Be 2 iC.nd U (Or.inr U) Aw (by kernel_rfl)<|.inl U)
  (Ac (Be 3 iC.nd U (Or.inl U) (BK Bu Al<|BJ N.FMi (wU N T) d<|Ao U (pv 0)<|Ao U Al<|Ao U Al Ab) (by kernel_rfl)<|.inl U)
  (Ac (Be 4 iC.nd U (Or.inr U) (BJ N.FMi (wU N T) d<|Ao U (pv 0)<|Ao U Al<|Ao U (pv 3) Ab) (by kernel_rfl)<|.inl U)
  (Af<|Aq<|GR PySem.F.plainAttrs_str PySem.F.slot_str_join PySem.F.type_str_join jF Aw<|Ao U (Bp U (Bb (osc:=Ae sNa) (N:=jm) U U<|by decide) (Dk U T.range<|Ao U (pv 3) Ab) (λ_ _ _ _=>Cj)<|λ_ _ _ _=>(@Gi _ _ _ _ _ _ _ rC (pv 3) (BK FW (BK Bu (BJ N.FMi (wU N T) d<|Ao U (BK Bu (pv 1)<|pv 0)<|Ao U Al<|Ao U Al Ab)<|BK JL (pv 2)<|Ci HJ U T.int gc<|Ao U (DX Bt (pv 0) (pv 5)<|Et _) Ab) Al)<|λ_ _=>rfl)) Ab)))),?_⟩
 have v:=cz c;have g:=m8 c;refine⟨c,950706376,8,U,by decide,by decide,by decide,?_⟩;dsimp only[XS,Np];rw[AAL];refine⟨c,742938285,_,U,(by show (0:_j)<((Tu c:_c):_j);exact BT.mpr (bq (gx _) v.1)),by decide,by decide,?_⟩;rw[g.2];refine⟨U,((Tu c:_c):_j),U,by lia,by lia,?_⟩;rw[bp];refine Kc (lo:=0) (n:=Tu c) (λ_=>_g) (λi=>.str ⟨#[cF c n i]⟩) (Ax<|rx v.2 (by decide)) (λi p b r R k=>k b<|Aj.refl b) (λi p _ b r R k=>?_)<|λD m t o a=>?_
 .have e:=k b<|Aj.refl b
  refine⟨_,62089911,26,U,by decide,by decide,by decide,U,.inr ⟨_,U,.inl ⟨by lia,by lia⟩,(by show (0:_j)<26;decide),letters,_,_,U,U,CV<|by decide,uD (Ĥ _<|by decide)<|ĉ _<|by decide,e⟩⟩
 have j:((((_L<|Tu c).map λ(i:_c)=>(0:_j)+(i:_j)).filter λ_=>_g).map λi=>V.str ⟨#[cF c n i]⟩)=((U8 c n).map λx=>(⟨#[x]⟩:_m)).map V.str:=by
  rw[cw.mpr (λ_ _=>rfl)];unfold U8;rw[bb,bb,bb];rfl
 rw[j] at a;have f:=ie (l:=U8 c n)<|by rw[W5];exact v.2
 refine⟨("" : _m),D,_,U,U,oP a,f,?_⟩;rw[jG];exact q m o
structure HF(H H':Hp)(p:_d):Prop where
 sx:∀b o,H b=_b o->b≠p->H' b=_b o
 sr:SrcAt H' p
theorem SrcAt.some(h:SrcAt H p):∃l,H p=_b (.lst l):=by
 obtain⟨u,s,h,_⟩:=h;exact⟨_,h⟩
theorem SrcAt.ne{q:_d}(h:SrcAt H p)(n:H q=_o):q≠p:=λe=>by
 obtain⟨l,hl⟩:=h.some;rw[e,hl] at n
 cases n
theorem HF.refl(h:SrcAt H p):HF H H p:=⟨λ_ _ e _=>e,h⟩
theorem HF.same(h:HF H H1 p)(s:Aj H1 H2):HF H H2 p:=⟨λb o e a=>s _ _<|h.sx b o e a,h.sr.mono s⟩
theorem HF.draw(h:HF H H1 p)(f:gC H1 H2 p)(s:SrcAt H2 p):HF H H2 p:=⟨λb o e a=>by rw[f b a];exact h.sx b o e a,s⟩
theorem HF.trans(h:HF H H1 p)(g:HF H1 H2 p):HF H H2 p:=⟨λb o e a=>g.sx b o (h.sx b o e a) a,g.sr⟩
theorem HF.free{D:_d}(h:HF H H' p)(a:H' D=_o):H D=none:=by
 cases e:H D with
 |none=>rfl
 |some o =>
  by_cases b:D=p
  .obtain⟨l,hl⟩:=h.sr.some;rw[b,hl] at a
   cases a
  .rw[h.sx D o e b] at a
   cases a
theorem HF.ne{D:_d}(h:HF H H' p)(a:H' D=_o):D≠p:=λe=>by
 obtain⟨l,hl⟩:=h.sr.some;rw[e,hl] at a
 cases a
theorem SrcAt.put{D:_d}(h:SrcAt H p)(a:D≠p):SrcAt (upd H D o) p:=by
 obtain⟨u,s,b,c⟩:=h;exact⟨u,s,by rw[Ak (_J a)];exact b,c⟩
theorem HF.put{D:_d}(h:HF H H' p)(c:H D=_o)(a:D≠p):HF H (upd H' D o) p:=⟨λb u e d=>by rw[Ak (Ag e c)];exact h.sx b u e d,h.sr.put a⟩
theorem HF.tup{v:V}(h:HF H H' p)(a:SrcAt H p)(t:TupAt H xs v):TupAt H' xs v:=by
 obtain⟨T,rfl,e⟩:=t;refine⟨T,U,h.sx T _ e λz=>?_⟩;obtain⟨l,hl⟩:=a.some;rw[z,hl] at e
 cases e
theorem HF.QV{α:Type}{f:α->_a V}{l:_a α}(h:HF H H' p)(b:SrcAt H p)(t:Paired (λa v=>TupAt H (f a) v) l vs):Paired (λa v=>TupAt H' (f a) v) l vs:=Paired.Jt t λ_ _ z=>h.tup b z
noncomputable def kR(cb:_c->_m)(nm:_m):Kb->R
 |.cp i j s=>⟨"coupler",nm,[.str (cb i),.str<|cb j,.int s]⟩
 |.pl w i=>⟨w,nm,[.str (cb i)]⟩
theorem Vn(a:_c->_m)(nm:_m)(z:Kb):(kR a nm z).w=z.w:=by cases z <;> rfl
theorem Qv(a:_c->_m)(nm:_m)(z:Kb):(kR a nm z).nm=nm:=by cases z <;> rfl
noncomputable def lR(rn:_c->_m)(l:Ln):R:=⟨"line",rn l.r,[.int l.sh,.int l.lo,.int l.hi]⟩
abbrev nB(bs:_a<|_m×_c)(i:_c):Str:=(bs.getD i ("",0)).1
noncomputable abbrev zB(bs:_a<|_m×_c)(i:_c):Nat:=(bs.getD i ("",0)).2
noncomputable abbrev nR(rk:_a<|_m×_c×_j)(i:_c):Str:=(rk.getD i ("",0,0)).1
def Za:Kb->_c
 |.cp i _ _=>i
 |.pl _ i=>i
structure KnR(bs:_a<|_m×_c)(rk:_a<|_m×_c×_j)(z:Kb)(l:_a Ln):Prop where
 ok:z.ok bs.length
 len:l.length<=3
 ln:∀x∈l,x.r<rk.length/\0<=x.lo/\x.lo<=x.hi/\x.hi<(zB bs (Za z):_c) /\ -2<=x.sh/\x.sh<=5
 st:z.w≠"stop"->l=[]
 cp:∀i j s,z=.cp i j s->-4<=s/\s<=4
theorem Ov{bs:_a (_m×_c)}{a:_c}(h:a<bs.length):bs[a]? = _b (nB bs a,zB bs a):=by
 unfold nB zB;rw[aS,af h];rfl
theorem yo{rk:_a (_m×_c×_j)}{a:_c}(h:a<rk.length):∃m wi,rk[a]? = _b (nR rk a,m,wi):=by
 refine⟨rk[a].2.1,rk[a].2.2,?_⟩;unfold nR;rw[aS,af h];rfl
def forR{lo:_j}{g:TG}(Pv:_c->St->Hp->Prop)(h0:Pv 0 σ H)(hs:∀i (D':Ends),(∀σ H,Pv (i+1) σ H->D'.nx σ H)->∀σ H,i<n->Pv i σ H->g (.int<|lo+i) σ H λσ2 H2=>tb D' σ2 H2)(hd:∀σ H,Pv n σ H->D.nx σ H):=Ys (lo:=lo) (n:=n) (g:=g) (tb:=tb) (D:=D) Pv h0 (λi σ H a b=>hs i { D with nx:=Pv<|i+1,ct:=Pv<|i+1,bk:=D.nx } (λ_ _ h=>h) σ H a b) hd
def forL{K:_q}{g:TG}(Pv:_c->St->Hp->Prop)(h0:Pv 0 σ H)(hl:∀i σ H,i<=xs.length->Pv i σ H->Dd K H a xs)(hs:∀i (D':Ends),(∀σ H,Pv (i+1) σ H->D'.nx σ H)->∀x σ H,xs[i]? = _b x->Pv i σ H->g x σ H λσ2 H2=>tb D' σ2 H2)(hd:∀σ H,Pv xs.length σ H->D.nx σ H):=Gb (K:=K) (a:=a) (xs:=xs) (g:=g) (tb:=tb) (D:=D) Pv h0 hl (λi x σ H e b=>hs i { D with nx:=Pv<|i+1,ct:=Pv<|i+1,bk:=D.nx } (λ_ _ h=>h) x σ H e b) hd
theorem lV{c:TT}{t a u:TS}(P:St->Hp->Prop)(b:∀D':Ends,(∀σ' H',P σ' H'->D'.nx σ' H')->gV c t a D' σ H)(d:∀σ' H',P σ' H'->u D σ' H'):jr (gV c t a) u D σ H:=b { D with nx:=u D } d
theorem gN{v:V}{Q:St->Hp->Prop}(h:Q (σ.set i<|some v) H):Df i v σ H Q:=h
inductive pD(vs:_a V)(H:Hp)(Q:VK)(d0:XK):Prop
 |mk(p B RA:_d)(bs:_a (_m×_c))(rk:_a (_m×_c×_j))(f' i8:_a V)(nm:_m):vs=[.ref p,.ref B,.ref RA,.str nm]->SrcAt H p->H B=_b (.lst f')->B≠p->Paired (λb v=>TupAt H (Fx b).v v) bs f'->1<=bs.length->bs.length<=5->(∀b∈bs,1<=b.2/\b.2<=61)->H RA=_b (.lst i8)->RA≠p->Paired (λr v=>TupAt H (Gh r).v v) rk i8->1<=rk.length->rk.length<=12->(∀(D:_d) (ws:_a V) (z:Kb) (l:_a Ln) H',H D=_o->HF H H' p->H' D=_b (.lst ws)->Paired (λ(r:R) v=>TupAt H' r.v v) (kR (nB bs) nm z::l.map (lR<|nR rk)) ws->KnR bs rk z l->Q (.ref D) H')->pD vs H Q d0
theorem N7:Am ["_law_source_here","_law_boards","_law_ranks","_law_name_here","_law_at","_law_way","_law_to","_law_rows_here","_law_k","_law_rank","_law_low","_law_high"] fZ (Ae sLj):=Bc
inductive yS(H:Hp)(p:_d)(D:_d)(bs:_a<|_m×_c)(nm:_m)(a:_c)(rk:_a<|_m×_c×_j)(B:_d)(RA:_d)(wy:_c)(i:_c)(σ:St)(H6:Hp):Prop
|mk(_:HF H H6 p)(ws:_a V)(l:_a Ln)(_:H6 D=_b (.lst ws))(_:Paired (λ(r:R) v=>TupAt H6 r.v v) (kR (nB bs) nm (.pl "stop" a)::l.map (lR<|nR rk)) ws)(_:l.length=i)(_:(∀x∈l,x.r<rk.length/\0<=x.lo/\x.lo<=x.hi/\x.hi<(zB bs a:_c) /\ -2<=x.sh/\x.sh<=5))(v6 v8 v9 oS vE:_)(_:σ=[_b (.ref p),_b<|.ref B,_b<|.ref RA,_b<|.str nm,_b<|.int (a:_c),_b<|.int (wy:_c),v6,_b<|.ref D,v8,v9,oS,vE])
inductive wF(H9:Hp)(bs:_a<|_m×_c)(a:_c)(p:_d)(B:_d)(RA:_d)(nm:_m)(wy:_c)(v6:_r V)(D:_d)(i:_c)(rk:_a<|_m×_c×_j)(r:_c)(σ':St)(H':Hp):Prop
|mk(_:H'=H9)(lw hg:_j)(_:0<=lw)(_:lw<=hg)(_:hg<((zB bs a:_c):_j))(_:σ'=[_b (.ref p),_b (.ref B),_b (.ref RA),_b (.str nm),_b (.int (a:_c)),_b (.int (wy:_c)),v6,_b (.ref D),_b (.int ((0:_j)+(i:_j))),_b (.str (nR rk r)),_b (.int lw),_b (.int hg)])
include N T in
theorem wD:BP P w K mg base BV 3 aD.Lj fZ pD:=by
 refine N.FLj.1.DY N7 λH vs Q E v h=>?_;obtain⟨p,B,RA,bs,rk,f',i8,y,rfl,G,C,L,AV,b1,b5,aK,hR,IZ,AH,r1,aQ,q⟩:=h;refine⟨_,(Ac (Be 4 N7.nd U (Or.inl U) (BJ N.FDw (fj N T) v<|Ao U (pv 0)<|Ao U (Ay BL U T.len bt<|Ao U (pv 1) Ab) Ab) (by kernel_rfl)<|.inl U)
  (Ac (Be 5 N7.nd U (Or.inl U) (BJ N.FDw (fj N T) v<|Ao U (pv 0)<|Ao U Al Ab) (by kernel_rfl)<|.inl U)
  (Ac (Bg (Bd Bt (pv 5) Al) (Af<|Aq<|Cm<|Ao U (CQ<|Ao U Aw<|Ao U (pv 3)<|Ao U (An K<|B_ K (pv 1)<|pv 4) Ab) Ab) BR)
  (Ac (Bg (Bd Gw (pv 5) Al) (Ac (Be 6 N7.nd U (Or.inl U) (An K<|B_ K (pv 1)<|BJ N.FDw (fj N T) v<|Ao U (pv 0)<|Ao U (Ay BL U T.len bt<|Ao U (pv 1) Ab) Ab) (by kernel_rfl)<|.inl U)
  (Af<|Aq<|Cm<|Ao U (CQ<|Ao U Aw<|Ao U (pv 3)<|Ao U (An K<|B_ K (pv 1)<|pv 4)<|Ao U (pv 6)<|Ao U (BK GZ (BJ N.FDw (fj N T) v<|Ao U (pv 0)<|Ao U Al Ab) Al) Ab) Ab)) BR)
  (Ac (Be 7 N7.nd U (Or.inl U) (Cm<|Ao U (CQ<|Ao U Aw<|Ao U (pv 3)<|Ao U (An K<|B_ K (pv 1)<|pv 4) Ab) Ab) (by kernel_rfl)<|.inl U)
  (Ac (DQ _M U (Dk U T.range<|Ao U (BK Bu Al<|BJ N.FDw (fj N T) v<|Ao U (pv 0)<|Ao U Al Ab) Ab) (Bh (i:=8) N7.nd U<|Or.inl U) (Ac (Be 9 N7.nd U (Or.inl U) (An K<|B_ K (pv 2)<|BJ N.FDw (fj N T) v<|Ao U (pv 0)<|Ao U (Ay BL U T.len bt<|Ao U (pv 2) Ab) Ab) (by kernel_rfl)<|.inl U)
  (Ac (Be 10 N7.nd U (Or.inl U) (BJ N.FDw (fj N T) v<|Ao U (pv 0)<|Ao U (An K<|B_ K (pv 1)<|pv 4) Ab) (by kernel_rfl)<|.inl U)
  (Ac (Be 11 N7.nd U (Or.inl U) (BK Bu (pv 10)<|BJ N.FDw (fj N T) v<|Ao U (pv 0)<|Ao U (BK GZ (An K<|B_ K (pv 1)<|pv 4)<|pv 10) Ab) (by kernel_rfl)<|.inl U)
  (Ac (Bg (Bd Gw (pv 5) Al) (Ac (Be 10 N7.nd U (Or.inl U) Al (by kernel_rfl)<|.inl U)
  (Af<|Be 11 N7.nd U (Or.inl U) (BK GZ (An K<|B_ K (pv 1)<|pv 4) Al) (by kernel_rfl)<|.inl U)) BR)
  (Af<|Bq<|GR ci dA dE C_ (pv 7)<|Ao U (CQ<|Ao U Aw<|Ao U (pv 9)<|Ao U (BK GZ (BJ N.FDw (fj N T) v<|Ao U (pv 0)<|Ao U Al Ab) Al)<|Ao U (pv 10)<|Ao U (pv 11) Ab) Ab))))))
  (Af<|Aq<|pv 7))))))),?_⟩
 have lb:=AV.length;have lr:=AH.length;refine⟨B,_,U,oP<|.inl C,p,_,U,G,(by show (0:_j)<((f'.length:_c):_j);lia),(by show ((f'.length:_c):_j)<1073741824;lia),λa H1 ha f1 xz=>?_⟩;have St:HF H H1 p:=(HF.refl G).draw f1 xz;have m:a<bs.length:=by lia
 obtain⟨bv,O,Iq⟩:=Br AV<|Ov m;have HI:=aK _<|ai<|Ov m
 refine⟨p,8,U,xz,by decide,by decide,λwy H2 aP f2 zw=>?_⟩;have j:=St.draw f2 zw;refine⟨U,Cz (λg=>?_)<|λg=>?_⟩
 .have ya:=j.sx _ _ C L;obtain⟨T,rfl,hT⟩:=j.tup G Iq;refine⟨_,_,oP ya,Av O,_,_,oP hT,U,by show 3<=sizeLine;decide,λc Y=>⟨CV (by simp),λD k=>?_⟩⟩;have u:=A_ (o:=HO.tup [V.str "mute",V.str y,V.str<|nB bs a]) Y;have F:=A_ (o:=HO.lst [V.ref c]) k;exact q D [V.ref c] (.pl "mute" a) [] _ (j.free<|u.free k) (j.same<|u.trans F) Ah (.cons ⟨c,U,F _ _ Ah⟩ .nil) ⟨⟨m,.inl U⟩,by decide,(λ_ h=>nomatch h),λ_=>rfl,λ_ _ _ h=>nomatch h⟩
 refine Cz (λg2=>?_)<|λg2=>?_
 .have ya:=j.sx _ _ C L;refine⟨B,_,U,oP<|.inl ya,p,_,U,zw,(by show (0:_j)<((f'.length:_c):_j);exact Y2 (ja _) ha),(by show ((f'.length:_c):_j)<1073741824;lia),λb H3 hb f3 y'=>?_⟩;have S3:=j.draw f3 y';have W:b<bs.length:=by lia
  obtain⟨cv,UI,OO⟩:=Br AV<|Ov W;have TC:=S3.sx _ _ C L;obtain⟨T,rfl,hT⟩:=S3.tup G Iq;obtain⟨T2,rfl,tw⟩:=S3.tup G OO;refine⟨_,_,oP TC,Av UI,_,_,oP tw,U,?_⟩;refine⟨_,_,oP TC,Av O,_,_,oP hT,U,p,9,U,y',by decide,by decide,λe H4 he f4 AN=>⟨by show 5<=sizeLine;decide,λc Y=>⟨CV (by simp),λD k=>?_⟩⟩⟩;have S:=S3.draw f4 AN;generalize X:upd H4 c _=J at k |-;have u:Aj H4 J:=X ▸ A_ Y;have u6:J c=_b (.tup (kR (nB bs) y<|.cp a b<|((e:_c):_j) - 4).v):=by
   rw[<-X,Ah];rfl
  have F:=A_ (o:=HO.lst [V.ref c]) k;exact q D [V.ref c] (.cp a b<|((e:_c):_j) - 4) [] _ (S.free<|u.free k) (S.same<|u.trans F) Ah (.cons ⟨c,U,F _ _ u6⟩ .nil) ⟨⟨m,W,by lia,by lia⟩,by decide,(λ_ h=>nomatch h),λ_=>rfl,λ_ _ _ h=>by injection h with _ _ h;lia⟩
 have ya:=j.sx _ _ C L;have aN:=j.sx _ _ hR IZ;obtain⟨T,eT,hT⟩:=j.tup G Iq;subst eT;refine⟨_,_,oP ya,Av O,_,_,oP hT,U,by show 3<=sizeLine;decide,λc Y=>⟨CV (by simp),λD k=>?_⟩⟩;have u:=A_ (o:=HO.tup [V.str "stop",V.str y,V.str<|nB bs a]) Y;have u6:upd H2 c (HO.tup [V.str "stop",V.str y,V.str<|nB bs a]) c=_b (.tup (kR (nB bs) y<|.pl "stop" a).v):=Ah;generalize upd H2 c (HO.tup [V.str "stop",V.str y,V.str (nB bs a)])=H3 at u u6 k |-;obtain⟨H4,k7,F,u7⟩:=Dr (o:=HO.lst [V.ref c]) k;rw[k7];have S:=j.same<|u.trans F
 have ab:H D=none:=j.free<|u.free k
 have M:D≠p:=(j.same u).ne k;refine⟨p,3,U,S.sr,by decide,by decide,λt H5 ht f5 vb=>⟨_,U,by lia,by lia,?_⟩⟩;have S5:=S.draw f5 vb;have u5:H5 D=_b (.lst [V.ref c]):=by rw[f5 D M];exact u7
 have w5:TupAt H5 (kR (nB bs) y<|.pl "stop" a).v<|.ref c:=by
  refine⟨c,U,?_⟩;have h6:=F _ _ u6;rw[f5 c λz=>?_]
  .exact h6
  .obtain⟨l,hl⟩:=S.sr.some;rw[z,hl] at h6
   cases h6
 refine forR (lo:=0) (n:=(1+((t:_c):_j)).toNat) (yS H p D bs y a rk B RA wy)
  ⟨S5,[V.ref c],[],u5,.cons w5 .nil,U,(λ_ h=>nomatch h),_,_,_,_,_,U⟩ ?_ ?_
 .rintro i _ rc σ J hi ⟨s,ws,l,LG,A,hl,I,v6,v8,v9,oS,vE,rfl⟩;have WZ:=s.sx _ _ hR IZ;refine⟨RA,_,U,oP<|.inl WZ,p,_,U,s.sr,(by show (0:_j)<((i8.length:_c):_j);lia),(by show ((i8.length:_c):_j)<1073741824;lia),λr H7 v f7 wS=>?_⟩;have ac:HF J H7 p:=(HF.refl s.sr).draw f7 wS;have S7:=s.trans ac;have an:r<rk.length:=by lia
  obtain⟨rm,rw,X'⟩:=yo an;obtain⟨rv,GS,VC⟩:=Br AH X';obtain⟨T2,rfl,tw⟩:=S7.tup G VC;refine⟨_,_,oP<|S7.sx _ _ hR IZ,Av GS,_,_,oP tw,U,?_⟩;have tb:∀{H':Hp},HF H H' p->H' T=_b (.tup (Fx (nB bs a,zB bs a)).v):=λS'=>by
   obtain⟨T',e',ap⟩:=S'.tup G Iq
   cases e';exact ap
  refine⟨_,_,oP<|S7.sx _ _ C L,Av O,_,_,oP<|tb S7,U,p,_,U,wS,(by show (0:_j)<((zB bs a:_c):_j);have:=HI.1;exact BT.mpr (bq (gx _) this)),(by show ((zB bs a:_c):_j)<1073741824;have:=HI.2;exact BT.mpr (cc this (by decide))),λlo H8 TD f8 yn=>?_⟩;have OU:=ac.draw f8 yn;have S8:=s.trans OU;refine⟨_,_,oP<|S8.sx _ _ C L,Av O,_,_,oP<|tb S8,U,p,_,U,yn,(by show (0:_j)<((zB bs a:_c):_j) - ((lo:_c):_j);lia),(by show ((zB bs a:_c):_j) - ((lo:_c):_j)<1073741824;have:=HI.2;lia),λd H9 hd f9 sB=>?_⟩;have KI:=OU.draw f9 sB;have S9:=s.trans KI;dsimp only[XS,rU,Np];refine gN (i:=11) ?_;try dsimp only
  refine lV (wF H9 bs a p B RA y wy v6 D i rk r) (λD' GB=>?_) ?_
  .refine Cz (λg3=>?_)<|λg3=>?_
   .refine⟨_,_,oP<|S9.sx _ _ C L,Av O,_,_,oP<|tb S9,U,GB _ _ ⟨U,0,((zB bs a:_c):_j) - 1,by decide,by have:=HI.1;lia,by lia,U⟩⟩
   .exact GB _ _ ⟨U,((lo:_c):_j),((lo:_c):_j)+((d:_c):_j),ja _,by lia,by have:=hd;lia,U⟩
  .rintro σ' H' ⟨rfl,lw,hg,w1,w2,w3,rfl⟩;have dl:∀{Hx:Hp},HF J Hx p->Hx D=_b (.lst ws):=λS'=>S'.sx _ _ LG M;refine⟨.inl ⟨U,_,oP<|dl KI⟩,p,8,U,sB,by decide,by decide,λsh Ha aM fa aw=>⟨by show 5<=sizeLine;decide,λT9 UD=>?_⟩⟩;have Sa:=KI.draw fa aw;generalize Z:upd Ha T9 _=Hb;have aB:Aj Ha Hb:=Z ▸ A_ UD;have ub:Hb T9=_b (.tup (lR (nR rk) ⟨r,((sh:_c):_j) - 2,lw,hg⟩).v):=by
    rw[<-Z,Ah];rfl
   have Sb:=Sa.same aB;have uk:=dl Sb;have as:=A.length;rw[bi,ah] at as;refine⟨ws,uk,Ax<|by lia,?_⟩;refine rc _ _ ⟨(s.trans Sb).put ab M,ws++[V.ref T9],l++[⟨r,((sh:_c):_j) - 2,lw,hg⟩],Ah,?_,by rw[am,ax,hl],λx hx=>?_,_,_,_,_,_,U⟩
   .rw[ba];exact (Bf (Sb.QV (f:=λr:R=>r.v) s.sr A) uk).snoc<|TupAt.upd ⟨T9,U,ub⟩ uk
   .rcases aT.mp hx with hx | hx
    .exact I x hx
    .rw[av.mp hx];exact⟨an,w1,w2,w3,by show (-2:_j)<=((sh:_c):_j) - 2;lia,by show ((sh:_c):_j) - 2<=5;lia⟩
 .rintro σ J ⟨s,ws,l,LG,A,hl,I,v6,v8,v9,oS,vE,rfl⟩;exact q D ws (.pl "stop" a) l J ab s LG A ⟨⟨m,.inr U⟩,by lia,I,λz=>_z U z,λ_ _ _ h=>nomatch h⟩
theorem NK{α:Type}{F:α->V->Prop}(p:α->_O)(q:V->_O):∀{xs:_a α}{ys:_a V},Paired F xs ys->(∀x y,x∈xs->F x y->q y=p x)->Paired F (xs.filter p) (ys.filter q)
 |[],_,h,_=>by
  cases h;exact .nil
 |x::xs,_,h,e=>by
  cases h with
  |cons a b =>
   have c:=NK p q b λx y d h=>e x y (bg _ d) h;rw[eR,eR,e x _ br a];split
   .exact .cons a c
   .exact c
structure vW(K:_q)(aB aP aM:_d):Prop where
 f:fu K aB aP aM
 mT:∃t,_W K aM "step" = _b (_b<|.int 12 t)
structure Rq(c:_j)(bs:_a<|_m×_c)(rk:_a<|_m×_c×_j):Prop where
 b:∀(j:_c) b,bs[j]? = _b b->b.1=Iv c j/\1<=b.2/\b.2<=61
 r:∀(j:_c) r,rk[j]? = _b r->r.1=Iv c (3+j)/\1<=r.2.1/\r.2.1<=97/\0<=r.2.2/\r.2.2<=1000000000
 lb:bs.length<=3
 lr:rk.length<=3
theorem Rq.nb{bs:_a (_m×_c)}{rk:_a (_m×_c×_j)}(h:Rq c bs rk)(g:bs.length<=n)(d:n<26):∀b∈bs,b.1≠Iv c n:=λb f e=>by
 obtain⟨j,a⟩:=dS f;have hl:=(ag.mp a).1;have:=h.lb;have:=Lz (c:=c) (n:=j) (n':=n) (bq hl (rx this (by decide))) d<|(h.b j b a).1.symm.trans e
 lia
theorem Rq.nr{bs:_a (_m×_c)}{rk:_a (_m×_c×_j)}(h:Rq c bs rk)(g:3+rk.length<=n)(d:n<26):∀r∈rk,r.1≠Iv c n:=λb f e=>by
 obtain⟨j,a⟩:=dS f;have hl:=(ag.mp a).1;have:=h.lr;have:=Lz (c:=c) (n:=3+j) (n':=n) (by lia) d<|(h.r j b a).1.symm.trans e
 lia
theorem Od{α:Type}{l:_a α}{x y:α}(h:(l++[x])[j]? = _b y):l[j]? = _b y \/ (j=l.length/\y=x):=by
 by_cases a:j<l.length
 .rw[fb a] at h;exact .inl h
 .have hl:=(ag.mp h).1;rw[am,ax] at hl;have e:j=l.length:=Fr (KE hl) (me a)
  subst e;rw[bX (al _),iF] at h;exact .inr ⟨U,(_h h).symm⟩
theorem Rq.d_{bs:_a (_m×_c)}(h:Rq c bs [])(hl:bs.length<3)(d:1<=m)(e:m<=61):Rq c (bs++[(Iv c bs.length,m)]) []:=by
 refine⟨λj b a=>?_,λj r a=>by simp at a,by rw[Ą,ó];exact hl,by decide⟩;rcases Od a with a | ⟨rfl,rfl⟩
 .exact h.b j b a
 .exact⟨U,d,e⟩
theorem Rq.rank{bs:_a (_m×_c)}{rk:_a (_m×_c×_j)}(h:Rq c bs rk)(hl:rk.length<3){b:_j}(d:1<=m)(f:m<=97)(g:0<=b)(e:b<=1000000000):Rq c bs<|rk++[(Iv c<|3+rk.length,m,b)]:=by
 refine⟨h.b,λj r a=>?_,h.lb,by rw[am,ax];exact hl⟩;rcases Od a with a | ⟨rfl,rfl⟩
 .exact h.r j r a
 .exact⟨U,d,f,g,e⟩
theorem Rq.ndb{bs:_a (_m×_c)}{rk:_a (_m×_c×_j)}(h:Rq c bs rk):(bs.map (·.1)).Nodup:=by
 refine Q3 λi j x d e=>?_;rw[ar] at d e;obtain⟨k,a,g⟩:=aI.mp d;obtain⟨l,b,f⟩:=aI.mp e;have:=(ag.mp a).1;have:=(ag.mp b).1;have:=h.lb;exact Lz (c:=c) (by lia) (by lia)<|(h.b i k a).1.symm.trans ((g.trans f.symm).trans (h.b j l b).1)
theorem Rq.pX{bs:_a (_m×_c)}{rk:_a (_m×_c×_j)}(h:Rq c bs rk):(rk.map (·.1)).Nodup:=by
 refine Q3 λi j x d e=>?_;rw[ar] at d e;obtain⟨k,a,g⟩:=aI.mp d;obtain⟨l,b,f⟩:=aI.mp e;have:=(ag.mp a).1;have:=(ag.mp b).1;have:=h.lr;have:=Lz (c:=c) (n:=3+i) (n':=3+j) (by lia) (by lia)<|(h.r i k a).1.symm.trans ((g.trans f.symm).trans (h.r j l b).1)
 lia
noncomputable def Mq(bs:_a<|_m×_c)(nms:_a _m)(kbs:_a Kb):_a R:=Ó (kR<|nB bs) nms kbs
noncomputable abbrev Y4(z:Kb):Bool:=!decide (V.str z.w=V.str "stop")
structure MJ(K:_q)(aB aP aM:_d)(c:_j)(k ld m:_c)(bs:_a<|_m×_c)(rk:_a<|_m×_c×_j)(rows:_a R)(nms:_a _m)(kbs:_a Kb)(ls:_a<|_a Ln)(sts:_a _c)(sn:_a _m):Prop where
 bl:Hv K aB aP aM rows bs rk (Mq bs nms kbs) ls sts
 ek:rows.filter (λr=>Fj r.w)=Mq bs nms kbs
 bd:Rq c bs rk
 nl:nms.length=kbs.length
 nk:kbs.length<=k
 nm:∀t∈nms,∃j,j<k/\t=Iv c (6+j)
 nd:nms.Nodup
 kb:Tg bs.length kbs
 mu:(kbs.filter<|Gp "mute").length<=5
 lq:(kbs.filter Y4).length<=ld
 lg:oU rk ls
 sq:∀t∈sn,∃r∈Mq bs nms kbs,r.w = "stop" /\ r.nm=t
 sd:sn.Nodup
 sk:sn.length<=k
 rl:rows.length<=m
 st:sts.length<=2
theorem Lq{α β γ:Type}(f:α->β->γ):∀{l:_a α}{m:_a β}(a:α)(b:β),l.length=m.length->Ó f (l++[a]) (m++[b])=Ó f l m++[f a b]
 |[],[],_,_,_=>rfl
 |x::l,y::m,a,b,h=>by
  show f x y::Ó f (l++[a]) (m++[b])=_;rw[Lq f a b (Į h)];rfl
theorem RG{bs:_a (_m×_c)}(h:r∈Mq bs nms kbs):∃t∈nms,∃z∈kbs,r=kR (nB bs) t z:=by
 unfold Mq at h;obtain⟨i,a,e⟩:=gy.mp h;rw[List.getElem_zipWith] at e;rw[kB] at a;exact⟨_,eJ<|by lia,_,eJ<|by lia,e.symm⟩
theorem Ra{bs:_a (_m×_c)}(wd:_m):∀{nms:_a _m}{kbs:_a Kb},nms.length=kbs.length->((Mq bs nms kbs).filter λr=>decide (V.str r.w=V.str wd)).length=(kbs.filter<|Gp wd).length
 |[],[],_=>rfl
 |t::nms,z::kbs,h=>by
  have a:=Ra wd (nms:=nms) (kbs:=kbs) (bs:=bs)<|Į h
  show ((kR (nB bs) t z::Mq bs nms kbs).filter _).length=_;rw[eR,eR,Vn];have e:Gp wd z=decide (V.str z.w=V.str wd):=rfl;rw[e];split
  .rw[bi,bi,a]
  .exact a
theorem QF(F:fu K aB aP aM){bs:_a (_m×_c)}{rk:_a (_m×_c×_j)}{c:_m}(a:(rk.map (·.1)).Nodup)(b:∀r∈rk,isNm r.1)(e:(c,n)∈bs)(d:n<=61):∀(l l0:_a Ln)(rows:_a R),Hv K aB aP aM rows bs rk ks (ls++[l0]) sts->Tl rows c l0.length->l0.length+l.length<=4->(∀x∈l,x.r<rk.length/\0<=x.lo/\x.lo<=x.hi/\x.hi<(n:_c) /\ -2<=x.sh/\x.sh<=5)->Hv K aB aP aM (rows++l.map (lR<|nR rk)) bs rk ks (ls++[l0++l]) sts
 |[],l0,rows,h,_,_,_=>by
  rw[nS,cy,cy];exact h
 |x::l,l0,rows,h,t,hl,f=>by
  rw[bi] at hl;obtain⟨q,s,j,p,w,v⟩:=f x br;obtain⟨m,u,g⟩:=yo q;have i:=h.line F (sh:=x.sh) (lo:=x.lo) (hi:=x.hi) t (by lia) g a (b (nR rk x.r,m,u)<|ai g) e j p (by lia) (YU v (by decide)) s<|by lia
  have k:Tl (rows++[lR (nR rk) x]) c (l0++[x]).length:=by
   rw[am,ax];exact t.line U
  have r:=QF F a b e d l (l0++[x]) (rows++[lR (nR rk) x]) i k (by rw[am,ax];lia) λy o=>f y<|bg _ o
  rw[dt,dt] at r;exact r
theorem cJ(h:Tg n kbs){z:Kb}(c:z.ok n)(d:(kbs.filter<|Gp z.w).length<J_ z.w)(hl:kbs.length<70):Tg n<|kbs++[z]:=by
 refine⟨λk a=>?_,λi k a=>?_,by rw[am,ax];exact hl⟩
 .rcases aT.mp a with a | a
  .exact h.ok k a
  .rw[av.mp a];exact c
 .rcases Od a with b | ⟨rfl,rfl⟩
  .rw[fI (fR (ag.mp b).1)];exact h.room i k b
  .rw[List.take_left']
   .exact d
   .rfl
section
variable{k ld:_c}{bs:_a (_m×_c)}{rk:_a (_m×_c×_j)}{sn:_a _m}
theorem MJ.skip(h:MJ K aB aP aM c k ld m bs rk rows nms kbs ls sts sn):MJ K aB aP aM c (k+1) ld (m+4) bs rk rows nms kbs ls sts sn :=
 ⟨h.bl,h.ek,h.bd,h.nl,iq h.nk,λt a=>by
  obtain⟨j,b,e⟩:=h.nm t a;exact⟨j,gI b,e⟩,h.nd,h.kb,h.mu,h.lq,h.lg,h.sq,h.sd,iq h.sk,by have:=h.rl;exact rx this (zor _ _),h.st⟩
theorem MJ.add(F:vW K aB aP aM)(h:MJ K aB aP aM c k ld m bs rk rows nms kbs ls sts sn)(hk:k<12)(h0:sts=[]){z:Kb}{l:_a Ln}(f:KnR bs rk z l)(P:z.w = "mute"->(kbs.filter<|Gp "mute").length<5){D:_c}(F3:ld<=D)(MR:z.w≠"stop"->(kbs.filter Y4).length<D) :
  MJ K aB aP aM c (k+1) D (m+4) bs rk (rows++(kR (nB bs) (Iv c<|6+k) z::l.map (lR<|nR rk))) (nms++[Iv c (6+k)]) (kbs++[z]) (ls++[l]) sts (sn++if z.w = "stop" then [Iv c (6+k)] else []):=by
 have J:=h.nl;have ab:=h.nk;have R:Iv c (6+k) ∉ nms:=λS=>by
  obtain⟨j,G,e⟩:=h.nm _ S;have:=Lz (c:=c) (by lia) (by lia) e;lia
 have T:=h.bd.nb (n:=6+k) (by have:=h.bd.lb;lia)<|by lia
 have W:=h.bd.nr (n:=6+k) (by have:=h.bd.lr;lia)<|by lia
 have L:∀r∈Mq bs nms kbs,r.nm≠Iv c (6+k):=λr u e=>by
  obtain⟨t,a,S,_,rfl⟩:=RG u;rw[Qv] at e;exact R<|e ▸ a
 have g:∀{b:_c},b<bs.length->isNm (nB bs b)/\(nB bs b,zB bs b)∈bs/\zB bs b<=61:=λ{b} H=>by
  have O:=Ov H;have:=h.bd.b b _ O;refine⟨?_,ai O,this.2.2⟩;have e:nB bs b=Iv c b:=this.1;rw[e];exact Ij _ _
 have i:(kbs.filter<|Gp z.w).length<J_ z.w:=by
  have B:=cr (Gp z.w) kbs;have m1:J_ "coupler" = 12:=by decide
  have m2:J_ "stop" = 24:=by decide
  have m3:J_ "mute" = 5:=by decide
  rcases Kb.wo f.ok with e | e | e
  .rw[e,m2];rw[e] at B;exact cc B (cc ab (bq hk (by decide)))
  .rw[e,m1];rw[e] at B;exact cc B (cc ab hk)
  .rw[e,m3];have:=P e;exact this
 have M:=i;rw[<-Ra (bs:=bs) z.w J] at M;have v:Mq bs (nms++[Iv c (6+k)]) (kbs++[z])=Mq bs nms kbs++[kR (nB bs) (Iv c<|6+k) z]:=Lq _ _ _ J;have w:Hv K aB aP aM (rows++[kR (nB bs) (Iv c<|6+k) z]) bs rk (Mq bs nms kbs++[kR (nB bs) (Iv c<|6+k) z]) (ls++[[]]) sts:=by
  have C:=f.ok
  cases z with
  |cp p q s =>
   obtain⟨o,Q,b1,Y⟩:=C;exact h.bl.jt F.f (Ij _ _) T W L M (g o).1 (g o).2.1 (g Q).1 (g Q).2.1 b1 Y
  |pl wd p =>
   obtain⟨o,A⟩:=C;exact h.bl.plain F.f (A.elim .inr .inl) (Ij _ _) T W L M (g o).1 (g o).2.1
 have N:Hv K aB aP aM (rows++(kR (nB bs) (Iv c<|6+k) z::l.map (lR<|nR rk))) bs rk (Mq bs nms kbs++[kR (nB bs) (Iv c<|6+k) z]) (ls++[l]) sts:=by
  by_cases A:z.w = "stop"
  .cases z with
   |cp p q s=>exact _z (show ("coupler" : _m) = "stop" from A)<|by decide
   |pl wd p =>
    obtain rfl:wd = "stop":=A;have o:=f.ok.1;have r:=QF F.f h.bd.pX (λr u=>by
     obtain⟨j,G⟩:=dS u;rw[(h.bd.r j r G).1];exact Ij _ _) (g o).2.1 (g o).2.2 l [] _ w (Tl.stop rows _<|nB bs p) (by have:=f.len;rw[kF];lia) f.ln
    rw[dt] at r;exact r
  .rw[f.st A];exact w
 have E:∀x∈l.map (lR<|nR rk),Fj x.w=false:=λx d=>by
  obtain⟨y,_,rfl⟩:=ay.mp d;exact (by decide:Fj "line" = _p)
 refine⟨by rw[v];exact N,?_,h.bd,by rw[am,am,J];rfl,by rw[am,ax];exact md ab,λt a=>?_,?_,cJ h.kb f.ok i<|cc ab (bq hk (by decide)),?_,?_,λx d=>?_,λt a=>?_,?_,?_,?_,h.st⟩
 .rw[fk,h.ek,v,eR,_n<|by rw[Vn];exact MN<|Kb.wo f.ok,ź.mpr λx d=>by rw[E x d];decide]
 .rcases aT.mp a with a | a
  .obtain⟨j,G,e⟩:=h.nm t a;exact⟨j,gI G,e⟩
  .exact⟨k,gx _,av.mp a⟩
 .refine kS.mpr ⟨h.nd,fm.mpr ⟨mh,ku⟩,λx d y I e=>R ?_⟩;rw[<-av.mp I,<-e];exact d
 .rw[fk,am];by_cases e:z.w = "mute"
  .have:=P e;have:=cr (Gp "mute") [z];rw[ax] at this;lia
  .rw[ņ,_l (show ¬ Gp "mute" z=_g from λy=>e<|V.str.inj<|_s y)];exact h.mu
 .rw[fk,am];by_cases e:z.w = "stop"
  .rw[ņ,_l (show ¬ Y4 z=_g from by rw[show Y4 z = !decide (V.str z.w=V.str "stop") from rfl,e,_i U];decide)];have:=h.lq;show _+0<=_;exact rx this F3
  .have:=MR e;have:=cr Y4 [z];rw[ax] at this;lia
 .rcases aT.mp d with d | d
  .exact h.lg x d
  .rw[av.mp d];refine⟨by have:=f.len;exact rx this (by decide),λln si=>?_⟩;obtain⟨x1,x2,X,x4,x5,x6⟩:=f.ln ln si;have H:Za z<bs.length:=by
    have:=f.ok
    cases z with
    |cp p q s=>exact this.1
    |pl wd p=>exact this.1
   have:=(g H).2.2;exact⟨x1,x2,X,by lia,by lia,YU x6 (by decide)⟩
 .rw[v];rcases aT.mp a with a | a
  .obtain⟨r,u,e⟩:=h.sq t a;exact⟨r,bE _ u,e⟩
  .by_cases e:z.w = "stop"
   .rw[_n e] at a;exact⟨_,dc _<|av.mpr U,by rw[Vn];exact e,by rw[Qv];exact (av.mp a).symm⟩
   .rw[_l e] at a
    cases a
 .by_cases e:z.w = "stop"
  .rw[_n e];refine kS.mpr ⟨h.sd,fm.mpr ⟨mh,ku⟩,λx d y I Z=>?_⟩;obtain⟨r,u,_,er⟩:=h.sq x d;exact L r u<|er.trans<|Z.trans<|av.mp I
  .rw[_l e,cy];exact h.sd
 .rw[am];have:=h.sk;split
  .show _+1<=_;exact md this
  .show _+0<=_;exact iq this
 .rw[am,bi,ah];have:=h.rl;have:=f.len;lia
theorem MJ.step(F:vW K aB aP aM)(h:MJ K aB aP aM c k ld m bs rk rows nms kbs ls sts sn){t0:_m}{ts:_a _m}(i:(t0::ts).Nodup)(hl:(t0::ts).length<=24)(n:∀t∈t0::ts,t∈sn)(o:sts.length<2):∃AB,AB.length=sts.length+1/\MJ K aB aP aM c k ld (m+1) bs rk (rows++[⟨"step",t0,ts.map V.str⟩]) nms kbs ls AB sn:=by
 refine⟨sts++[Wd.mk ((t0::ts).map λt=>((Mq bs nms kbs).map (·.nm)).idxOf t)],by rw[am,ax],?_⟩
 .refine⟨h.bl.step F.mT i hl (λt l=>?_)<|bq o (by decide),?_,h.bd,h.nl,h.nk,h.nm,h.nd,h.kb,h.mu,h.lq,h.lg,h.sq,h.sd,h.sk,by rw[am];exact md h.rl,by rw[am,ax];exact o⟩
  .obtain⟨r,b,g,a⟩:=h.sq t<|n t l;refine⟨?_,r,b,g,a⟩;obtain⟨e,f,z,_,rfl⟩:=RG b;rw[Qv] at a;obtain⟨j,_,d⟩:=h.nm e f;rw[<-a,d];exact Ij _ _
  .rw[List.filter_append,h.ek,ņ,_l<|by show ¬ Fj "step" = _g;decide];exact cy _
end
theorem MT{c:Hp}(s:Aj c H)(h:c a=_o):Aj c<|upd H a o:=λb u e=>by
 rw[Ak (Ag e h)];exact s _ _ e
theorem Lb{a:Hp}(s:Aj a H)(h:a p=_o)(f:gC H H' p):Aj a H':=λb u e=>by
 rw[f b (Ag e h)];exact s _ _ e
theorem gC.tup{v:V}(f:gC H H' p)(a:SrcAt H p)(t:TupAt H xs v):TupAt H' xs v:=by
 obtain⟨T,rfl,e⟩:=t;refine⟨T,U,?_⟩;rw[f T λz=>?_]
 .exact e
 .obtain⟨l,hl⟩:=a.some;rw[z,hl] at e
  cases e
theorem gC.QV{α:Type}{f:α->_a V}{l:_a α}(h:gC H H' p)(b:SrcAt H p)(t:Paired (λa v=>TupAt H (f a) v) l vs):Paired (λa v=>TupAt H' (f a) v) l vs:=Paired.Jt t λ_ _ z=>h.tup b z
structure W9(H Hx:Hp)(p B RA:_d)(bs:_a<|_m×_c)(rk:_a<|_m×_c×_j):Prop where
 s:Aj H Hx
 sr:SrcAt Hx p
 b:∃f',Hx B=_b (.lst f')/\Paired (λb v=>TupAt Hx (Fx b).v v) bs f'
 r:∃i8,Hx RA=_b (.lst i8)/\Paired (λr v=>TupAt Hx (Gh r).v v) rk i8
 nB:B≠p
 nR:RA≠p
theorem W9.same{a:Hp}{bs:_a (_m×_c)}{rk:_a (_m×_c×_j)}(h:W9 H Hx p B RA bs rk)(s:Aj Hx a):W9 H a p B RA bs rk:=by
 obtain⟨c,j,⟨e,k,d⟩,⟨b,g,f⟩,i,l⟩:=h;exact⟨c.trans s,j.mono s,⟨e,s _ _ k,Ar s d⟩,⟨b,s _ _ g,Ar s f⟩,i,l⟩
theorem W9.ne{bs:_a (_m×_c)}{rk:_a (_m×_c×_j)}(h:W9 H Hx p B RA bs rk)(n:Hx a=_o):a≠p/\a≠B/\a≠RA:=by
 obtain⟨_,_,⟨_,b,_⟩,⟨_,r,_⟩,_⟩:=id h;exact⟨h.sr.ne n,_J<|Ag b n,_J<|Ag r n⟩
theorem W9.draw{a:Hp}{bs:_a (_m×_c)}{rk:_a (_m×_c×_j)}(h:W9 H Hx p B RA bs rk)(m:H p=_o)(f:gC Hx a p)(k:SrcAt a p):W9 H a p B RA bs rk:=by
 obtain⟨e,d,⟨i,o,g⟩,⟨l,n,j⟩,b,c⟩:=h;exact⟨Lb e m f,k,⟨i,by rw[f _ b];exact o,f.QV d g⟩,⟨l,by rw[f _ c];exact n,f.QV d j⟩,b,c⟩
theorem W9.st{f:Hp}{a:_d}{bs:_a (_m×_c)}{rk:_a (_m×_c×_j)}(h:W9 H Hx p B RA bs rk)(t:H a=_o)(y:a≠p)(z:a≠B)(n:a≠RA)(g:HF Hx f a)(d:SrcAt Hx a):W9 H f p B RA bs rk:=by
 obtain⟨i,⟨u,s,w,c⟩,⟨k,x,j⟩,⟨r,v,l⟩,m,q⟩:=h;exact⟨λb o e=>g.sx _ _ (i _ _ e)<|Ag e t,⟨u,s,g.sx _ _ w<|_J y,c⟩,⟨k,g.sx _ _ x<|_J z,g.QV d j⟩,⟨r,g.sx _ _ v<|_J n,g.QV d l⟩,m,q⟩
theorem W9.put{D:_d}{l o:_a V}{bs:_a (_m×_c)}{rk:_a (_m×_c×_j)}(h:W9 H Hx p B RA bs rk)(g:H D=_o)(r:D≠p)(s:D≠B)(i:D≠RA)(e:Hx D=_b (.lst l)):W9 H (upd Hx D<|.lst o) p B RA bs rk:=by
 obtain⟨a,n,⟨c,q,b⟩,⟨k,m,d⟩,f,j⟩:=h;exact⟨MT a g,n.put r,⟨c,by rw[Ak (_J s)];exact q,Bf b e⟩,⟨k,by rw[Ak (_J i)];exact m,Bf d e⟩,f,j⟩
theorem MJ.cntu{k ld:_c}{bs:_a (_m×_c)}{rk:_a (_m×_c×_j)}{sn:_a _m}(h:MJ K aB aP aM c k ld m bs rk rows nms kbs ls sts sn):(rows.filter λr=>decide (V.str r.w=V.str "mute")).length=(kbs.filter<|Gp "mute").length:=by
 rw[<-Ra (bs:=bs) "mute" h.nl,<-h.ek,w_];refine congrArg Ε<|yy λr _=>?_
 by_cases e:r.w = "mute"
 .rw[e];decide
 .rw[_t λz=>e<|V.str.inj z];rfl
theorem MJ.ldw{k ld a:_c}{bs:_a (_m×_c)}{rk:_a (_m×_c×_j)}{sn:_a _m}(h:MJ K aB aP aM c k ld m bs rk rows nms kbs ls sts sn)(hl:ld<=a):MJ K aB aP aM c k a m bs rk rows nms kbs ls sts sn :=
 ⟨h.bl,h.ek,h.bd,h.nl,h.nk,h.nm,h.nd,h.kb,h.mu,cq h.lq hl,h.lg,h.sq,h.sd,h.sk,h.rl,h.st⟩
theorem MJ.fin{k b ld a d:_c}{bs:_a (_m×_c)}{rk:_a (_m×_c×_j)}{sn:_a _m}(h:MJ K aB aP aM c k ld m bs rk rows nms kbs ls sts sn)(f:k<=b)(hl:ld<=a)(i:m<=d):MJ K aB aP aM c b a d bs rk rows nms kbs ls sts sn :=
 ⟨h.bl,h.ek,h.bd,h.nl,cq h.nk f,(λt g=>by
  obtain⟨j,l,e⟩:=h.nm t g;exact⟨j,bq l f,e⟩),h.nd,h.kb,h.mu,cq h.lq hl,h.lg,h.sq,h.sd,cq h.sk f,cq h.rl i,h.st⟩
theorem CP{α:Type}{F:α->V->Prop}:∀{l m:_a α}{vs ws:_a V},Paired F l vs->Paired F m ws->Paired F (l++m) (vs++ws)
 |[],_,_,_,h,g=>by
  cases h;exact g
 |_::_,_,_,_,h,g=>by
  cases h with
  |cons x y=>exact .cons x<|CP y g
theorem MJ.start{bs:_a (_m×_c)}{rk:_a (_m×_c×_j)}(d:Rq c bs rk)(e:Hv K aB aP aM (bs.map Fx++rk.map Gh) bs rk [] [] []):MJ K aB aP aM c 0 0 6 bs rk (bs.map Fx++rk.map Gh) [] [] [] [] []:=by
 refine⟨e,?_,d,U,Η _,(λ_ h=>nomatch h),ħ,⟨(λ_ h=>nomatch h),(λi k h=>by simp at h),by decide⟩,by decide,by decide,(λ_ h=>nomatch h),(λ_ h=>nomatch h),ħ,by decide,?_,by decide⟩
 .refine ź.mpr λr a=>?_;rcases aT.mp a with a | a
  .obtain⟨b,_,rfl⟩:=ay.mp a;exact (by decide:¬ Fj "board" = _g)
  .obtain⟨b,_,rfl⟩:=ay.mp a;exact (by decide:¬ Fj "rank" = _g)
 .rw[am,ah,ah];have:=d.lb;have:=d.lr;lia
theorem seq1{t u:TS}(S:St->Hp->Prop)(a:∀D':Ends,(∀σ' H',S σ' H'->D'.nx σ' H')->t D' σ H)(b:∀σ' H',S σ' H'->u D σ' H'):jr t u D σ H:=a { D with nx:=λσ' H'=>u D σ' H' } b
inductive qj(K:_q)(aB aP aM:_d)(vs:_a V)(H:Hp)(Q:VK)(d0:XK):Prop
|mk(a:_d)(ns:_a _j)(_:vs=[.ref a])(_:Dd K H a (ns.map V.int))(_:ns.length<=63)(_:vW K aB aP aM)(_:∀(D:_d) (FG:_a V) (c:_j) (bs:_a (_m×_c)) (rk:_a (_m×_c×_j)) (rows:_a R) (nms:_a _m) (kbs:_a Kb) (ls:_a (_a Ln)) (sts:_a _c) (sn:_a _m) H',H D=_o->Aj H H'->H' D=_b (.lst FG)->Paired (λ(r:R) v=>TupAt H' r.v v) rows FG->1<=bs.length->1<=rk.length->MJ K aB aP aM c 8 8 100 bs rk rows nms kbs ls sts sn->Q (.ref D) H')
theorem Jy:Am eo li<|Ae sRw:=Bc
inductive zX(H:Hp)(p:_d)(B:_d)(c:_j)(K:_q)(aB:_d)(aP:_d)(aM:_d)(a:_d)(i:_c)(σ:St)(H5:Hp):Prop
|mk(_:Aj H H5)(_:SrcAt H5 p)(bs:_a (_m × _c))(f':_a V)(_:H5 B=_b (.lst f'))(_:Paired (λb v=>TupAt H5 (Fx b).v v) bs f')(_:bs.length=i)(_:Rq c bs [])(_:Hv K aB aP aM (bs.map Fx) bs [] [] [] [])(v4 v5 v6 v7 v8 v9 oS:_)(_:σ=[_b (.ref a),_b<|.ref p,_b<|.int c,_b<|.ref B,v4,v5,v6,v7,v8,v9,oS])
inductive zf(H5:Hp)(a:_d)(p:_d)(c:_j)(B:_d)(i:_c)(v5:_r V)(v6:_r V)(v7:_r V)(v8:_r V)(v9:_r V)(σ':St)(H':Hp):Prop
|mk(most:_j)(_:1<=most)(_:most<=61)(_:Aj H5 H')(_:σ'=[_b (.ref a),_b (.ref p),_b (.int c),_b (.ref B),_b (.int ((0:_j)+(i:_j))),v5,v6,v7,v8,v9,_b (.int most)])
inductive wQ(H:Hp)(p:_d)(B:_d)(RA:_d)(bs:_a<|_m×_c)(c:_j)(K:_q)(aB:_d)(aP:_d)(aM:_d)(a:_d)(i:_c)(σ:St)(H5:Hp):Prop
|mk(rk:_a (_m × _c × _j))(_:W9 H H5 p B RA bs rk)(_:rk.length=i)(_:Rq c bs rk)(_:Hv K aB aP aM (bs.map Fx++rk.map Gh) bs rk [] [] [])(v4 v6 v7 v8 v9 oS:_)(_:σ=[_b (.ref a),_b (.ref p),_b (.int c),_b (.ref B),v4,_b (.ref RA),v6,v7,v8,v9,oS])
inductive zW(H:Hp)(p:_d)(B:_d)(RA:_d)(bs:_a<|_m×_c)(rk:_a<|_m×_c×_j)(S:_d)(K:_q)(aB:_d)(aP:_d)(aM:_d)(c:_j)(a:_d)(i:_c)(σ:St)(Hx:Hp):Prop
|mk(_:W9 H Hx p B RA bs rk)(D:_d)(vs:_a V)(rows:_a R)(nms:_a _m)(kbs:_a Kb)(ls:_a (_a Ln))(sn:_a _m)(_:H D=_o)(_:D≠p)(_:D≠B)(_:D≠RA)(_:D≠S)(_:Hx D=_b (.lst vs))(_:Paired (λ(r:R) v=>TupAt Hx r.v v) rows vs)(_:Hx S=_b (.lst<|sn.map V.str))(_:MJ K aB aP aM c i 8 (6+4 * i) bs rk rows nms kbs ls [] sn)(v4 v6 v9 oS:_)(_:σ=[_b (.ref a),_b<|.ref p,_b<|.int c,_b<|.ref B,v4,_b<|.ref RA,v6,_b<|.ref D,_b<|.ref S,v9,oS])
inductive xx(H:Hp)(p:_d)(B:_d)(RA:_d)(bs:_a<|_m×_c)(rk:_a<|_m×_c×_j)(F:_d)(ws:_a V)(c:_j)(i:_c)(z:Kb)(y0:V)(S:_d)(sn:_a _m)(K:_q)(aB:_d)(aP:_d)(aM:_d)(w:_P)(a:_d)(v6:_r V)(oS:_r V)(σ':St)(H':Hp):Prop
|mk(_:W9 H H' p B RA bs rk)(_:H' F=_b (.lst ws))(_:TupAt H' (kR (nB bs) (Iv c (6+i)) z).v y0)(_:H' S=_b (.lst (sn.map V.str)))(D:_d)(vs:_a V)(rows:_a R)(nms:_a _m)(kbs:_a Kb)(ls:_a (_a Ln))(_:H D=_o)(_:D≠p)(_:D≠B)(_:D≠RA)(_:D≠S)(_:H' D=_b (.lst vs))(_:Paired (λ(r:R) v=>TupAt H' r.v v) rows vs)(_:MJ K aB aP aM c (i+1) 8 (6+4 * i+4) bs rk rows nms kbs ls [] (sn++if z.w = "stop" then [Iv c (6+i)] else []))(_:σ'=[_b (.ref a),_b<|.ref p,_b<|.int c,_b<|.ref B,_b<|.int<|(0:_j)+(i:_j),_b<|.ref RA,v6,_b<|.ref D,_b<|.ref S,_b<|.ref F,oS])
inductive wR(H:Hp)(p:_d)(B:_d)(RA:_d)(bs:_a<|_m×_c)(rk:_a<|_m×_c×_j)(D:_d)(S:_d)(sn:_a _m)(K:_q)(aB:_d)(aP:_d)(aM:_d)(c:_j)(mk:_j)(nms:_a _m)(kbs:_a Kb)(ls:_a<|_a Ln)(a:_d)(j:_c)(σ:St)(Hx:Hp):Prop
|mk(_:W9 H Hx p B RA bs rk)(vs:_a V)(rows:_a R)(sts:_a _c)(_:Hx D=_b (.lst vs))(_:Paired (λ(r:R) v=>TupAt Hx r.v v) rows vs)(_:Hx S=_b (.lst<|sn.map V.str))(_:sts.length=j)(_:MJ K aB aP aM c mk.toNat 8 (6+4 * mk.toNat+j) bs rk rows nms kbs ls sts sn)(v4 v6 v9 oS:_)(_:σ=[_b (.ref a),_b<|.ref p,_b<|.int c,_b<|.ref B,v4,_b<|.ref RA,v6,_b<|.ref D,_b<|.ref S,v9,oS])
include N T in
theorem v_:BP P w K mg base BV 5 aD.Rw li<|qj K aB aP aM:=by
 refine N.FRw.1.DY Jy λH C Q E hr h=>?_;obtain⟨a,ns,rfl,hS,b3,F0,q⟩:=h;refine⟨_,(Ac (Be 1 Jy.nd U (Or.inl U) (BJ N.FLo (lW N T) hr<|Ao U (pv 0)<|Ao U Al Ab) (by kernel_rfl)<|.inl U)
  (Ac (Be 2 Jy.nd U (Or.inl U) (BJ N.FDw (fj N T) hr<|Ao U (pv 1)<|Ao U (BK Vr Al Al) Ab) (by kernel_rfl)<|.inl U)
  (Ac (Be 3 Jy.nd U (Or.inl U) (Cm Ab) (by kernel_rfl)<|.inl U)
  (Ac (DQ _M U (Dk U T.range<|Ao U (BK Bu Al<|BJ N.FDw (fj N T) hr<|Ao U (pv 1)<|Ao U Al Ab) Ab) (Bh (i:=4) Jy.nd U<|Or.inl U) (Ac (Be 10 Jy.nd U (Or.inl U) (B_ K (Cm<|Ao U Al<|Ao U Al Ab)<|Ci HJ U T.int gc<|Ao U (Dl (DX Bt (pv 4) Al<|Et _)<|Dh<|DX Bt (BK FW (pv 2) Al) Al<|Et _) Ab) (by kernel_rfl)<|.inl U)
  (Af<|Bq<|GR ci dA dE C_ (pv 3)<|Ao U (CQ<|Ao U Aw<|Ao U (BJ N.FNa (AAT N T) hr<|Ao U (pv 2)<|Ao U (pv 4) Ab)<|Ao U (BK Bu Al<|BJ N.FDw (fj N T) hr<|Ao U (pv 1)<|Ao U (pv 10) Ab) Ab) Ab)))
  (Ac (Be 5 Jy.nd U (Or.inl U) (Cm Ab) (by kernel_rfl)<|.inl U)
  (Ac (DQ _M U (Dk U T.range<|Ao U (BK Bu Al<|BJ N.FDw (fj N T) hr<|Ao U (pv 1)<|Ao U Al Ab) Ab) (Bh (i:=4) Jy.nd U<|Or.inl U) (Ac (Be 6 Jy.nd U (Or.inl U) (BJ N.FDw (fj N T) hr<|Ao U (pv 1)<|Ao U (BK Bu (BK Vr Al Al) Al) Ab) (by kernel_rfl)<|.inl U)
  (Ac (Be 10 Jy.nd U (Or.inl U) (B_ K (Cm<|Ao U Al<|Ao U Al Ab)<|Ci HJ U T.int gc<|Ao U (DX Bt (BK FW (pv 2) Al) Al<|Et _) Ab) (by kernel_rfl)<|.inl U)
  (Af<|Bq<|GR ci dA dE C_ (pv 5)<|Ao U (CQ<|Ao U Aw<|Ao U (BJ N.FNa (AAT N T) hr<|Ao U (pv 2)<|Ao U (BK Bu Al<|pv 4) Ab)<|Ao U (BK Bu Al<|BJ N.FDw (fj N T) hr<|Ao U (pv 1)<|Ao U (pv 10) Ab)<|Ao U (pv 6) Ab) Ab))))
  (Ac (Be 7 Jy.nd U (Or.inl U) (BK Rt (pv 3)<|pv 5) (by kernel_rfl)<|.inl U)
  (Ac (Be 8 Jy.nd U (Or.inl U) (Cm Ab) (by kernel_rfl)<|.inl U)
  (Ac (DQ _M U (Dk U T.range<|Ao U (Ay (Mf U) U T.min ma<|Ao U Al<|Ao U (Ay (QS U) U T.max ŉ<|Ao U Al<|Ao U (BK GZ (Ay BL U T.len bt<|Ao U (pv 0) Ab) Al) Ab) Ab) Ab) (Bh (i:=4) Jy.nd U<|Or.inl U) (Ac (Be 9 Jy.nd U (Or.inl U) (BJ N.FLj (wD N T) hr<|Ao U (BJ N.FLo (lW N T) hr<|Ao U (pv 0)<|Ao U (BK Bu Al<|pv 4) Ab)<|Ao U (pv 3)<|Ao U (pv 5)<|Ao U (BJ N.FNa (AAT N T) hr<|Ao U (pv 2)<|Ao U (BK Bu Al<|pv 4) Ab) Ab) (by kernel_rfl)<|.inl U)
  (Ac (Bg (PW.pt<|Fy (Bd PB (An K<|B_ K (pv 9) Al) Aw)<|Eu<|Bd Gw (Ay BL U T.len bt<|Ao U (Bp U (Bb (osc:=Ae sRw) (N:=eo) U U<|by decide) (Bl<|pv 7) (λ_ _ _ _=>(G7<|Bd Bt (An K<|pv 0) Aw))<|λ_ _ _ _=>(pv 0)) Ab) Al) (Af<|Be 7 Jy.nd U (Or.inl U) (BK Rt (pv 7)<|pv 9) (by kernel_rfl)<|.inl U) BR)
  (Af<|Bg (Bd Bt (An K<|B_ K (pv 9) Al) Aw) (Af<|Bq<|GR ci dA dE C_ (pv 8)<|Ao U (An K<|B_ K (pv 9) Al) Ab) BR))))
  (Ac (DQ _M U (Dk U T.range<|Ao U (Ay (Mf U) U T.min ma<|Ao U Al<|Ao U (Ay BL U T.len bt<|Ao U (pv 8) Ab) Ab) Ab) (Bh (i:=4) Jy.nd U<|Or.inl U)<|Af<|Bq<|GR ci dA dE C_ (pv 7)<|Ao U (BK kh (CQ<|Ao U Aw Ab)<|Ci Pu U T.tuple kL<|Ao U (FN Lk (pv 8) (Fi<|pv 4)<|Fi<|BK Bu (BK Bu (pv 4) Al)<|BJ N.FDw (fj N T) hr<|Ao U (pv 1)<|Ao U Al Ab) Ab) Ab)
  (Af<|Aq<|pv 7))))))))))),?_⟩
 refine⟨a,0,ns,U,hS,by decide,λp H1 hp s1 xz=>?_⟩;refine⟨⟨by decide,by decide,by decide⟩,p,_,U,xz,(by show (0:_j)<10 ^ (6:_j).toNat;decide),(by show (10:_j) ^ (6:_j).toNat<1073741824;decide),λc0 H2 ck f2 zw=>?_⟩;have s2:=Lb s1 hp f2;obtain⟨c,ec⟩:∃c:_j,((c0:_c):_j)=c:=⟨_,U⟩;rw[ec];refine⟨CV (by simp),λB hB=>?_⟩;obtain⟨H3,Z,t3,u3⟩:=Dr (o:=HO.lst []) hB;rw[Z];have y':=zw.mono t3;have s3:=s2.trans t3;have bS:H B=none:=s2.free hB;have an:B≠p:=zw.ne hB;refine⟨p,3,U,y',by decide,by decide,λt H4 ht f4 AN=>⟨_,U,by lia,by lia,?_⟩⟩;have s4:=Lb s3 hp f4;have u4:H4 B=_b (.lst []):=by rw[f4 B an];exact u3
 refine forR (lo:=0) (n:=(1+((t:_c):_j)).toNat) (zX H p B c K aB aP aM a)
  ⟨s4,AN,[],[],u4,.nil,U,⟨(λj b h=>by simp at h),(λj b h=>by simp at h),by decide,by decide⟩,Hv.nil,_,_,_,_,_,_,_,U⟩ ?_ ?_
 .rintro i _ rc σ H5 hi ⟨s5,vb,bs,f',M,L,sf,FF,GT,v4,v5,v6,v7,v8,v9,oS,rfl⟩;have ei:((0:_j)+(i:_j))=(i:_j):=iE _;refine gN (i:=4) ?_;try dsimp only
  refine seq1 (zf H5 a p c B i v5 v6 v7 v8 v9) (λD' hD=>?_)<|λσ' Hm h=>?_
  .refine⟨by show 2<=sizeLine;decide,λpm L3=>?_⟩;have tm:=A_ (o:=HO.lst [V.int 5,V.int 61]) L3;have um:upd H5 pm (HO.lst [V.int 5,V.int 61]) pm=_b (.lst [V.int 5,V.int 61]):=Ah;have fin:∀b:_O,∃m:_j,1<=m/\m<=61/\VJ [V.int 5,V.int 61] (if b=_g then 1 else 0)=_b (.int m):=λb=>by
    cases b with
    |true=>exact⟨61,by decide,by decide,U⟩
    |false=>exact⟨5,by decide,by decide,U⟩
   refine⟨U,Cz (λ_=>?_)<|λ_=>?_⟩
   .obtain⟨m,m1,m2,hm⟩:=fin (decide (V.int (c % 16)=V.int 3));exact⟨(by show (0:_j)<16;decide),U,.inr ⟨_,U,_,_,oP um,hm,hD _ _ ⟨m,m1,m2,tm,U⟩⟩⟩
   .obtain⟨m,m1,m2,hm⟩:=fin _p;exact .inr ⟨_,U,_,_,oP um,hm,hD _ _ ⟨m,m1,m2,tm,U⟩⟩
  obtain⟨m,m1,m2,sm,rfl⟩:=h;have M:=sm _ _ M;have L:=Ar sm L;have vb:=vb.mono sm;have s5:=s5.trans sm;refine⟨.inl ⟨U,_,oP M⟩,c,i,by rw[ei];rfl,by lia,λH6 s6=>?_⟩;refine⟨p,m,U,vb.mono s6,by lia,Y2 m2 (by decide),λz H7 hz f7 wS=>⟨by show 3<=sizeLine;decide,λT hT=>?_⟩⟩;generalize a5:upd H7 T _=H8;have t8:Aj H7 H8:=a5 ▸ A_ hT;have u8:H8 T=_b (.tup (Fx (Iv c bs.length,1+z)).v):=by
   rw[<-a5,Ah,sf];show _b (HO.tup [V.str "board",V.str<|Iv c i,V.int<|1+((z:_c):_j)])=_b (HO.tup [V.str "board",V.str<|Iv c i,V.int ((1+z:_c):_j)]);rw[B8];rfl
  have b7:H7 B=_b (.lst f'):=by rw[f7 B an];exact s6 _ _ M
  have b8:=t8 _ _ b7;have lv:=L.length;refine⟨f',b8,Ax<|by lia,?_⟩;have p8:Paired (λb v=>TupAt H8 (Fx b).v v) bs f':=Ar t8<|f7.QV (f:=λb=>(Fx b).v) (vb.mono s6)<|Ar s6 L
  refine rc _ _ ⟨MT ((Lb (s5.trans s6) hp f7).trans t8) bS,(wS.mono t8).put an,bs++[(Iv c bs.length,1+z)],f'++[V.ref T],Ah,(Bf p8 b8).snoc<|TupAt.upd ⟨T,U,u8⟩ b8,by rw[am,ax,sf],FF.d_ (by lia) (zor _ _)<|by lia,?_,_,_,_,_,_,_,_,U⟩;rw[ba];exact GT.d_ F0.f (Ij _ _) (FF.nb (al _)<|by lia) (λ_ h=>nomatch h) (λ_ h=>nomatch h) (by lia) (zor _ _)<|by lia
 rintro σ H5 ⟨s5,vb,bs,f',M,L,sf,FF,GT,v4,v5,v6,v7,v8,v9,oS,rfl⟩;have as:1<=bs.length/\bs.length<=3:=by lia
 clear sf ht u4 s4 AN f4 s3 y' u3 t3 hB s2 zw f2 s1 xz;refine⟨CV (by simp),λX xS=>?_⟩;obtain⟨H6,Z,t6,u6⟩:=Dr (o:=HO.lst []) xS;rw[Z];have bW:H X=none:=s5.free xS;have ap:X≠p:=vb.ne xS;have bd:X≠B:=_J<|Ag M xS
 have so:=vb.mono t6;refine⟨p,3,U,so,by decide,by decide,λt2 H7 IH f7 wS=>⟨_,U,by lia,by lia,?_⟩⟩;have W7:W9 H H7 p B X bs []:=(W9.mk (s5.trans t6) so ⟨f',t6 _ _ M,Ar t6 L⟩ ⟨[],u6,.nil⟩ an ap).draw hp f7 wS;clear so u6 t6 xS M L s5 vb f7 wS;refine forR (lo:=0) (n:=(1+((t2:_c):_j)).toNat) (wQ H p B X bs c K aB aP aM a)
  ⟨[],W7,U,FF,by rw[nS,cy];exact GT,_,_,_,_,_,_,U⟩ ?_ ?_
 .rintro i _ rc σ H8 hi ⟨rk,W8,xh,BD,IE,v4,v6,v7,v8,v9,oS,rfl⟩;have ei:((0:_j)+(i:_j))=(i:_j):=iE _;refine⟨⟨by decide,by decide,by decide⟩,p,_,U,W8.sr,(by show (0:_j)<10 ^ (9:_j).toNat+1;decide),(by show (10:_j) ^ (9:_j).toNat+1<1073741824;decide),λwd H9 Wp f9 sB=>?_⟩;have a9:((wd:_c):_j)<10 ^ (9:_j).toNat+1:=Wp;have e9:(10:_j) ^ (9:_j).toNat+1=1000000001:=by decide
  rw[e9] at a9;have Wa:=W8.draw hp f9 sB;refine⟨by show 2<=sizeLine;decide,λpm L3=>?_⟩;obtain⟨Hm,Z,tm,um⟩:=Dr (o:=HO.lst [V.int 14,V.int 70]) L3;rw[Z];have Wa:=Wa.same tm;obtain⟨m,m1,m2,hm⟩:∃m:_j,1<=m/\m<=70/\VJ [V.int 14,V.int 70] (if decide (V.int (c % 16)=V.int 3)=_g then 1 else 0)=_b (.int m):=by
   cases decide (V.int (c % 16)=V.int 3) with
   |true=>exact⟨70,by decide,by decide,U⟩
   |false=>exact⟨14,by decide,by decide,U⟩
  refine⟨(by show (0:_j)<16;decide),U,.inr ⟨_,U,_,_,oP um,hm,?_⟩⟩;obtain⟨i8,Ts,AH⟩:=Wa.r;refine⟨.inl ⟨U,_,oP Ts⟩,c,3+i,by rw[ei];rfl,by lia,λHb sb=>?_⟩;have Wb:=Wa.same sb;refine⟨p,m,U,Wb.sr,by lia,Y2 m2 (by decide),λz Hc hz fc AD=>⟨by show 4<=sizeLine;decide,λT hT=>?_⟩⟩;have Wc:=Wb.draw hp fc AD;generalize a6:upd Hc T _=Hd;have td:Aj Hc Hd:=a6 ▸ A_ hT;have ud:Hd T=_b (.tup (Gh (Iv c<|3+rk.length,1+z,((wd:_c):_j))).v):=by
   rw[<-a6,Ah,xh];show _b (HO.tup [V.str "rank",V.str<|Iv c<|3+i,V.int<|1+((z:_c):_j),V.int ((wd:_c):_j)])=_b (HO.tup [V.str "rank",V.str<|Iv c<|3+i,V.int ((1+z:_c):_j),V.int ((wd:_c):_j)]);rw[B8];rfl
  have AT:=Wc.same td;have rd:Hd X=_b (.lst i8):=td _ _<|by rw[fc X ap];exact sb _ _ Ts
  have pd:Paired (λr v=>TupAt Hd (Gh r).v v) rk i8:=Ar td<|fc.QV (f:=λr=>(Gh r).v) Wb.sr<|Ar sb AH
  have lv:=AH.length;refine⟨i8,rd,Ax<|by lia,?_⟩;obtain⟨bv,x8,AV⟩:=AT.b;refine rc _ _ ⟨rk++[(Iv c<|3+rk.length,1+z,((wd:_c):_j))],⟨MT AT.s bW,AT.sr.put ap,⟨bv,by rw[Ak (_J bd)];exact x8,Bf AV rd⟩,⟨i8++[V.ref T],Ah,(Bf pd rd).snoc<|TupAt.upd ⟨T,U,ud⟩ rd⟩,an,ap⟩,by rw[am,ax,xh],BD.rank (by lia) (zor _ _) (by lia) (ja _)<|by lia,?_,_,_,_,_,_,_,U⟩;rw[ba,<-dt];exact IE.rank F0.f (Ij _ _) (BD.nb (by have:=BD.lb;exact rx this (zor _ _))<|by lia) (BD.nr (al _)<|by lia) (λ_ h=>nomatch h) (by lia) (zor _ _) (by lia) (ja _)<|by lia
 rintro σ H8 ⟨rk,W8,xh,BD,IE,v4,v6,v7,v8,v9,oS,rfl⟩;have aw:1<=rk.length/\rk.length<=3:=by lia
 clear xh IH W7 GT FF;obtain⟨E9,aQ,BY⟩:=W8.b;obtain⟨FE,aZ,Co⟩:=W8.r;have ZU:=BY.length;have bN:=Co.length;refine⟨B,X,_,_,U,U,aQ,aZ,CV<|by lia,λD hD=>?_⟩;obtain⟨H9,Z,t9,u9⟩:=Dr (o:=HO.lst<|E9++FE) hD;rw[Z];have I:H D=none:=W8.s.free hD;have G:D≠p:=W8.sr.ne hD;have O:D≠B:=_J<|Ag aQ hD
 have W:D≠X:=_J<|Ag aZ hD
 have a2:Paired (λ(r:R) v=>TupAt H9 r.v v) (bs.map Fx++rk.map Gh)<|E9++FE:=CP (Bo (F:=λ(r:R) v=>TupAt H9 r.v v) Fx<|Ar t9 BY)<|Bo (F:=λ(r:R) v=>TupAt H9 r.v v) Gh<|Ar t9 Co
 have Wn:=W8.same t9;have R0:=MJ.start BD IE;clear aQ BY aZ Co t9 hD ZU bN W8 IE;refine⟨CV (by simp),λS A=>?_⟩;obtain⟨Ha,Z,ta,ua⟩:=Dr (o:=HO.lst []) A;rw[Z];have Wa:=Wn.same ta;have bm:H S=none:=Wn.s.free A;have a7:S≠p:=Wn.sr.ne A;have bn:S≠B:=(Wn.ne A).2.1;have bK:S≠X:=(Wn.ne A).2.2;have J:D≠S:=Ag u9 A;have da:=ta _ _ u9;have Yf:=Ar ta a2;clear u9 a2 Wn ta A;refine⟨a,_,U,.inl<|Wa.s.seq hS,_,_,U,_,_,U,?_⟩;obtain⟨mk,SK,cg⟩:∃mk:_j,(if (if (((ns.map V.int).length:_c):_j) - 2 > 0 then (((ns.map V.int).length:_c):_j) - 2 else 0)<8 then (if (((ns.map V.int).length:_c):_j) - 2 > 0 then (((ns.map V.int).length:_c):_j) - 2 else 0) else 8)=mk/\0<=mk/\mk<=8:=⟨_,U,by split <;> split <;> lia,by split <;> split <;> lia⟩;refine⟨mk,by rw[<-SK],by lia,Y2 cg.2 (by decide),?_⟩;clear SK;refine forR (lo:=0) (n:=mk.toNat) (zW H p B X bs rk S K aB aP aM c a)
  ⟨Wa,D,_,_,_,_,_,[],I,G,O,W,J,da,Yf,ua,R0.ldw<|eK _,_,_,_,_,U⟩ ?_ ?_
 .rintro i _ rc σ Hx hi ⟨Wx,D,C,s,Y,x,ls,u,I,G,O,W,J,dx,AK,sx,R9,v4,v6,v9,oS,rfl⟩;have ei:((0:_j)+(i:_j))=(i:_j):=iE _;have b2:i<8:=by lia
  refine⟨a,2+i,ns,by rw[ei];rfl,Wx.s.seq hS,by lia,λp2 Hb vn sb P8=>?_⟩;have Wb:=Wx.same sb;have n1:p2≠p:=Wx.sr.ne vn;have n2:p2≠B:=(Wx.ne vn).2.1;have n3:p2≠X:=(Wx.ne vn).2.2;have n4:D≠p2:=Ag dx vn;have n5:S≠p2:=Ag sx vn;have a8:H p2=none:=Wx.s.free vn;refine⟨c,6+i,by rw[ei];rfl,by lia,λHc sc=>?_⟩;have Wc:=Wb.same sc;have AD:=P8.mono sc;obtain⟨bv,x8,AV⟩:=Wc.b;obtain⟨rv,GS,AH⟩:=Wc.r;refine⟨p2,B,X,bs,rk,bv,rv,Iv c<|6+i,U,AD,x8,_J n2,AV,as.1,rx as.2 (by decide),(λb hb=>by
   obtain⟨j,hj⟩:=dS hb;exact (BD.b j b hj).2),GS,_J n3,AH,aw.1,rx aw.2 (by decide),λF ws z l Hd hF Sd F3 Bz hz=>?_⟩
  have AT:=Wc.st a8 n1 n2 n3 Sd AD;have dd:=Sd.sx _ _ (sc _ _<|sb _ _ dx) n4;have sd:=Sd.sx _ _ (sc _ _<|sb _ _ sx) n5;have QV:Paired (λ(r:R) v=>TupAt Hd r.v v) s C:=Sd.QV (f:=λr:R=>r.v) AD<|Ar (sb.trans sc) AK
  have b5:H F=none:=Wc.s.free hF;have ca:F≠D:=_J<|Ag (sc _ _<|sb _ _ dx) hF
  have b6:F≠S:=_J<|Ag (sc _ _<|sb _ _ sx) hF
  have bR:=Bz.length;rw[bi,ah] at bR;obtain⟨y0,Lv,SS⟩:=Br Bz (i:=0) U;have vl:=QV.length;have rl:=R9.rl;clear x8 AV GS AH Wb Wc P8 AD vn hF n1 n2 n3 sb sc Wx dx AK sx;refine gN (i:=9) ?_;try dsimp only
  refine lV (xx H p B X bs rk F ws c i z y0 S u K aB aP aM w a v6 oS) (λD' GB=>?_) ?_
  .have add:∀H',Aj Hd H'->(z.w = "mute"->(x.filter<|Gp "mute").length<5)->(z.w≠"stop"->(x.filter Y4).length<8)->V_ (Zk (vJ) (Nf 7)<|Nf 9) (Df 7) D' [_b (.ref a),_b<|.ref p,_b<|.int c,_b<|.ref B,_b<|.int<|(0:_j)+(i:_j),_b<|.ref X,v6,_b<|.ref D,_b<|.ref S,_b<|.ref F,oS] H':=λH' s' g1 g2=>by
    obtain⟨T0,rfl,sP⟩:=SS.mono s';refine⟨D,F,_,_,U,U,s' _ _ dd,s' _ _ F3,CV (by have:=hz.len;lia),λD2 vT=>?_⟩;have t2:=A_ (o:=HO.lst<|C++ws) vT;have st:=s'.trans t2;have W2:=AT.same s';refine GB _ _ ⟨AT.same st,st _ _ F3,⟨T0,U,t2 _ _ sP⟩,st _ _ sd,D2,C++ws,_,_,_,_,AT.s.free<|s'.free vT,?_,?_,?_,_J<|Ag (s' _ _ sd) vT,Ah,CP (Ar st QV)<|Ar st Bz,R9.add F0 (bq b2 (by decide)) U hz g1 (al _) g2,U⟩
    .exact W2.sr.ne vT
    .exact (W2.ne vT).2.1
    .exact (W2.ne vT).2.2
   obtain⟨T0,rfl,sP⟩:=id SS;refine⟨_,_,oP F3,Av (j:=0) Lv,_,_,oP sP,Av (j:=0) U,U,Cz (λg=>?_)<|λg=>?_⟩
   .have gw:z.w≠"mute":=λe=>by
     rw[_i (congrArg V.str<|by rw[Vn];exact e)] at g
     cases g
    refine Jx ?_;exact add Hd (Aj.refl _) (λe=>_z e gw)<|λ_=>cc (cr _ _) (by have:=R9.nk;exact cc this b2)
   .have gw:z.w = "mute":=by
     have g1:decide (V.str (kR (nB bs) (Iv c<|6+i) z).w=V.str "mute")=true:=by
      cases e:decide (V.str (kR (nB bs) (Iv c (6+i)) z).w=V.str "mute") with
      |true=>rfl
      |false=>exact _z (by rw[e];rfl) g
     have:=V.str.inj<|_s g1
     rw[Vn] at this;exact this
    have b4:=QV;have A:Dd K Hd D C:=.inl<|.inl dd
    refine⟨⟨_,A⟩,Ed (K:=K) (xs:=C) (λv=>decide (V.str (KJ Hd v).w=V.str "mute")) id A (Ax<|by lia) (λy hy H' hs R k=>?_) (λy hy _ H' hs R k=>k H'<|Aj.refl H')<|λD5 H5 OG s5 sf=>?_⟩
    .obtain⟨r,_,ht⟩:=Dg QV hy;have er:=Nv ht;obtain⟨T,rfl,hT⟩:=ht.mono hs;have kk:=k H'<|Aj.refl H'
     rw[er] at kk;exact⟨_,_,oP hT,Av (j:=0) U,U,kk⟩
    rw[nt] at sf;have el:(C.filter λv=>decide (V.str (KJ Hd v).w=V.str "mute")).length=(x.filter<|Gp "mute").length:=by
     rw[<-(NK (λr:R=>decide (V.str r.w=V.str "mute")) (λv=>decide (V.str (KJ Hd v).w=V.str "mute")) QV λr v _ h=>by rw[Nv h]).length];exact R9.cntu
    refine⟨D5,_,U,oP<|.inl sf,?_⟩;rw[el];refine Cz (λg2=>?_)<|λg2=>?_
    .have UP:(x.filter<|Gp "mute").length<5:=by have:=_s g2;lia
     exact add H5 s5 (λ_=>UP)<|λ_=>cc (cr _ _) (by have:=R9.nk;exact cc this b2)
    .refine GB _ _ ⟨AT.same s5,s5 _ _ F3,⟨T0,U,s5 _ _ sP⟩,s5 _ _ sd,D,C,s,Y,x,ls,I,G,O,W,J,s5 _ _ dd,Ar s5 QV,?_,U⟩;rw[_l (by rw[gw];decide),cy];exact R9.skip
  .rintro σ' H' ⟨We,P5,⟨T0,rfl,sP⟩,se,D,C,s,Y,x,ls,I,G,O,W,J,de,a3,Re,rfl⟩;refine⟨_,_,oP P5,Av (j:=0) Lv,_,_,oP sP,Av (j:=0) U,U,Cz (λg=>?_)<|λg=>?_⟩
   .have gw:z.w = "stop":=by
     have:=V.str.inj<|_s g
     rw[Vn] at this;exact this
    rw[_n gw] at Re;have sl:=Re.sk;rw[am] at sl;refine⟨.inl ⟨U,_,oP se⟩,_,_,oP P5,Av (j:=0) Lv,_,_,oP sP,Av (j:=1) U,_,se,Ax<|by rw[ah];exact LT (rx sl (rx b2 (by decide))),?_⟩;refine rc _ _ ⟨We.put bm a7 bn bK se,D,C,s,Y,x,ls,_,I,G,O,W,J,by rw[Ak J];exact de,Bf a3 se,?_,Re,_,_,_,_,U⟩;rw[Ah,ba];show _b (HO.lst<|u.map V.str++[V.str (kR (nB bs) (Iv c<|6+i) z).nm])=_;rw[Qv];rfl
   .have gw:z.w≠"stop":=λe=>g<|_i<|congrArg V.str<|by rw[Vn];exact e
    rw[_l gw,cy] at Re;exact rc _ _ ⟨We,D,C,s,Y,x,ls,_,I,G,O,W,J,de,a3,se,Re,_,_,_,_,U⟩
 rintro σ Hx ⟨Wx,D,C,s,Y,x,ls,u,I,G,O,W,J,dx,AK,sx,R9,v4,v6,v9,oS,rfl⟩;have b0:(u.map V.str).length=u.length:=ah ..;refine⟨S,_,U,oP<|.inl sx,_,_,U,?_⟩;obtain⟨m2,PU,cb,cd,ch⟩:∃m2:_j,(if (((u.map V.str).length:_c):_j)<2 then (((u.map V.str).length:_c):_j) else 2)=m2/\0<=m2/\m2<=2/\m2<=((u.length:_c):_j):=⟨_,U,by split <;> lia,by split <;> lia,by split <;> lia⟩;refine⟨m2,by rw[<-PU],by lia,by lia,?_⟩;clear PU;refine forR (lo:=0) (n:=m2.toNat) (wR H p B X bs rk D S u K aB aP aM c mk Y x ls a)
  ⟨Wx,C,s,[],dx,AK,sx,U,R9,_,_,_,_,U⟩ ?_ ?_
 .rintro j _ rc σ Hx hj ⟨Wx,C,s,a1,dx,AK,sx,b1,R9,v4,v6,v9,oS,rfl⟩;have ej:((0:_j)+(j:_j))=(j:_j):=iE _;refine⟨.inl ⟨U,_,oP dx⟩,by show 1<=sizeLine;decide,λT1 bP=>?_⟩;obtain⟨Hb,Z,t1,u1⟩:=Dr (o:=HO.tup [V.str "step"]) bP;rw[Z];have Wb:=Wx.same t1;refine⟨p,2,U,Wb.sr,by decide,by decide,λd Hc hd fc AD=>?_⟩;have Wc:=Wb.draw hp fc AD;have a4:Hc S=_b (.lst<|u.map V.str):=by rw[fc S a7];exact t1 _ _ sx
  have bL:Hc D=_b (.lst C):=by rw[fc D G];exact t1 _ _ dx
  have bB:Hc T1=_b (.tup [V.str "step"]):=by
   rw[fc T1 λe=>?_]
   .exact u1
   .obtain⟨l',sj⟩:=Wb.sr.some;rw[e,sj] at u1
    cases u1
  have bc:Paired (λ(r:R) v=>TupAt Hc r.v v) s C:=fc.QV (f:=λr:R=>r.v) Wb.sr<|Ar t1 AK
  have aN:j<u.length:=by lia
  have ab:FQ (u.map V.str) (_b<|(0:_j)+(j:_j)) (_b<|(0:_j)+(j:_j)+1+((d:_c):_j))=((u[j]::((u.drop<|j+1).take<|min (j+1+d) u.length - (j+1))).map V.str):=by
   have e2:(0:_j)+(j:_j)+1+((d:_c):_j)=((j+1+d:_c):_j):=by lia
   rw[e2,ej];unfold FQ;rw[HT.Gu,HT.Gu,b0,<-List.map_drop,<-gE];refine congrArg (Ļ V.str) ?_;rw[ġ (by exact fR aN:j<=u.length),ii aN];have e3:min (j+1+d) u.length - j=(min (j+1+d) u.length - (j+1))+1:=by lia
   rw[e3,ve]
  have aK:∀t∈u[j]::((u.drop<|j+1).take<|min (j+1+d) u.length - (j+1)),t∈u:=λt ht=>by
   rcases ce.mp ht with rfl | ht
   .exact eJ aN
   .exact mw<|gg ht
  have a0:(u[j]::((u.drop<|j+1).take<|min (j+1+d) u.length - (j+1))).Nodup:=by
   have h0:(u.drop j).Nodup:=R9.sd.sublist<|ip _ _
   rw[ii aN] at h0;exact h0.sublist<|List.Sublist.cons_cons _<|om _ _
  have ac:(u[j]::((u.drop<|j+1).take<|min (j+1+d) u.length - (j+1))).length<=24:=by
   rw[bi,cm];lia
  obtain⟨AB,b9,NA⟩:=R9.step F0 a0 ac aK<|by lia
  generalize (u.drop (j+1)).take (min (j+1+d) u.length - (j+1))=ts at ab aK a0 ac NA;generalize u[j]=t0 at ab aK a0 ac NA;refine⟨S,_,U,oP a4,λp5 L=>?_⟩;rw[ab];obtain⟨Hd,Z,t5,u5⟩:=Dr (o:=HO.lst<|(t0::ts).map V.str) L;rw[Z];refine⟨p5,_,U,.inl ⟨.inl<|.inl u5,λT2 tw=>?_⟩⟩;obtain⟨He,Z,t6,u6⟩:=Dr (o:=HO.tup<|(t0::ts).map V.str) tw;rw[Z];refine⟨T1,T2,_,_,U,U,oP<|t6 _ _<|t5 _ _ bB,oP u6,zD _ _,CV (by rw[Τ];show 1+_<=_;lia),λz=>_z z<|zD _ _,λ_ T3 bl=>?_⟩;have t7:=A_ (o:=HO.tup<|[V.str "step"]++(t0::ts).map V.str) bl;have u7:upd He T3 (HO.tup<|[V.str "step"]++(t0::ts).map V.str) T3=_b (.tup (⟨"step",t0,ts.map V.str⟩:R).v):=Ah;generalize upd He T3 (HO.tup ([V.str "step"]++(t0::ts).map V.str))=Hf at t7 u7 |-;have GY:=t5.trans<|t6.trans t7
  have df:=GY _ _ bL;have vl:=bc.length;have rl:=R9.rl;refine⟨C,df,Ax<|by lia,?_⟩;exact rc _ _ ⟨(Wc.same GY).put I G O W df,C++[V.ref T3],_,AB,Ah,(Bf (Ar GY bc) df).snoc<|TupAt.upd ⟨T3,U,u7⟩ df,by rw[Ak (_J J)];exact GY _ _ a4,by lia,NA,_,_,_,_,U⟩
 .rintro σ Hx ⟨Wx,C,s,a1,dx,AK,sx,b1,R9,v4,v6,v9,oS,rfl⟩;exact q D C c bs rk s Y x ls a1 u Hx I Wx.s dx AK as.1 aw.1<|R9.fin (by lia) (by decide)<|by lia
inductive Iz where
 | pull(v:V)
 | push(v:V)
 | store(v:V)
 | storeB(v b:V)
 | press(v:V)
 | shoe(v:V)
 | cancel
noncomputable def Iz.v:Iz->_a V
 |.pull v=>[.str "pull",v]
 |.push v=>[.str "push",v]
 |.store v=>[.str "store",v]
 |.storeB v b=>[.str "store",v,b]
 |.press v=>[.str "press",v]
 |.shoe v=>[.str "shoe",v]
 |.cancel=>[.str "cancel"]
theorem Ff{c A B:Prop}[š c](a:c)(h:A):if decide c=_g then A else B:=by
 rw[_i a,_n U];exact h
theorem FJ{c A B:Prop}[š c](a:¬ c)(h:B):if decide c=_g then A else B:=by
 rw[_t a,_l eI];exact h
theorem Eh{a b:_m}(h:(a == b)=_p):¬ V.str a=V.str b:=λz=>by
 rw[V.str.inj z,HV] at h
 cases h
theorem HR{a b:_m}{A B:Prop}(h:B)(c:(a == b)=false:=by decide):if decide (V.str a=V.str b)=_g then A else B:=FJ (Eh c) h
noncomputable def clE(cK cP cB cS:_d):_c->_d
 |0=>cK
 |1=>cP
 |2=>cB
 |_=>cS
structure Cs where
 dr:_c
 sh:_c
 m:_c->_r Ps
inductive Rs where
 | told(v:V)
 | no(i:_c)
noncomputable def JP(ks:_a R):V->_r _c
 |.str t=>if t∈I_ ks then _b ((I_ ks).idxOf t) else _o
 |_=>_o
noncomputable def JT:V->_r _c
 |.int i=>if 0<=i/\i<10 then _b i.toNat else _o
 |_=>_o
noncomputable def RN(n:_c):V->_r _c
 |.int i=>if 0<=i/\i<=(n:_c) then _b i.toNat else _o
 |_=>_o
noncomputable def zz(ns:_a _m)(ks:_a R)(dr:_c):V->_r Ps
 |.non=>_b<|.every dr
 |.str t=>if t∈ns then _b (.part (dr &&& G_ ks t)<|G_ ks t) else _o
 |_=>_o
noncomputable def T4(up:_O)(dr k:_c):Nat:=if up then dr ||| 2 ^ k else dr - (dr &&& 2 ^ k)
noncomputable def act(ns:_a _m)(ks:_a R)(n:_c)(s:Cs):Iz->Cs×Rs
 |.pull v=>match JP ks v with
  |some k=>(⟨T4 _g s.dr k,s.sh,s.m⟩,.told<|.bl (!decide (T4 _g s.dr k=s.dr)))
  |none=>(s,.no 0)
 |.push v=>match JP ks v with
  |some k=>(⟨T4 _p s.dr k,s.sh,s.m⟩,.told<|.bl (!decide (T4 _p s.dr k=s.dr)))
  |none=>(s,.no 0)
 |.store v=>match JT v with
  |some p=>(⟨s.dr,s.sh,Mw s.m p<|.every s.dr⟩,.told .non)
  |none=>(s,.no 1)
 |.storeB v b=>match JT v with
  |some p=>match zz ns ks s.dr b with
   |some ps=>(⟨s.dr,s.sh,Mw s.m p ps⟩,.told .non)
   |none=>(s,.no 2)
  |none=>(s,.no 1)
 |.press v=>match (JT v).bind s.m with
  |some ps=>(⟨ps.put s.dr,s.sh,s.m⟩,.told .non)
  |none=>(s,.no 1)
 |.shoe v=>match RN n v with
  |some i=>(⟨s.dr,i,s.m⟩,.told .non)
  |none=>(s,.no 3)
 |.cancel=>(⟨0,0,s.m⟩,.told .non)
theorem U_{v:V}(h:G9 ns v=.non)(e:v=.str t)(a:t∈ns):False:=by
 subst e;rw[yO a] at h
 cases h
theorem Wz{v:V}(h:G9 (I_ ks) v=.non):JP ks v=none:=by
 cases v with
 |str t=>exact _l λz=>U_ h U z
 |_=>rfl
theorem bZ{v:V}(h:Mx v=_p):JT v=none:=by
 cases v with
 |int i =>
  refine _l λz=>?_;have a:(decide (0<=i) && decide (i<10))=false:=h;rw[_i z.1,_i z.2] at a
  cases a
 |_=>rfl
theorem Kw{p:_c}(h:p<10):JT (.int (p:_c))=_b p:=_n ⟨ja _,BT.mpr h⟩
theorem vL{v:V}{p:_c}(h:JT v=_b p):v=.int (p:_c)/\p<10:=by
 cases v with
 |int i =>
  have a:(if 0<=i/\i<10 then _b i.toNat else _o)=_b p:=h;by_cases c:0<=i/\i<10
  .rw[_n c] at a;have:=_h a;exact⟨congrArg V.int<|by lia,by lia⟩
  .rw[_l c] at a
   cases a
 |_=>cases h
theorem jz{v:V}(h:qT n v=_p):RN n v=none:=by
 cases v with
 |int i =>
  refine _l λz=>?_;have a:(decide (0<=i) && decide (i<=(n:_c)))=false:=h;rw[_i z.1,_i z.2] at a
  cases a
 |_=>rfl
theorem aY(h:i<=n):RN n (.int (i:_c))=_b i:=_n ⟨ja _,KK.mpr h⟩
section
variable{s:Cs}{v b:V}
theorem U4(h:t∈I_ ks):act ns ks n s (.pull<|.str t)=(⟨T4 _g s.dr<|(I_ ks).idxOf t,s.sh,s.m⟩,.told<|.bl (!decide (T4 _g s.dr ((I_ ks).idxOf t)=s.dr))):=by
 unfold act;try dsimp only
 rw[show JP ks (.str t)=_b _ from _n h]
theorem Ue(h:t∈I_ ks):act ns ks n s (.push<|.str t)=(⟨T4 _p s.dr<|(I_ ks).idxOf t,s.sh,s.m⟩,.told<|.bl (!decide (T4 _p s.dr ((I_ ks).idxOf t)=s.dr))):=by
 unfold act;try dsimp only
 rw[show JP ks (.str t)=_b _ from _n h]
theorem Yz(h:G9 (I_ ks) v=.non):act ns ks n s (.pull v)=(s,.no 0):=by
 unfold act;try dsimp only
 rw[Wz h]
theorem ZS(h:G9 (I_ ks) v=.non):act ns ks n s (.push v)=(s,.no 0):=by
 unfold act;try dsimp only
 rw[Wz h]
theorem Qj{p:_c}(h:p<10):act ns ks n s (.store<|.int (p:_c))=(⟨s.dr,s.sh,Mw s.m p<|.every s.dr⟩,.told .non):=by
 unfold act;try dsimp only
 rw[Kw h]
theorem WL(h:Mx v=_p):act ns ks n s (.store v)=(s,.no 1):=by
 unfold act;try dsimp only
 rw[bZ h]
theorem N6{p:_c}(h:p<10):act ns ks n s (.storeB (.int (p:_c)) .non)=(⟨s.dr,s.sh,Mw s.m p<|.every s.dr⟩,.told .non):=by
 unfold act;try dsimp only
 rw[Kw h];rfl
theorem PQ{p:_c}(h:p<10)(a:t∈ns):act ns ks n s (.storeB (.int (p:_c))<|.str t)=(⟨s.dr,s.sh,Mw s.m p<|.part (s.dr &&& G_ ks t)<|G_ ks t⟩,.told .non):=by
 unfold act;try dsimp only
 rw[Kw h,show zz ns ks s.dr (.str t)=_b _ from _n a]
theorem SN(h:Mx v=_p):act ns ks n s (.storeB v b)=(s,.no 1):=by
 unfold act;try dsimp only
 rw[bZ h]
theorem R5(h:Mx v=_g)(a:b≠.non)(d:G9 ns b=.non):act ns ks n s (.storeB v b)=(s,.no 2):=by
 obtain⟨p,rfl,c⟩:=Wk h;unfold act;try dsimp only
 rw[Kw c];have e:zz ns ks s.dr b=none:=by
  cases b with
  |non=>exact (a U).elim
  |str t=>exact _l λz=>U_ d U z
  |_=>rfl
 rw[e]
theorem Qx{p:_c}{ps:Ps}(h:p<10)(a:s.m p=_b ps):act ns ks n s (.press<|.int (p:_c))=(⟨ps.put s.dr,s.sh,s.m⟩,.told .non):=by
 unfold act;try dsimp only
 rw[Kw h,Option.bind_some,a]
theorem Nx(h:∀p:_c,v=.int (p:_c)->p<10->s.m p=_o):act ns ks n s (.press v)=(s,.no 1):=by
 unfold act;try dsimp only
 have e:(JT v).bind s.m=none:=by
  cases z:JT v with
  |none=>rfl
  |some p =>
   obtain⟨e,a⟩:=vL z;exact h p e a
 rw[e]
theorem Sy(h:i<=n):act ns ks n s (.shoe<|.int (i:_c))=(⟨s.dr,i,s.m⟩,.told .non):=by
 unfold act;try dsimp only
 rw[aY h]
theorem Yr(h:qT n v=_p):act ns ks n s (.shoe v)=(s,.no 3):=by
 unfold act;try dsimp only
 rw[jz h]
end
def Fb(H H':Hp)(a b:_d):Prop:=∀c o,H c=_b o->c≠a->c≠b->H' c=_b o
theorem Ey.le{bs:_a (_m×_c)}{m:_c->_r Ps}{c b:_c}(h:Ey C Cy pE pA Ho H y x bs ks sts dr sh sd m c)(f:c<=b):Ey C Cy pE pA Ho H y x bs ks sts dr sh sd m b:=by
 obtain⟨a,e,g,d⟩:=h.st.ex;exact⟨h.o,h.f,h.hs,h.ny,a,e,cq g f,d⟩
theorem Gj.at9(h:Gj C Cy Ho H y x ks sts dr sh sd):Dj Cy H y x dr sh sd:=by
 obtain⟨⟨b,bs,rk,d,a⟩,c,e⟩:=h;exact a.c
noncomputable def Iz.wd:Iz->_m
 |.pull _=>"pull"
 |.push _=>"push"
 |.store _=>"store"
 |.storeB _ _=>"store"
 |.press _=>"press"
 |.shoe _=>"shoe"
 |.cancel=>"cancel"
noncomputable def Iz.args:Iz->_a V
 |.pull v=>[v]
 |.push v=>[v]
 |.store v=>[v]
 |.storeB v b=>[v,b]
 |.press v=>[v]
 |.shoe v=>[v]
 |.cancel=>[]
def Iz.odd(H:Hp):Iz->Prop
 |.pull v=>CZ H v
 |.push v=>CZ H v
 |.store v=>CZ H v
 |.storeB v b=>CZ H v/\CZ H b
 |.press v=>CZ H v
 |.shoe v=>CZ H v
 |.cancel=>Cf
theorem Iz.odd.mono(s:Aj H H'){d:Iz}(h:d.odd H):d.odd H':=by
 cases d with
 |pull v=>exact CZ.mono s h
 |push v=>exact CZ.mono s h
 |store v=>exact CZ.mono s h
 |storeB v b=>exact⟨CZ.mono s h.1,CZ.mono s h.2⟩
 |press v=>exact CZ.mono s h
 |shoe v=>exact CZ.mono s h
 |cancel=>exact h
inductive kj(C Cy pE pA cK cP cB cS:_d)(vs:_a V)(H:Hp)(Q:VK)(E:XK):Prop
|mk(Ho:Hp)(y x:_d)(bs:_a (_m×_c))(ks:_a R)(sts:_a _c)(s:Cs)(sd:_d)(c:_c)(Tp:_d)(d:Iz)(_:vs=[.ref y,.str d.wd,.ref Tp])(_:Ey C Cy pE pA Ho H y x bs ks sts s.dr s.sh sd s.m c)(_:c<900)(_:H Tp=_b (.tup d.args))(_:d.odd H)(_:∀s' u H',act (bs.map (·.1)) ks sts.length s d=(s',.told u)->Fb H H' y sd->Ey C Cy pE pA Ho H' y x bs ks sts s'.dr s'.sh sd s'.m (c+1)->Q .non H')(_:∀i H',act (bs.map (·.1)) ks sts.length s d=(s,.no i)->Aj H H'->E (.ref (clE cK cP cB cS i)) _o H')
theorem scDz:Am hX hX<|Ae sDz:=Bc
include N T in
theorem zj:BP P w K mg base (HH P w) 7 aD.Dz hX<|kj C Cy pE pA cK cP cB cS:=by
 have ab:BP P w K mg base (HH P w) 5 aD.Xp ey<|fX _g C Cy cK:=AAR N T
 have an:BP P w K mg base (HH P w) 5 aD.Xq ey<|fX _p C Cy cK:=yr N T
 have ac:BP P w K mg base (HH P w) 6 aD.Xt gp<|pF C Cy pE pA cP cB:=yE N T
 have Z:BP P w K mg base (HH P w) 3 aD.Xr ou<|rJ C Cy pE pA cP:=ye N T
 have Y:BP P w K mg base (HH P w) 3 aD.Xh pi<|pq C Cy cS:=zr N T
 refine N.FDz.1.LQ scDz λH vs Q E B h=>?_;obtain⟨G,y,x,bs,M,j,s,m,c,Tp,d,rfl,O,hc,q,J,u,D⟩:=h;have hu:=By B;refine⟨_,Af<|Bg (Bd Bt (pv 1) Aw) (Af<|Bq<|Fd (pv 0) T.clR N.FXp ab B<|Ao U (An K<|pv 2) Ab)<|Af<|Bg (Bd Bt (pv 1) Aw) (Af<|Bq<|Fd (pv 0) T.clR N.FXq an B<|Ao U (An K<|pv 2) Ab)<|Af<|Bg (Bd Bt (pv 1) Aw) (Af<|Bq<|XH (pv 0) T.clR N.FXt.2.2.1 ac (ae B) N.FXt.2.1 .nil Nr<|Ao U (An K<|pv 2)<|Ao U (K4 (Bd Bt (Ay BL U T.len bt<|Ao U (pv 2) Ab) Al) (An K<|pv 2) Er) Ab)<|Af<|Bg (Bd Bt (pv 1) Aw) (Af<|Bq<|Fd (pv 0) T.clR N.FXr Z B<|Ao U (An K<|pv 2) Ab)<|Af<|Bg (Bd Bt (pv 1) Aw) (Af<|Bq<|Dp (pv 0) T.clR N.FXc (wg N T) B)<|Af<|Bq<|Fd (pv 0) T.clR N.FXh Y B<|Ao U (An K<|pv 2) Ab,?_⟩;obtain⟨L,fs,A,_,_,_,_,_,F⟩:=id O.at.ex;have W:∀{a},SX y H a->Fb H a y m:=λ{_} c b o e n _=>c b o e n;have X:∀{a},SX m H a->Fb H a y m:=λ{_} c b o e _ n=>c b o e n
 cases d with
 |pull v =>
  refine⟨U,Ff U ⟨L,fs,A,F _<|by decide,_,_,oP q,U,G,y,x,M,j,s.dr,s.sh,m,v,U,O.ok,J,λt d2 a g k S ed R=>?_,λa l f=>D 0 a (Yz f) l⟩⟩;subst k;subst ed;exact u _ _ a (U4 S) (W g)<|(O.put g R.at9).le<|zor _ _
 |push v =>
  refine⟨U,FJ (Eh (show (("push" : _m) == "pull")=_p by decide)) ⟨U,Ff U ⟨L,fs,A,F _<|by decide,_,_,oP q,U,G,y,x,M,j,s.dr,s.sh,m,v,U,O.ok,J,λt d2 a g k S ed R=>?_,λa l f=>D 0 a (ZS f) l⟩⟩⟩;subst k;subst ed;exact u _ _ a (Ue S) (W g)<|(O.put g R.at9).le<|zor _ _
 |store v =>
  refine⟨U,FJ (Eh (show (("store" : _m) == "pull")=_p by decide)) ⟨U,FJ (Eh (show (("store" : _m) == "push")=_p by decide)) ⟨U,Ff U ⟨L,fs,A,F _<|by decide,_,_,oP q,U,Tp,_,U,.inr<|oP q,U,FJ (λz=>_z (V.int.inj z)<|by show ¬ ((1:_c):_j)=2;decide) ?_⟩⟩⟩⟩;refine⟨G,y,x,bs,M,j,s.dr,s.sh,m,s.m,c,v,.non,U,O,hc,J,.non,λp a k I _ g r=>?_,(λp t a _ _ k=>nomatch k),λa l f=>D 1 a (WL f) l,λa _ _ h=>(h U).elim⟩;subst k;exact u _ _ a (Qj I) (X g) r
 |storeB v b =>
  refine⟨U,FJ (Eh (show (("store" : _m) == "pull")=_p by decide)) ⟨U,FJ (Eh (show (("store" : _m) == "push")=_p by decide)) ⟨U,Ff U ⟨L,fs,A,F _<|by decide,_,_,oP q,U,Tp,_,U,.inr<|oP q,U,Ff U ⟨_,_,oP q,U,?_⟩⟩⟩⟩⟩;refine⟨G,y,x,bs,M,j,s.dr,s.sh,m,s.m,c,v,b,U,O,hc,J.1,J.2,λp a k I eb g r=>?_,λp t a k I eb S g r=>?_,λa l f=>D 1 a (SN f) l,λa l h8 h9 f=>D 2 a (R5 h8 h9 f) l⟩
  .subst k;subst eb;exact u _ _ a (N6 I) (X g) r
  .subst k;subst eb;exact u _ _ a (PQ I S) (X g) r
 |press v =>
  refine⟨U,FJ (Eh (show (("press" : _m) == "pull")=_p by decide)) ⟨U,FJ (Eh (show (("press" : _m) == "push")=_p by decide)) ⟨U,FJ (Eh (show (("press" : _m) == "store")=_p by decide)) ⟨U,Ff U ⟨L,fs,A,F _<|by decide,_,_,oP q,U,G,y,x,bs,M,j,s.dr,s.sh,m,s.m,c,v,U,O,J,λp ps a k I hm g r=>?_,λa l f=>D 1 a (Nx f) l⟩⟩⟩⟩⟩;subst k;exact u _ _ a (Qx I hm) (W g)<|r.le<|zor _ _
 |shoe v =>
  refine⟨U,FJ (Eh (show (("shoe" : _m) == "pull")=_p by decide)) ⟨U,FJ (Eh (show (("shoe" : _m) == "push")=_p by decide)) ⟨U,FJ (Eh (show (("shoe" : _m) == "store")=_p by decide)) ⟨U,FJ (Eh (show (("shoe" : _m) == "press")=_p by decide)) ⟨U,FJ (Eh (show (("shoe" : _m) == "cancel")=_p by decide)) ⟨L,fs,A,F _<|by decide,_,_,oP q,U,G,y,x,M,j,s.dr,s.sh,m,v,U,O.ok,J,λi a k hi g R=>?_,λa l f=>D 3 a (Yr f) l⟩⟩⟩⟩⟩⟩;subst k;exact u _ _ a (Sy hi) (W g)<|(O.put g R.at9).le<|zor _ _
 |cancel =>
  refine⟨U,FJ (Eh (show (("cancel" : _m) == "pull")=_p by decide)) ⟨U,FJ (Eh (show (("cancel" : _m) == "push")=_p by decide)) ⟨U,FJ (Eh (show (("cancel" : _m) == "store")=_p by decide)) ⟨U,FJ (Eh (show (("cancel" : _m) == "press")=_p by decide)) ⟨U,Ff U ⟨L,fs,A,F _<|by decide,G,y,x,bs,M,j,s.dr,s.sh,m,s.m,c,U,O,λa g r=>?_⟩⟩⟩⟩⟩⟩;exact u _ _ a U (W g)<|r.le<|zor _ _
noncomputable def lB(n:_c):V->_O
 |.int i=>decide (0<=i) && decide (i<(n:_c))
 |_=>_p
inductive sV(C cB cY:_d)(vs:_a V)(H:Hp)(Q:VK)(E:XK):Prop
|mk(x:_d)(us:_a V)(bs:_a (_m×_c))(rk:_a (_m×_c×_j))(ks:_a R)(ls:_a (_a Ln:_))(sts:_a _c)(v u:V)(_:vs=[.ref x,v,u])(_:Jv C H x us bs rk ks ls sts)(_:CZ H v)(_:CZ H u)(_:∀n∈bs.map (·.1),isNm n)(_:∀(j n:_c) (b:_m×_c) H',Aj H H'->v=.str b.1->u=.int (n:_c)->bs[j]? = _b b->(bs.map (·.1)).idxOf b.1=j->n<b.2->Q (.int ((((bs.take j).map (·.2)).sum+n:_c):_j)) H')(_:∀H',Aj H H'->G9 (bs.map (·.1)) v=.non->E (.ref cB) _o H')(_:∀(j:_c) (b:_m×_c) H',Aj H H'->v=.str b.1->bs[j]? = _b b->(bs.map (·.1)).idxOf b.1=j->lB b.2 u=_p->E (.ref cY) _o H')
theorem AAu:Am ["organ","name","number","board"] ll (Ae sKy):=Bc
include N T in
theorem AAc:BP P w K mg base (HH P w) 5 aD.Ky ll<|sV C cB cY:=by
 have y:BP P w K mg base (HH P w) 4 aD.Bn e7<|h_ C cB:=oE N T
 refine N.FKy.1.LQ AAu λH vs Q E d h=>?_;obtain⟨x,L,bs,rk,s,M,m,v,u,rfl,O,hv,A,hn,q,X,p⟩:=h;have hu:=By d;refine⟨_,(Ac (Be 3 AAu.nd U (Or.inl U) (B_ K (Dp (pv 0) T.cl N.FOb (Wl N T) d)<|BJ N.FBn y d<|Ao U (pv 0)<|Ao U (pv 1) Ab) (by kernel_rfl)<|.inl U)
  (Ac (Bg (PW.pt<|Fy (DP<|Di<|BJ N.FWh (Vd N T) d<|Ao U (pv 2) Ab)<|Eu<|DP<|Fv Ei Gw Al (pv 2)<|An K<|pv 3) (Af<|Ga T.xY.exY U T.xY.mY U Ih<|Ao U Aw Ab) BR)
  (Af<|Aq<|Fd (pv 0) T.cl N.FOk (bz N T) d<|Ao U (pv 1)<|Ao U (pv 2) Ab))),?_⟩
 obtain⟨⟨⟨I,fs,_,_,_,_,_,_,_,_,F,_,_,_,_,G,_⟩,_⟩,_⟩:=id O.o;refine⟨I,fs,F,G _<|by decide,x,bs,s,U,O.o.o,λDB f' H1 OI l B R=>?_⟩;refine⟨x,L,bs,rk,s,M,m,v,U,O.mono l,CZ.mono l hv,hn,λt g f V W=>?_,λg f e=>X g (l.trans f) e⟩;subst V;have o:=Gv W;rw[ar] at o;obtain⟨b,c,rfl⟩:=aI.mp o;generalize k:(bs.map (·.1)).idxOf b.1=j at c;clear o;have a:=l.trans f;obtain⟨yb,J,Tb,rfl,S⟩:=Br (Ar f R) c;refine⟨f',_,oP<|f _ _ B,Av J,?_⟩;refine⟨u,U,CZ.mono a A,?_⟩
 cases u with
 |int i =>
  refine Jz<|Cz (λr=>?_)<|λr=>?_
  .refine⟨_,_,oP S,U,?_⟩;by_cases D:i<((b.2:_c):_j)
   .refine ib ?_;rw[_i D];have i0:0<=i:=_s r;refine Jz ?_;obtain⟨n,rfl⟩:=iP i0;refine⟨I,fs,a _ _ F,G _<|by decide,x,bs,s,j,b,((n:_c):_j),U,(O.mono a).o.o,c,λY Z=>?_⟩;have e:((((bs.take j).map (·.2)).sum:_c):_j)+((n:_c):_j)=((((bs.take j).map (·.2)).sum+n:_c):_j):=by lia
    rw[e];exact q j n b Y (a.trans Z) U U c k<|by lia
   .refine ib ?_;rw[_t D];exact⟨by show 1<=1000;decide,p j b g a U c k<|by show (decide (0<=i) && decide (i<((b.2:_c):_j)))=_p;rw[_t D,Ă]⟩
  .exact⟨by show 1<=1000;decide,p j b g a U c k<|by show (decide (0<=i) && decide (i<((b.2:_c):_j)))=_p;rw[_t (λz=>r<|_i z),B6]⟩
 |_=>exact⟨by show 1<=1000;decide,p j b g a U c k U⟩
theorem La.new{b c:_d}(h:H z=_b (.ins Cp c<|Bj "hands" (.ref b) (Bj "console" (.ref y) (Bj "organ" (.ref x) [])))):La Cp H z x y b:=⟨c,_,h,U,U,U,λm a=>by
 simp only[dJ,Φ,Ô,Œ] at a;rcases a with rfl | rfl | rfl | rfl | rfl | rfl | rfl | rfl <;> rfl⟩
inductive uK(Cy Cp:_d)(vs:_a V)(H:Hp)(Q:VK)(d0:XK):Prop
|mk(z dz x:_d)(_:vs=[.ref z,.ref x])(_:H z=_b (.ins Cp dz []))(_:∀(y sd hd:_d) H',SX z H H'->H y=_o->H hd=_o->H' hd=_b (.dK [])->Dj Cy H' y x 0 0 sd->La Cp H' z x y hd->H sd=_o->H' sd=_b (.dK [])->sd≠y->hd≠sd->z≠y->Q .non H')
theorem scQi:Am hY hY<|Ae sQi:=Bc
include N T in
theorem AAl:BP P w K mg base BV 3 aD.Qi hY<|uK Cy Cp:=by
 refine N.FQi.1.DY scQi λH vs Q E R h=>?_;obtain⟨z,d,x,rfl,h1,q⟩:=h;have hu:=By R;have l:DN 2 _:=R;refine⟨_,(Ac (DG (pv 0) (pv 1) U)
  (Ac (DG (pv 0) (Kr N.FXi.2.2 (AAn N T) l U T.mCR N.FXi.2.1 .nil J7<|Aa (pv 1) Ab) U)
  (Af<|DG (pv 0) Hg U))),?_⟩
 refine⟨Cp,d,_,h1,T.clP,T.np_organ,by show 0<1000;decide,?_⟩;have D:upd H z (HO.ins Cp d<|Bj "organ" (.ref x) []) z=_b (.ins Cp d<|Bj "organ" (.ref x) []):=Ah;have B:SX z H<|upd H z<|HO.ins Cp d<|Bj "organ" (.ref x) []:=SX.up
 generalize upd H z (HO.ins Cp d (Bj "organ" (.ref x) []))=C at D B |-;have z1:=Fq "organ" (.ref x) [];have z0:([]:_a<|_m×V).length=0:=rfl;intro y O v W1 ab;have Z:Aj C<|upd (upd C O<|.own y) y<|.ins Cy O []:=λb o e=>by
  rw[Ak (Ag e v),Ak<|Ag e W1];exact e
 refine⟨y,O,x,U,Ah,λr i YE Y KS CA=>⟨U,?_⟩⟩;have u:Aj C i:=λb o e=>YE b o (Z b o e)<|Ag e v
 have x2:=u _ _ D;have t:C r=none:=Z.free Y;have j:r≠z:=_J<|Ag D t
 have z2:=Fq "console" (.ref y) (Bj "organ" (.ref x) []);refine⟨Cp,d,_,x2,T.clP,T.np_console,cc z1 (by decide),?_⟩;have f:y≠z:=_J<|Ag D v
 have G:upd i z (HO.ins Cp d<|Bj "console" (.ref y) (Bj "organ" (.ref x) [])) z=_b (.ins Cp d<|Bj "console" (.ref y) (Bj "organ" (.ref x) [])):=Ah;have S:SX z i<|upd i z<|HO.ins Cp d<|Bj "console" (.ref y) (Bj "organ" (.ref x) []):=SX.up
 have s:Dj Cy (upd i z<|HO.ins Cp d<|Bj "console" (.ref y) (Bj "organ" (.ref x) [])) y x 0 0 r:=by
  obtain⟨L,m,I,k⟩:=CA.ex;exact⟨L,m,by rw[Ak f];exact I,k⟩
 have g:upd i z (HO.ins Cp d<|Bj "console" (.ref y) (Bj "organ" (.ref x) [])) r=_b (.dK []):=by rw[Ak j];exact KS
 generalize upd i z (HO.ins Cp d (Bj "console" (.ref y) (Bj "organ" (.ref x) [])))=H3 at G S s g |-;intro W A;obtain⟨H4,k7,F,e4⟩:=Dr (o:=HO.dK []) A;rw[k7];refine⟨Cp,d,_,F _ _ G,T.clP,T.np_hands,cc z2 (Y' (cc z1 (by decide))),?_⟩;have p:W≠z:=_J<|Ag G A
 have X:=B.trans<|(SX.of u).trans S
 have free:∀{a:_d}{J:Hp},SX z H J->a≠z->J a=_o->H a=none:=λ{a} {J} c n h=>by
  cases e:H a with
  |none=>rfl
  |some ob =>
   have:=c a ob e n;rw[h] at this
   cases this
 have M:=s.mono F;refine q y r W _ (X.trans<|(SX.of F).trans SX.up) (free B f v) (free X p A) (by rw[Ak p];exact e4) ?_ (La.new Ah) (free B j t) (by rw[Ak j];exact F _ _ g) (_J<|Ag Ah Y) (_J<|Ag g A)<|_J f
 obtain⟨L,m,I,k⟩:=M.ex;exact⟨L,m,by rw[Ak f];exact I,k⟩
abbrev kH(k:_c):Key:=Key.inl ((k:_c):_j)
inductive sU(C Cy Cp:_d)(vs:_a V)(H:Hp)(Q:VK)(d0:XK):Prop
|mk(Ho:Hp)(z x y hd:_d)(us:_a V)(bs:_a (_m×_c))(rk:_a (_m×_c×_j))(ks:_a R)(ls:_a (_a Ln:_))(sts:_a _c)(dr sh:_c)(sd:_d)(kvs:_a (Key×V))(c:_c->_c)(k:_c)(_:vs=[.ref z,.int (k:_c)])(_:Zc C Cy Cp Ho H z x y hd us bs rk ks ls sts dr sh sd kvs c)(_:kvs.length<=900)(_:k<1200)(_:Q .non (upd H hd (.dK (putK kvs (kH k) (.int ((c k+1:_c):_j))))))
inductive uW(C Cy Cp cH:_d)(vs:_a V)(H:Hp)(Q:VK)(E:XK):Prop
|mk(Ho:Hp)(z x y hd:_d)(us:_a V)(bs:_a (_m×_c))(rk:_a (_m×_c×_j))(ks:_a R)(ls:_a (_a Ln:_))(sts:_a _c)(dr sh:_c)(sd:_d)(kvs:_a (Key×V))(c:_c->_c)(k:_c)(_:vs=[.ref z,.int (k:_c)])(_:Zc C Cy Cp Ho H z x y hd us bs rk ks ls sts dr sh sd kvs c)(_:kvs.length<=900)(_:k<1200)(_:c k=0->E (.ref cH) _o H)(_:0<c k->Q .non (upd H hd (.dK (putK kvs (kH k) (.int ((c k - 1:_c):_j))))))
inductive cC(C Cy Cp:_d)(vs:_a V)(H:Hp)(Q:VK)(d0:XK):Prop
|mk(Ho:Hp)(z x y hd:_d)(us:_a V)(bs:_a (_m×_c))(rk:_a (_m×_c×_j))(ks:_a R)(ls:_a (_a Ln:_))(sts:_a _c)(dr sh:_c)(sd:_d)(kvs:_a (Key×V))(c:_c->_c)(_:vs=[.ref z])(_:Zc C Cy Cp Ho H z x y hd us bs rk ks ls sts dr sh sd kvs c)(_:kvs.length<=500)(_:∀H',Aj H H'->Q (.int ((Wd.mk (El kvs):_c):_j)) H')
theorem scQh:Am f0 f0<|Ae sQh:=Bc
include N T in
theorem zm:BP P w K mg base BV 1 aD.Qh f0<|sU C Cy Cp:=by
 refine N.FQh.1.DY scQh λH r Q E j h=>?_;obtain⟨A,z,x,y,m,n,bs,rk,D,s,l,B,v,t,d,c,k,rfl,a,hl,F,q⟩:=h;have i:=By j;refine⟨_,Af<|Gz i (BX (pv 0) U) (pv 1) (BK Bu (Uv i (BX (pv 0) U) (pv 1) Al ⟨U,U,U,U⟩) Al) U,?_⟩;obtain⟨g,fs,e,u,p,f,o⟩:=id a.U9.ex;have b:=a.d;refine⟨Cp,g,fs,_,e,T.clP,T.np_hands,f,m,U,.inl ⟨d,.inl b⟩,_,Dm.k (k:=kH k) b,?_⟩;rw[a.h.getD k];exact⟨Cp,g,fs,_,e,T.clP,T.np_hands,f,_,Mr.k (k:=kH k) b<|Ax<|rx hl (by decide),q⟩
theorem scQl:Am f0 f0<|Ae sQl:=Bc
include N T in
theorem zQ:BP P w K mg base (HH P w) 1 aD.Ql f0<|uW C Cy Cp cH:=by
 refine N.FQl.1.LQ scQl λH R Q E o h=>?_;obtain⟨J,z,x,y,r,A,bs,rk,M,D,q,L,I,F,a,c,k,rfl,b,hl,S,p,t⟩:=h;have l:=By o;refine⟨_,(Ac (Bg (Bd Bt (Uv l (BX (pv 0) U) (pv 1) Al ⟨U,U,U,U⟩) Al) (Af<|Ga T.xH.exH U T.xH.mH U Ih<|Aa Aw Ab) BR)
  (Af<|Gz l (BX (pv 0) U) (pv 1) (BK GZ (DK l (BX (pv 0) U) (pv 1)<|λ_ _=>rfl) Al) U)),?_⟩
 obtain⟨j,fs,f,G,O,i,B⟩:=id b.U9.ex;have d:=b.d;refine⟨Cp,j,fs,_,f,T.clP,T.np_hands,i,r,U,.inl ⟨a,.inl d⟩,_,Dm.k (k:=kH k) d,?_⟩;rw[b.h.getD k];refine⟨U,Cz (λe=>?_)<|λe=>?_⟩
 .have:=V.int.inj<|_s e
  exact⟨by show 1<=1000;decide,p<|by lia⟩
 have v:0<c k:=Nat.pos_of_ne_zero λm=>e<|_i<|by rw[m];rfl
 have u:CW a (kH k)=_b (.int ((c k:_c):_j)):=(b.h.v k).resolve_right λm=>by lia
 have g:=Dm.k (k:=kH k) d;rw[u] at g;refine⟨Cp,j,fs,_,f,T.clP,T.np_hands,i,_,g,?_⟩;have s:((c k:_c):_j) - 1=((c k - 1:_c):_j):=by lia
 have n:=t v;rw[<-s] at n;exact⟨Cp,j,fs,_,f,T.clP,T.np_hands,i,_,Mr.k (k:=kH k) d<|Ax<|rx hl (by decide),n⟩
theorem lC{c:_c->_c}(h:F_ kvs c):((kvs.filter λkv=>match kv.2 with | .int n=>decide (0<n) | _=>_p).map λkv=>kV kv.1)=nV (El kvs):=by
 unfold El nV;rw[bb];refine fN λkv a=>?_;obtain⟨j,rfl,_⟩:=h.e kv (be.mp a).1;show V.int (j:_j)=V.int (((j:_j).toNat:_c):_j);rw[bp]
theorem scQe:Am dv dv<|Ae sQe:=Bc
include N T in
theorem bj:BP P w K mg base BV 4 aD.Qe dv<|cC C Cy Cp:=by
 refine N.FQe.1.DY scQe λH vs Q E s h=>?_;obtain⟨Ho,z,x,y,d,Z,bs,rk,ks,ls,I,dr,sh,sd,a,c,rfl,i,hl,q⟩:=h;have hu:=By s;refine⟨_,Af<|Aq<|BJ N.FSt (Qf N T) s<|Aa (Uj<|RP U (Io (osc:=Ae sQe) (N:=dv) U U<|by decide) (Zv<|BX (pv 0) U) (λ_ _ _ _=>(G7<|Bd R3 (pv 1) Al))<|λ_ _ _ _=>(pv 0)) Ab,?_⟩;obtain⟨B,fs,p,l1,l2,J,lm⟩:=id i.U9.ex;have r:=i.d;have L:z≠d:=λe=>by rw[e,r] at p;cases p
 refine⟨d,a,r,λg=>?_⟩;have m:upd H d (HO.frz g<|HO.dK a) d=_b (.frz g<|.dK a):=Ah;have t:upd H d (HO.frz g<|HO.dK a) z=_b (.ins Cp B fs):=by rw[Ak L];exact p
 have G:SX d H<|upd H d<|HO.frz g<|HO.dK a:=SX.up
 generalize upd H d (HO.frz g (HO.dK a))=H2 at m t G |-;refine⟨Cp,B,fs,_,t,T.clP,T.np_hands,J,d,g,a,U,m,WQ (K:=K) (λf=>match f.2 with | .int n=>decide (0<n) | _=>_p) (λf=>kV f.1) m (Ax<|rx hl (by decide)) (λf v l M R k=>?_) (λf v _ l M R k=>k l<|Aj.refl l)<|λD H3 V A F=>?_⟩
 .have O:=k l<|Aj.refl l
  obtain⟨j,rfl,_⟩:=i.h.e f v;exact O
 have X:=A _ _ m;refine⟨X,?_⟩;have W:D≠d:=_J<|Ag m V
 rw[lC i.h] at F;refine⟨D,El a,U,by rw[Ak W];exact F,by have:=Ym a;exact rx this hl,i.h.bound,λS Y=>?_⟩;refine q S λb u e=>Y b u ?_;by_cases o:b=d
 .rw[o,Ah,<-e,o,r]
 .rw[Ak o];exact A b u<|G b u e o
inductive iz(C Cy Cp:_d)(vs:_a V)(H:Hp)(Q:VK)(d0:XK):Prop
|mk(Ho:Hp)(z x y hd:_d)(us:_a V)(bs:_a (_m×_c))(rk:_a (_m×_c×_j))(ks:_a R)(ls:_a (_a Ln:_))(sts:_a _c)(dr sh:_c)(sd:_d)(kvs:_a (Key×V))(c:_c->_c)(_:vs=[.ref z])(_:Zc C Cy Cp Ho H z x y hd us bs rk ks ls sts dr sh sd kvs c)(_:∀n∈I_ ks,isNm n)(_:ks.length<=100)(_:sh<=sts.length)(_:sts.length<=100)(_:∀H',Aj H H'->Q (.int ((dr ||| Vx (sts.take sh):_c):_j)) H')
theorem scQk:Am dv dv<|Ae sQk:=Bc
include N T in
theorem lU:BP P w K mg base BV 3 aD.Qk dv<|iz C Cy Cp:=by
 refine N.FQk.1.DY scQk λH M Q E e h=>?_;obtain⟨n,z,x,y,J,g,bs,rk,u,i,b,s,l,j,r,c,rfl,a,B,D,t,d,q⟩:=h;have O:=By e;refine⟨_,Af<|Aq<|Dp (BX (pv 0) U) T.clR N.FXk (yF N T) e,?_⟩;obtain⟨A,fs,f,I,v,G,F⟩:=id a.U9.ex;have L:=a.d;obtain⟨o,p,m,_,_,_,_,_,k⟩:=id a.con.c.ex;exact⟨Cp,A,fs,_,f,T.clP,T.np_console,v,o,p,m,k _<|by decide,n,y,x,u,b,s,l,j,U,⟨⟨g,bs,rk,i,a.con⟩,B,D⟩,t,d,q⟩
inductive JS(cn:_c->_m)(sz:_a _c)(rk:_a<|_m×_c×_j)(kbs:_a Kb)(ls:_a<|_a Ln)(D n p:_c):Prop
|mk(cl:_a _c)(m:_c)(_:∀k,k∈cl ↔ ∃z,kbs[k]? = _b z/\z.w = "stop" /\ D.testBit k=_g)(_:∀j,m.testBit j=_g ↔ V8 cn sz kbs D n j)(_:p=uI sz rk kbs ls cl m)
structure mj(cn:_c->_m)(sz:_a _c)(rk:_a<|_m×_c×_j)(kbs:_a Kb)(ls:_a<|_a Ln)(sts:_a _c)(sh:_c)(kvs:_a<|Key×V)(c:_c->_c):Prop where
 kb:Tg sz.length kbs
 lg:oU rk ls
 nm:∀n∈I_ (Bw cn kbs),isNm n
 nk:(Bw cn kbs).length<=100
 sh:sh<=sts.length
 st:sts.length<=100
 kc:∀k,0<c k->k<sz.sum
 kl:kvs.length<=500
inductive jl(C Cy Cp:_d)(vs:_a V)(H:Hp)(Q:VK)(d0:XK):Prop
|mk(Ho:Hp)(z x y hd:_d)(us:_a V)(rk:_a (_m×_c×_j))(ls:_a (_a Ln:_))(sts:_a _c)(dr sh:_c)(sd:_d)(kvs:_a (Key×V))(c:_c->_c)(cn:_c->_m)(sz:_a _c)(kbs:_a Kb)(_:vs=[.ref z])(_:Zc C Cy Cp Ho H z x y hd us (Az cn sz) rk (Bw cn kbs) ls sts dr sh sd kvs c)(_:mj cn sz rk kbs ls sts sh kvs c)(_:∀(p:_c) H',Aj H H'->JS cn sz rk kbs ls (dr ||| Vx (sts.take sh)) (Wd.mk (El kvs)) p->Q (.int (p:_c)) H')
theorem scQs:Am dv dv<|Ae sQs:=Bc
include N T in
theorem nM:BP P w K mg base BV 8 aD.Qs dv<|jl C Cy Cp:=by
 refine N.FQs.1.DY scQs λH V Q E e h=>?_;obtain⟨u,z,x,y,v,p,rk,j,b,A,t,s,d,c,F,sz,k,rfl,a,ok,q⟩:=h;have X:=By e;refine⟨_,Af<|Aq<|BJ N.FSo (wk N T) e<|Aa (BX (pv 0) U)<|Aa (Dp (pv 0) T.clP N.FQk (lU N T) e)<|Aa (Dp (pv 0) T.clP N.FQe (bj N T) e) Ab,?_⟩;obtain⟨l,fs,g,D,S,M,r⟩:=id a.U9.ex;have O:=a.d;refine⟨Cp,l,fs,_,g,T.clP,T.np_organ,D,l,fs,g,r _<|by decide,u,z,x,y,v,p,_,rk,_,j,b,A,t,s,d,c,U,a,ok.nm,ok.nk,ok.sh,ok.st,λW f=>?_⟩;refine⟨l,fs,f _ _ g,r _<|by decide,u,z,x,y,v,p,_,rk,_,j,b,A,t,s,d,c,U,a.mono f,ok.kl,λR o=>?_⟩;exact⟨x,F,sz,rk,k,j,_,_,U,(a.con.o.o).mono<|a.con.s.trans<|f.trans o,ok.kb,ok.lg,Wd.Xx a.h.bound,(λi B=>ok.kc i<|(a.h.mem i).mp<|by rw[Wd.Ii] at B;exact _s B),λL m G J n I=>q _ G ((f.trans o).trans J) ⟨L,m,n,I,U⟩⟩
inductive Ea where
 | hold(v u:V)
 | leave(v u:V)
 | con(d:Iz)
noncomputable def Ea.v:Ea->_a V
 |.hold v u=>[.str "hold",v,u]
 |.leave v u=>[.str "leave",v,u]
 |.con d=>d.v
def Ea.odd(H:Hp):Ea->Prop
 |.hold v u=>CZ H v/\CZ H u
 |.leave v u=>CZ H v/\CZ H u
 |.con d=>d.odd H
theorem Ea.odd.mono(s:Aj H H'){d:Ea}(h:d.odd H):d.odd H':=by
 cases d with
 |hold v u=>exact⟨CZ.mono s h.1,CZ.mono s h.2⟩
 |leave v u=>exact⟨CZ.mono s h.1,CZ.mono s h.2⟩
 |con d=>exact Iz.odd.mono s h
inductive GC(bs:_a<|_m×_c)(v u:V)(k:_c):Prop
|mk(j n:_c)(b:_m×_c)(_:v=.str b.1)(_:u=.int (n:_c))(_:bs[j]? = _b b)(_:(bs.map (·.1)).idxOf b.1=j)(_:n<b.2)(_:k=((bs.take j).map (·.2)).sum+n)
structure JB(C Cy Cp pE pA:_d)(Ho H:Hp)(z x y hd:_d)(us:_a V)(bs:_a<|_m×_c)(rk:_a<|_m×_c×_j)(ks:_a R)(ls:_a<|_a Ln)(sts:_a _c)(s:Cs)(sd:_d)(kvs:_a<|Key×V)(c:_c->_c)(n:_c):Prop where
 p:Zc C Cy Cp Ho H z x y hd us bs rk ks ls sts s.dr s.sh sd kvs c
 f:uz bs ks
 hs:Ho sd=_o
 ny:sd≠y
 st:di pE pA H sd s.m n
 zy:z≠y
 hh:hd≠sd
def Fp(H H':Hp)(y sd hd:_d):Prop:=∀b o,H b=_b o->b≠y->b≠sd->b≠hd->H' b=_b o
section
variable{hd:_d}{bs:_a (_m×_c)}{rk:_a (_m×_c×_j)}{s s':Cs}{i6:_a (Key×V)}{c c':_c->_c}{n':_c}
theorem Fp.of(h:Aj H H'):Fp H H' y sd hd:=λb o e _ _ _=>h b o e
theorem Fp.trans{a:Hp}(h:Fp H H' y sd hd)(g:Fp H' a y sd hd):Fp H a y sd hd:=λb o e c d f=>g b o (h b o e c d f) c d f
theorem JB.con(h:JB C Cy Cp pE pA Ho H z x y hd us bs rk ks ls sts s sd kvs c n):Ey C Cy pE pA Ho H y x bs ks sts s.dr s.sh sd s.m n:=⟨⟨us,rk,ls,h.p.con⟩,h.f,h.hs,h.ny,h.st⟩
theorem JB.mono(e:Aj H H')(h:JB C Cy Cp pE pA Ho H z x y hd us bs rk ks ls sts s sd kvs c n):JB C Cy Cp pE pA Ho H' z x y hd us bs rk ks ls sts s sd kvs c n:=⟨h.p.mono e,h.f,h.hs,h.ny,h.st.mono e,h.zy,h.hh⟩
theorem JB.le(e:n<=n')(h:JB C Cy Cp pE pA Ho H z x y hd us bs rk ks ls sts s sd kvs c n):JB C Cy Cp pE pA Ho H z x y hd us bs rk ks ls sts s sd kvs c n':=by
 obtain⟨q,a,d,b⟩:=h.st.ex;exact⟨h.p,h.f,h.hs,h.ny,⟨q,a,cq d e,b⟩,h.zy,h.hh⟩
theorem JB.zA(h:JB C Cy Cp pE pA Ho H z x y hd us bs rk ks ls sts s sd kvs c n)(f:Fb H H' y sd)(k:Ey C Cy pE pA Ho H' y x bs ks sts s'.dr s'.sh sd s'.m n'):JB C Cy Cp pE pA Ho H' z x y hd us bs rk ks ls sts s' sd kvs c n':=by
 obtain⟨p,o,t,b⟩:=k.o;obtain⟨m,r,a,g⟩:=h.p.U9.ex;obtain⟨q,l,_⟩:=h.st.ex;obtain⟨u,fs,i,_⟩:=h.p.con.c.ex;have d:z≠sd:=λe=>by rw[e,l] at a;cases a
 have j:hd≠y:=λe=>by
  have:=h.p.d;rw[e,i] at this
  cases this
 exact⟨⟨⟨h.p.con.o,b.s,h.p.con.n,b.c⟩,⟨m,r,f _ _ a h.zy d,g⟩,h.p.n,f _ _ h.p.d j h.hh,h.p.h⟩,h.f,h.hs,h.ny,k.st,h.zy,h.hh⟩
theorem JB.lO(h:JB C Cy Cp pE pA Ho H z x y hd us bs rk ks ls sts s sd kvs c n)(g:F_ i6 c'):JB C Cy Cp pE pA Ho (upd H hd<|.dK i6) z x y hd us bs rk ks ls sts s sd i6 c' n:=by
 refine⟨h.p.put g,h.f,h.hs,h.ny,?_,h.zy,h.hh⟩;obtain⟨q,k,m,b,j⟩:=h.st.ex;refine⟨q,by rw[Ak (_J h.hh)];exact k,m,b,λp f a i=>?_⟩;obtain⟨o,d,l⟩:=j p f a i;refine⟨o,d,l.keep λ_ _ _ e=>?_⟩;rw[Ak λz=>by rw[z,h.p.d] at e;cases e];exact e
end
theorem rT{s:Cs}(h:s.sh<=n)(d:Iz):(act ns ks n s d).1.sh<=n:=by
 cases d with
 |pull v =>
  unfold act;try dsimp only
  split <;> exact h
 |push v =>
  unfold act;try dsimp only
  split <;> exact h
 |store v =>
  unfold act;try dsimp only
  split <;> exact h
 |storeB v b =>
  unfold act;try dsimp only
  split
  .split <;> exact h
  .exact h
 |press v =>
  unfold act;try dsimp only
  split <;> exact h
 |shoe v =>
  unfold act;try dsimp only
  split
  .rename_i i c
   cases v with
   |int k =>
    have a:(if 0<=k/\k<=(n:_c) then _b k.toNat else _o)=_b i:=c;by_cases e:0<=k/\k<=(n:_c)
    .rw[_n e] at a;have:=_h a;show i<=n;lia
    .rw[_l e] at a
     cases a
   |_=>cases c
  .exact h
 |cancel=>exact eK _
def Wv(bs:_a<|_m×_c)(ks:_a R)(n:_c)(s:Cs)(c:_c->_c)(d:Ea)(s':Cs)(c':_c->_c):Prop:=match d with
 |.hold v u=>s'=s/\∃k,GC bs v u k/\c'=setC c k (c k+1)
 |.leave v u=>s'=s/\∃k,GC bs v u k/\0<c k/\c'=setC c k (c k - 1)
 |.con d=>c'=c/\∃u,act (bs.map (·.1)) ks n s d=(s',.told u)
def dg(cK cP cB cS cH cY:_d)(bs:_a<|_m×_c)(ks:_a R)(n:_c)(s:Cs)(c:_c->_c)(d:Ea)(a:_d):Prop:=match d with
 |.hold v u=>(a=cB/\G9 (bs.map (·.1)) v=.non) \/ (a=cY/\∃(j:_c)(b:_m × _c),v=.str b.1/\bs[j]? = _b b/\(bs.map (·.1)).idxOf b.1=j/\lB b.2 u=_p)
 |.leave v u=>(a=cB/\G9 (bs.map (·.1)) v=.non) \/ (a=cY/\∃(j:_c)(b:_m × _c),v=.str b.1/\bs[j]? = _b b/\(bs.map (·.1)).idxOf b.1=j/\lB b.2 u=_p) \/ (a=cH/\∃k,GC bs v u k/\c k=0)
 |.con d=>∃i,act (bs.map (·.1)) ks n s d=(s,.no i)/\a=clE cK cP cB cS i
inductive qb(K:_q)(vs:_a V)(H:Hp)(Q:VK)(d0:XK):Prop
|mk(t:_d)(d:Ea)(_:vs=[.ref t])(_:H t=_b (.tup d.v))(_:∀H',Aj H H'->Q (.bl _g) H')
theorem scId:Am fx fx<|Ae sId:=Bc
include N T in
theorem xO:BP P w K mg base BV 1 aD.Id fx<|qb K:=by
 refine N.FId.1.DY scId λH p Q E o h=>?_;obtain⟨t,d,rfl,a,q⟩:=h;refine⟨_,(Ac (Bg (PW.pt<|Fy (DP<|Di<|Ay DW U T.isin cf<|Aa (pv 0)<|Aa (Em (v:=.ty "tuple") U T.tuple kL U) Ab)<|Fy (DP<|O5 (pv 0)<|λ_=>rfl)<|Eu<|DP<|Di<|Ay DW U T.isin cf<|Aa (An K<|pv 0)<|Aa (Em (v:=.ty "str") U T.str jS U) Ab) (Af<|Aq JN) BR)
  (Af<|Aq<|DX Qp (Ay BL U T.len bt<|Aa (pv 0) Ab) (cG (Cu (v:=.ref aQ) U T.mQ U) (An K<|pv 0) (CQ Ab) ⟨U,U,U,U⟩) U)),?_⟩
 obtain⟨k,r,l,g,b,i,m⟩:∃w r l,d.v=V.str w::r/\(w,l)∈pcL/\l.all GP=_g/\inV (.int ((V.str w::r).length:_c)) l=true:=by
  rcases d with _ | _ | d <;> try cases d
  all_goals
   refine⟨_,_,?_,U,?_,?_,?_⟩;rotate_left
   .unfold pcL;repeat first | exact .head _ | apply List.Mem.tail
   .rfl
   .rfl
 obtain⟨f,c,n⟩:=T.pc _ b;rw[g] at a;refine⟨_,"tuple",_,_,U,.tup a,oV,?_⟩;refine⟨_,.inr<|.inl ⟨_,oP a,U⟩,?_⟩;refine⟨_,.str k,oP a,Av (j:=0) U,_,"str",_,_,U,.str _,W_,?_⟩;refine⟨t,_,U,.inr<|oP a,aQ,U,T.dQ,_,_,oP a,Av (j:=0) U,CV<|eK _,λs e=>?_⟩;exact⟨_,_,U,c,.ref f,U,λ_=>⟨_,.inr<|n.sq _,U,i,(show Q (.bl<|inV (.int _) l) _ by rw[m];exact q _<|A_ e)⟩,λh=>by cases h⟩
inductive qY(C Cy Cp pE pA cK cP cB cS cH cY:_d)(vs:_a V)(H:Hp)(Q:VK)(E:XK):Prop
|mk(Ho:Hp)(z x y hd:_d)(us:_a V)(bs:_a (_m×_c))(rk:_a (_m×_c×_j))(ks:_a R)(ls:_a (_a Ln:_))(sts:_a _c)(s:Cs)(sd:_d)(kvs:_a (Key×V))(c:_c->_c)(n:_c)(t:_d)(d:Ea)(_:vs=[.ref z,.ref t])(_:H t=_b (.tup d.v))(_:d.odd H)(_:JB C Cy Cp pE pA Ho H z x y hd us bs rk ks ls sts s sd kvs c n)(_:kvs.length<=900)(_:n<900)(_:∀v u k,GC bs v u k->k<1200)(_:∀s' i6 c' H',Wv bs ks sts.length s c d s' c'->Fp H H' y sd hd->JB C Cy Cp pE pA Ho H' z x y hd us bs rk ks ls sts s' sd i6 c' (n+1)->i6.length<=kvs.length+1->Q .non H')(_:∀a H',dg cK cP cB cS cH cY bs ks sts.length s c d a->Aj H H'->E (.ref a) _o H')
theorem scQa:Am hK hK<|Ae sQa:=Bc
include N T in
theorem xP:BP P w K mg base (HH P w) 8 aD.Qa hK<|qY C Cy Cp pE pA cK cP cB cS cH cY:=by
 have ab:BP P w K mg base (HH P w) 5 aD.Ky ll<|sV C cB cY:=AAc N T
 have ac:BP P w K mg base (HH P w) 1 aD.Ql f0<|uW C Cy Cp cH:=zQ N T
 have an:BP P w K mg base (HH P w) 7 aD.Dz hX<|kj C Cy pE pA cK cP cB cS:=zj N T
 refine N.FQa.1.LQ scQa λH vs Q E L h=>?_;obtain⟨Ho,z,x,y,sA,us,bs,rk,Y,ls,r,s,sd,B,c,n,t,d,rfl,ht,Z,D,hl,EU,hk,q1,X⟩:=h;have hu:=By L;refine⟨_,(Ac (Bg (DP<|Di<|BJ N.FId (xO N T) L<|Aa (pv 1) Ab) (Af JG) BR)
  (Af<|Bg (Bd Bt (An K<|pv 1) Aw) (Af<|Bq<|Fd (pv 0) T.clP N.FQh (zm N T) L<|Aa (BJ N.FKy ab L<|Aa (BX (pv 0) U)<|Aa (An K<|pv 1)<|Aa (An K<|pv 1) Ab) Ab)<|Af<|Bg (Bd Bt (An K<|pv 1) Aw) (Af<|Bq<|Fd (pv 0) T.clP N.FQl ac L<|Aa (BJ N.FKy ab L<|Aa (BX (pv 0) U)<|Aa (An K<|pv 1)<|Aa (An K<|pv 1) Ab) Ab)<|Af<|Bq<|BJ N.FDz an L<|Aa (BX (pv 0) U)<|Aa (An K<|pv 1)<|Aa (FN Rb (pv 1) (Fi Al) Gk) Ab)),?_⟩
 obtain⟨dz,fs,h1,l1,l2,l3,lm⟩:=id D.p.U9.ex;have vi:=D.p.d;refine⟨t,d,U,ht,λH1 g=>Jz ?_⟩;have Bi:=D.mono g;have A:=g _ _ ht
 cases d with
 |hold v u =>
  refine⟨_,_,oP A,U,U,Ff U ?_⟩;refine⟨dz,fs,g _ _ h1,lm _<|by decide,Cp,dz,fs,_,g _ _ h1,T.clP,T.np_organ,l1,_,_,oP A,U,_,_,oP A,U,x,us,bs,rk,Y,ls,r,v,u,U,Bi.p.con.o.mono Bi.p.con.s,CZ.mono g Z.1,CZ.mono g Z.2,D.f.bn,λj m b q p J eu W M S=>?_,λq p l=>X cB q (.inl ⟨U,l⟩)<|g.trans p,λj b q p J W M l=>X cY q (.inr ⟨U,j,b,J,W,M,l⟩)<|g.trans p⟩;have G:GC bs v u (((bs.take j).map (·.2)).sum+m):=⟨j,m,b,J,eu,W,M,S,U⟩;have I:=hk _ _ _ G;generalize ((bs.take j).map (·.2)).sum+m=k at G I |-;have a:=g.trans p;have F:=D.mono a;refine⟨Ho,z,x,y,sA,us,bs,rk,Y,ls,r,s.dr,s.sh,sd,B,c,k,U,F.p,hl,I,?_⟩;exact q1 s (putK B (kH k)<|.int ((c k+1:_c):_j)) (setC c k<|c k+1) _ ⟨U,k,G,U⟩ ((Fp.of a).trans λb o e _ _ e3=>by rw[Ak e3];exact e) ((F.lO<|D.p.h.put (n:=c k+1) I).le<|zor _ _) Ut
 |leave v u =>
  refine⟨_,_,oP A,U,U,HR<|⟨_,_,oP A,U,U,Ff U ?_⟩⟩;refine⟨dz,fs,g _ _ h1,lm _<|by decide,Cp,dz,fs,_,g _ _ h1,T.clP,T.np_organ,l1,_,_,oP A,U,_,_,oP A,U,x,us,bs,rk,Y,ls,r,v,u,U,Bi.p.con.o.mono Bi.p.con.s,CZ.mono g Z.1,CZ.mono g Z.2,D.f.bn,λj m b q p J eu W M S=>?_,λq p l=>X cB q (.inl ⟨U,l⟩)<|g.trans p,λj b q p J W M l=>X cY q (.inr<|.inl ⟨U,j,b,J,W,M,l⟩)<|g.trans p⟩;have G:GC bs v u (((bs.take j).map (·.2)).sum+m):=⟨j,m,b,J,eu,W,M,S,U⟩;have I:=hk _ _ _ G;generalize ((bs.take j).map (·.2)).sum+m=k at G I |-;have a:=g.trans p;have F:=D.mono a;refine⟨Ho,z,x,y,sA,us,bs,rk,Y,ls,r,s.dr,s.sh,sd,B,c,k,U,F.p,hl,I,λe0=>X cH q (.inr<|.inr ⟨U,k,G,e0⟩) a,λe0=>?_⟩;exact q1 s (putK B (kH k)<|.int ((c k - 1:_c):_j)) (setC c k<|c k - 1) _ ⟨U,k,G,e0,U⟩ ((Fp.of a).trans λb o e _ _ e3=>by rw[Ak e3];exact e) ((F.lO<|D.p.h.put (n:=c k - 1) I).le<|zor _ _) Ut
 |con d =>
  have fin:∀(xs:_a V),xs=d.args->∀R,H1 R=_o->kj C Cy pE pA cK cP cB cS [.ref y,.str d.wd,.ref R] (upd H1 R<|.tup xs) (λ_ q=>Q .non q) E:=λxs ex R O=>by
   subst ex;have p:=A_ (o:=HO.tup d.args) O;have a:=g.trans p;have F:=D.mono a;refine⟨Ho,y,x,bs,Y,r,s,sd,n,R,d,U,F.con,EU,Ah,Iz.odd.mono a Z,λs' u H' ha f k=>?_,λi H' ha s3=>X _ H' ⟨i,ha,U⟩<|a.trans s3⟩;exact q1 s' B c H' ⟨U,u,ha⟩ ((Fp.of a).trans λb o e e1 e2 _=>f b o e e1 e2) (F.zA f k)<|kA _
  cases d
  all_goals
   refine⟨_,_,oP A,U,U,HR<|⟨_,_,oP A,U,U,HR  ?_⟩⟩;refine⟨Cp,dz,fs,_,g _ _ h1,T.clP,T.np_console,l2,_,_,oP A,U,t,_,U,oP A,(λe=>(show (1:_c)≠0 by decide) e.1),λR O=>?_⟩;exact fin _ U R O
def qK(a b:_c):Nat:=a - (a &&& b)
theorem YD(a b:_c):Χ ((a:_c):_j) (_S ((b:_c):_j))=((qK a b:_c):_j):=by
 unfold Χ _S qK;have d:decide (0<=((a:_c):_j))=true:=_i<|ja _
 have e:decide (0 <= -((b:_c):_j) - 1)=false:=_t<|by lia
 rw[d,e];show ((a:_c):_j) - (((((a:_c):_j).toNat &&& (-(-((b:_c):_j) - 1) - 1).toNat:_c)):_j)=_;have c:(-(-((b:_c):_j) - 1) - 1).toNat=b:=by lia
 rw[c,bp];have:=@B1 a b;lia
theorem dC(a b:_c):qK a b<=a:=Nat.sub_le _ _
structure M3(C Cy Cp pE pA:_d)(Ho H:Hp)(z x y hd:_d)(us:_a V)(rk:_a<|_m×_c×_j)(ls:_a<|_a Ln)(sts:_a _c)(s:Cs)(sd:_d)(kvs:_a<|Key×V)(c:_c->_c)(n:_c)(cn:_c->_m)(sz:_a _c)(kbs:_a Kb):Prop where
 p:JB C Cy Cp pE pA Ho H z x y hd us (Az cn sz) rk (Bw cn kbs) ls sts s sd kvs c n
 o:mj cn sz rk kbs ls sts s.sh kvs c
 bd:∀D n p,JS cn sz rk kbs ls D n p->p<2 ^ 1200
 ky:∀v u k,GC (Az cn sz) v u k->k<sz.sum
 ks:sz.sum<1200
noncomputable abbrev vR(s:Cs)(sts:_a _c):Nat:=s.dr ||| Vx (sts.take s.sh)
section
variable{hd:_d}{rk:_a (_m×_c×_j)}{s s':Cs}{i6:_a (Key×V)}{c c':_c->_c}{n':_c}{sz:_a _c}
theorem M3.mono(e:Aj H H')(h:M3 C Cy Cp pE pA Ho H z x y hd us rk ls sts s sd kvs c n cn sz kbs):M3 C Cy Cp pE pA Ho H' z x y hd us rk ls sts s sd kvs c n cn sz kbs:=⟨h.p.mono e,h.o,h.bd,h.ky,h.ks⟩
theorem M3.step(h:M3 C Cy Cp pE pA Ho H z x y hd us rk ls sts s sd kvs c n cn sz kbs){d:Ea}(e:Wv (Az cn sz) (Bw cn kbs) sts.length s c d s' c')(g:JB C Cy Cp pE pA Ho H' z x y hd us (Az cn sz) rk (Bw cn kbs) ls sts s' sd i6 c' n')(hl:i6.length<=500):M3 C Cy Cp pE pA Ho H' z x y hd us rk ls sts s' sd i6 c' n' cn sz kbs:=by
 have a:s'.sh<=sts.length/\∀k,0<c' k->k<sz.sum:=by
  cases d with
  |hold v u =>
   obtain⟨rfl,k,f,rfl⟩:=e;refine⟨h.o.sh,λi b=>?_⟩;by_cases z:i=k
   .rw[z];exact h.ky _ _ _ f
   .rw[show setC c k (c k+1) i=c i from _l z] at b;exact h.o.kc i b
  |leave v u =>
   obtain⟨rfl,k,f,l,rfl⟩:=e;refine⟨h.o.sh,λi b=>?_⟩;by_cases z:i=k
   .rw[z];exact h.ky _ _ _ f
   .rw[show setC c k (c k - 1) i=c i from _l z] at b;exact h.o.kc i b
  |con d =>
   obtain⟨rfl,u,j⟩:=e;have:=rT (ns:=(Az cn sz).map (·.1)) (ks:=Bw cn kbs) h.o.sh d;rw[j] at this;exact⟨this,h.o.kc⟩
 exact⟨g,⟨h.o.kb,h.o.lg,h.o.nm,h.o.nk,a.1,h.o.st,a.2,hl⟩,h.bd,h.ky,h.ks⟩
end
inductive u_(C Cy Cp pE pA cK cP cB cS cH cY:_d)(vs:_a V)(H:Hp)(Q:VK)(E:XK):Prop
|mk(Ho:Hp)(z x y hd:_d)(us:_a V)(rk:_a (_m×_c×_j))(ls:_a (_a Ln:_))(sts:_a _c)(s:Cs)(sd:_d)(kvs:_a (Key×V))(c:_c->_c)(n:_c)(cn:_c->_m)(sz:_a _c)(kbs:_a Kb)(t:_d)(d:Ea)(_:vs=[.ref z,.ref t])(_:H t=_b (.tup d.v))(_:d.odd H)(_:M3 C Cy Cp pE pA Ho H z x y hd us rk ls sts s sd kvs c n cn sz kbs)(_:kvs.length<=400)(_:n<900)(_:∀s' i6 c' (p1 p2:_c) (Ta D1 D2:_d) Hm H',Wv (Az cn sz) (Bw cn kbs) sts.length s c d s' c'->Fp H Hm y sd hd->M3 C Cy Cp pE pA Ho Hm z x y hd us rk ls sts s' sd i6 c' (n+1) cn sz kbs->i6.length<=kvs.length+1->JS cn sz rk kbs ls (vR s sts) (Wd.mk (El kvs)) p1->JS cn sz rk kbs ls (vR s' sts) (Wd.mk (El i6)) p2->Aj Hm H'->Hm Ta=_o->Hm D1=_o->Hm D2=_o->D1≠D2->H' Ta=_b (.tup [.ref D1,.ref D2])->H' D1=_b (.lst (nV (Wd.mem (qK p2 p1))))->H' D2=_b (.lst (nV (Wd.mem (qK p1 p2))))->Q (.ref Ta) H')(_:∀a (p1:_c) H',dg cK cP cB cS cH cY (Az cn sz) (Bw cn kbs) sts.length s c d a->JS cn sz rk kbs ls (vR s sts) (Wd.mk (El kvs)) p1->Aj H H'->E (.ref a) _o H')
theorem uH:Am ["self","deed","ahead","behind"] hK (Ae sQd):=Bc
include N T in
theorem wI:BP P w K mg base (HH P w) 9 aD.Qd hK<|u_ C Cy Cp pE pA cK cP cB cS cH cY:=by
 have M:BP P w K mg base (HH P w) 8 aD.Qa hK<|qY C Cy Cp pE pA cK cP cB cS cH cY:=xP N T
 refine N.FQd.1.LQ uH λH vs Q E e h=>?_;obtain⟨B,z,x,y,G,r,rk,A,f,s,I,p,c,n,Z,sz,m,t,d,rfl,ht,hd,b,hl,EU,q1,q0⟩:=h;have hu:=By e;refine⟨_,(Ac (BZ (i:=2) uH.nd U (Or.inl U)<|Dp (pv 0) T.clP N.FQs (nM N T) e)
  (Ac (Bq<|Fd (pv 0) T.clP N.FQa M e<|Aa (pv 1) Ab)
  (Ac (BZ (i:=3) uH.nd U (Or.inl U)<|Dp (pv 0) T.clP N.FQs (nM N T) e)
  (Af<|Aq<|CQ<|Aa (BJ N.FMe (Tn N T) e<|Aa (BK KZ (pv 3)<|Km Q_<|pv 2) Ab)<|Aa (BJ N.FMe (Tn N T) e<|Aa (BK KZ (pv 2)<|Km Q_<|pv 3) Ab) Ab)))),?_⟩
 obtain⟨dz,fs,h1,l1,l2,l3,W⟩:=id b.p.p.U9.ex;refine⟨dz,fs,h1,W _<|by decide,B,z,x,y,G,r,rk,A,f,s.dr,s.sh,I,p,c,Z,sz,m,U,b.p.p,b.o,λg H1 j D=>?_⟩;have X:=b.mono j;refine⟨dz,fs,j _ _ h1,W _<|by decide,B,z,x,y,G,r,_,rk,_,A,f,s,I,p,c,n,t,d,U,j _ _ ht,Ea.odd.mono j hd,X.p,rx hl (by decide),EU,λv u k hk=>lh (b.ky v u k hk) b.ks,λR i6 c' L st f2 pp O=>?_,λa L e s2=>q0 a g L e D<|j.trans s2⟩;have q:=X.step st pp<|rx O (md (rx hl (by decide)))
 have Xs:=(Fp.of j).trans f2;obtain⟨F,LJ,VU,_,_,_,MX⟩:=id q.p.p.U9.ex;refine⟨F,LJ,VU,MX _<|by decide,B,z,x,y,G,r,rk,A,f,R.dr,R.sh,I,i6,c',Z,sz,m,U,q.p.p,q.o,λl H4 S S2=>?_⟩;have b1:=b.bd _ _ _ D;have b2:=b.bd _ _ _ S2;refine⟨qK l g,congrArg (λv:_j=>[V.int v])<|YD l g,cc (dC _ _) b2,λD1 H5 FO s5 Y=>?_⟩;refine⟨qK g l,congrArg (λv:_j=>[V.int v])<|YD g l,cc (dC _ _) b1,λD2 H6 vT s6 l6=>?_⟩;refine⟨by show 2<=sizeLine;decide,λT7 QP=>?_⟩;have J:=A_ (o:=HO.tup [.ref D1,.ref D2]) QP;have QN:=(S.trans s5).trans s6;have Y1:=QN.trans J;exact q1 R i6 c' g l T7 D1 D2 L _ st Xs q O D S2 Y1 (QN.free QP) (S.free FO) ((S.trans s5).free vT) (Ag Y vT) Ah (J _ _<|s6 _ _ Y)<|J _ _ l6
def QZ(bs:_a<|_m×_c)(ks:_a R)(n:_c)(c:_c->_c):Ea->Prop
 |.hold v u=>∃k,GC bs v u k
 |.leave v u=>∃k,GC bs v u k/\0<c k
 |.con (.pull v)=>∃t,v=.str t/\t∈I_ ks
 |.con (.push v)=>∃t,v=.str t/\t∈I_ ks
 |.con (.store v)=>∃p:_c,v=.int (p:_c)/\p<10
 |.con (.storeB v b)=>(∃p:_c,v=.int (p:_c)/\p<10)/\(b=.non \/ ∃t,b=.str t/\t∈bs.map (·.1))
 |.con (.press v)=>∃p:_c,v=.int (p:_c)/\p<10
 |.con (.shoe v)=>∃i:_c,v=.int (i:_c)/\i<=n
 |.con .cancel=>Cf
theorem Zw(h:n<2 ^ 1200):(Wd.mem n).length<=1200:=by
 have:=Wd.Pg h;have:(Wd.mem n).length<=Wd.len n:=by unfold Wd.mem;exact rx (ry _ _)<|by simp
 lia
theorem Jp{a:Hp}(s:Aj a H)(n:a p=_o)(h:HF H H' p):Aj a H':=λb o e=>h.sx b o (s b o e)<|Ag e n
noncomputable abbrev W13:_a V:=[.str "hold",.str "hold",.str "hold",.str "hold",.str "leave",.str "leave",.str "leave",.str "pull",.str "pull",.str "pull",.str "push",.str "shoe",.str "store"]
noncomputable abbrev W3:_a V:=[.str "press",.str "press",.str "cancel"]
theorem w16{r:_c}(h:r<16):∃t:_m,VJ (W13++W3) ((r:_c):_j)=_b (.str t)/\(t = "hold" \/ t = "leave" \/ t = "pull" \/ t = "push" \/ t = "shoe" \/ t = "store" \/ t = "press" \/ t = "cancel"):=by
 obtain rfl | rfl | rfl | rfl | rfl | rfl | rfl | rfl | rfl | rfl | rfl | rfl | rfl | rfl | rfl | rfl:r=0 \/ r=1 \/ r=2 \/ r=3 \/ r=4 \/ r=5 \/ r=6 \/ r=7 \/ r=8 \/ r=9 \/ r=10 \/ r=11 \/ r=12 \/ r=13 \/ r=14 \/ r=15:=by lia
 .exact⟨_,U,.inl U⟩
 .exact⟨_,U,.inl U⟩
 .exact⟨_,U,.inl U⟩
 .exact⟨_,U,.inl U⟩
 .exact⟨_,U,.inr<|.inl U⟩
 .exact⟨_,U,.inr<|.inl U⟩
 .exact⟨_,U,.inr<|.inl U⟩
 .exact⟨_,U,.inr<|.inr<|.inl U⟩
 .exact⟨_,U,.inr<|.inr<|.inl U⟩
 .exact⟨_,U,.inr<|.inr<|.inl U⟩
 .exact⟨_,U,.inr<|.inr<|.inr<|.inl U⟩
 .exact⟨_,U,.inr<|.inr<|.inr<|.inr<|.inl U⟩
 .exact⟨_,U,.inr<|.inr<|.inr<|.inr<|.inr<|.inl U⟩
 .exact⟨_,U,.inr<|.inr<|.inr<|.inr<|.inr<|.inr<|.inl U⟩
 .exact⟨_,U,.inr<|.inr<|.inr<|.inr<|.inr<|.inr<|.inl U⟩
 .exact⟨_,U,.inr<|.inr<|.inr<|.inr<|.inr<|.inr<|.inr U⟩
structure DeC(C Cy Cp pE pA:_d)(H0 H:Hp)(p KL:_d)(Ho:Hp)(z x y hd:_d)(us:_a V)(rk:_a<|_m×_c×_j)(ls:_a<|_a Ln)(sts:_a _c)(s:Cs)(sd:_d)(kvs:_a<|Key×V)(c:_c->_c)(n:_c)(cn:_c->_m)(sz:_a _c)(kbs:_a Kb):Prop where
 pl:M3 C Cy Cp pE pA Ho H0 z x y hd us rk ls sts s sd kvs c n cn sz kbs
 kl:H0 KL=_b (.lst<|(I_<|Bw cn kbs).map V.str)
 sm:Aj H0 H
 np:H0 p=_o
 sr:SrcAt H p
 z1:∀k∈sz,1<=k
 l1:1<=sz.length
 nd:((Az cn sz).map (·.1)).Nodup
theorem qD(a:ns.Nodup)(h:ns[j]? = _b t):ns.idxOf t=j:=by
 have b:=ai h;have hl:=(ag.mp h).1;exact ((kU hl a).mp<|h.trans (Gv b).symm).symm
theorem Gd{bs:_a (_m×_c)}(c:(bs.map (·.1)).Nodup){b:_m×_c}(a:bs[j]? = _b b)(d:n<b.2):GC bs (.str b.1) (.int (n:_c)) (((bs.take j).map (·.2)).sum+n):=⟨j,n,b,U,U,a,qD c<|by rw[ar,a];rfl,d,U⟩
inductive vN(C Cy Cp pE pA:_d)(vs:_a V)(H:Hp)(Q:VK)(d0:XK):Prop
|mk(H0:Hp)(p KL:_d)(Ho:Hp)(z x y hd:_d)(us:_a V)(rk:_a (_m×_c×_j))(ls:_a (_a Ln:_))(sts:_a _c)(s:Cs)(sd:_d)(kvs:_a (Key×V))(c:_c->_c)(n:_c)(cn:_c->_m)(sz:_a _c)(kbs:_a Kb)(_:vs=[.ref p,.ref x,.ref z,.ref KL])(_:DeC C Cy Cp pE pA H0 H p KL Ho z x y hd us rk ls sts s sd kvs c n cn sz kbs)(_:∀(Ta:_d) (d:Ea) H',H0 Ta=_o->Aj H0 H'->H' Ta=_b (.tup d.v)->(∀H2,d.odd H2)->QZ (Az cn sz) (Bw cn kbs) sts.length c d->Q (.ref Ta) H')
theorem U3:Am ["_law_source_here","_law_organ","_law_player","_law_knobs","_law_boards","_law_word","_law_board","_law_held","_law_at","_law_number"] gm (Ae sDe):=Bc
include N T in
theorem zF:BP P w K mg base BV 6 aD.De gm<|vN C Cy Cp pE pA:=by
 refine N.FDe.1.DY U3 λH vs Q E G h=>?_;obtain⟨H0,p,KL,Ho,z,x,y,sA,us,rk,ls,Y,s,sd,I,c,n,B,sz,A,rfl,D,q⟩:=h;have hu:=By G;refine⟨_,(@Ac _ _ _ _ _ (@Be _ _ _ _ _ _ 4 U3.nd U (Or.inl U) (Dp (pv 1) T.cl N.FOb (Wl N T) G) (by kernel_rfl)<|.inl U)
  (@Ac _ _ _ _ _ (@Be _ _ _ _ _ _ 5 U3.nd U (Or.inl U) (@Cm _ _ _ _<|@Ao _ _ _ _ _ U Aw<|@Ao _ _ _ _ _ U Aw<|@Ao _ _ _ _ _ U Aw<|@Ao _ _ _ _ _ U Aw<|@Ao _ _ _ _ _ U Aw<|@Ao _ _ _ _ _ U Aw<|@Ao _ _ _ _ _ U Aw<|@Ao _ _ _ _ _ U Aw<|@Ao _ _ _ _ _ U Aw<|@Ao _ _ _ _ _ U Aw<|@Ao _ _ _ _ _ U Aw<|@Ao _ _ _ _ _ U Aw<|@Ao _ _ _ _ _ U Aw Ab) (by kernel_rfl)<|.inl U)
  (@Ac _ _ _ _ _ (@Be _ _ _ _ _ _ 5 U3.nd U (Or.inl U) (B_ K (BK Rt (pv 5)<|@Cm _ _ _ _<|@Ao _ _ _ _ _ U Aw<|@Ao _ _ _ _ _ U Aw<|@Ao _ _ _ _ _ U Aw Ab)<|BJ N.FDw (fj N T) G<|@Ao _ _ _ _ _ U (pv 0)<|@Ao _ _ _ _ _ U Al Ab) (by kernel_rfl)<|.inl U)
  (@Ac _ _ _ _ _ (@Be _ _ _ _ _ _ 6 U3.nd U (Or.inl U) (B_ K (pv 4)<|BJ N.FDw (fj N T) G<|@Ao _ _ _ _ _ U (pv 0)<|@Ao _ _ _ _ _ U (Ay BL U T.len bt<|@Ao _ _ _ _ _ U (pv 4) Ab) Ab) (by kernel_rfl)<|.inl U)
  (@Ac _ _ _ _ _ (@Bg _ _ _ _ _ _ _ _ (Bd Bt (pv 5) Aw) (@Af _ _ _<|@Aq _ _ _ _<|@CQ _ _ _ _ _<|@Ao _ _ _ _ _ U Aw<|@Ao _ _ _ _ _ U (An K<|pv 6)<|@Ao _ _ _ _ _ U (BJ N.FDw (fj N T) G<|@Ao _ _ _ _ _ U (pv 0)<|@Ao _ _ _ _ _ U (An K<|pv 6) Ab) Ab) BR)
  (@Ac _ _ _ _ _ (@Bg _ _ _ _ _ _ _ _ (Bd Bt (pv 5) Aw) (@Ac _ _ _ _ _ (@Be _ _ _ _ _ _ 7 U3.nd U (Or.inl U) (BJ N.FMe (Tn N T) G<|@Ao _ _ _ _ _ U (Dp (pv 2) T.clP N.FQe (bj N T) G) Ab) (by kernel_rfl)<|.inl U)
  (@Ac _ _ _ _ _ (@Bg _ _ _ _ _ _ _ _ (Bd (ZL<|oo hu) (pv 7)<|@Cm _ _ _ _ Ab) (@Af _ _ _<|@Aq _ _ _ _<|@CQ _ _ _ _ _<|@Ao _ _ _ _ _ U Aw<|@Ao _ _ _ _ _ U (An K<|pv 6)<|@Ao _ _ _ _ _ U (BJ N.FDw (fj N T) G<|@Ao _ _ _ _ _ U (pv 0)<|@Ao _ _ _ _ _ U (An K<|pv 6) Ab) Ab) BR)
  (@Ac _ _ _ _ _ (Ph (Fd (pv 1) T.cl N.FOo (dq N T) G<|@Ao _ _ _ _ _ U (B_ K (pv 7)<|BJ N.FDw (fj N T) G<|@Ao _ _ _ _ _ U (pv 0)<|@Ao _ _ _ _ _ U (Ay BL U T.len bt<|@Ao _ _ _ _ _ U (pv 7) Ab) Ab) Ab)<|Gf U<|Bv (Bh (i:=8) U3.nd U<|Or.inl U)<|Bv (Bh (i:=9) U3.nd U<|Or.inl U) Ez)
  (@Af _ _ _<|@Aq _ _ _ _<|@CQ _ _ _ _ _<|@Ao _ _ _ _ _ U Aw<|@Ao _ _ _ _ _ U (An K<|B_ K (pv 4)<|pv 8)<|@Ao _ _ _ _ _ U (pv 9) Ab)))) BR)
  (@Ac _ _ _ _ _ (@Bg _ _ _ _ _ _ _ _ (PW.pt<|HB (PW.pt<|Fy (Bd Bt (pv 5) Aw)<|Eu<|Bd Bt (pv 5) Aw)<|Fg<|Bd (UW<|oo hu) (pv 3)<|@Cm _ _ _ _ Ab) (@Af _ _ _<|@Aq _ _ _ _<|@CQ _ _ _ _ _<|@Ao _ _ _ _ _ U (pv 5)<|@Ao _ _ _ _ _ U (B_ K (pv 3)<|BJ N.FDw (fj N T) G<|@Ao _ _ _ _ _ U (pv 0)<|@Ao _ _ _ _ _ U (Ay BL U T.len bt<|@Ao _ _ _ _ _ U (pv 3) Ab) Ab) Ab) BR)
  (@Ac _ _ _ _ _ (@Bg _ _ _ _ _ _ _ _ (Bd Bt (pv 5) Aw) (@Af _ _ _<|@Aq _ _ _ _<|@CQ _ _ _ _ _<|@Ao _ _ _ _ _ U Aw<|@Ao _ _ _ _ _ U (BJ N.FDw (fj N T) G<|@Ao _ _ _ _ _ U (pv 0)<|@Ao _ _ _ _ _ U (BK Bu Al<|Ay BL U T.len bt<|@Ao _ _ _ _ _ U (Dp (pv 1) T.cl N.FOy (cZ N T) G) Ab) Ab) Ab) BR)
  (@Ac _ _ _ _ _ (@Bg _ _ _ _ _ _ _ _ (PW.pt<|HB (Bd Bt (pv 5) Aw)<|Fg<|Bd R3 (BJ N.FDw (fj N T) G<|@Ao _ _ _ _ _ U (pv 0)<|@Ao _ _ _ _ _ U Al Ab) Al) (@Af _ _ _<|@Aq _ _ _ _<|@CQ _ _ _ _ _<|@Ao _ _ _ _ _ U Aw<|@Ao _ _ _ _ _ U (BJ N.FDw (fj N T) G<|@Ao _ _ _ _ _ U (pv 0)<|@Ao _ _ _ _ _ U Al Ab)<|@Ao _ _ _ _ _ U (B_ K (@Cm _ _ _ _<|@Ao _ _ _ _ _ U (An K<|pv 6)<|@Ao _ _ _ _ _ U Er Ab)<|BK GZ (BJ N.FDw (fj N T) G<|@Ao _ _ _ _ _ U (pv 0)<|@Ao _ _ _ _ _ U Al Ab) Al) Ab) BR)
  (@Ac _ _ _ _ _ (@Bg _ _ _ _ _ _ _ _ (PW.pt<|Fy (Bd Bt (pv 5) Aw)<|Eu<|Bd Bt (pv 5) Aw) (@Af _ _ _<|@Aq _ _ _ _<|@CQ _ _ _ _ _<|@Ao _ _ _ _ _ U (pv 5)<|@Ao _ _ _ _ _ U (BJ N.FDw (fj N T) G<|@Ao _ _ _ _ _ U (pv 0)<|@Ao _ _ _ _ _ U Al Ab) Ab) BR)
  (@Af _ _ _<|@Aq _ _ _ _<|@CQ _ _ _ _ _<|@Ao _ _ _ _ _ U Aw Ab))))))))))),?_⟩
 have W:=D.pl;have MV:=W.p.p.con.o.mono W.p.p.con.s;have OX:=MV.mono D.sm;have HL:=W.p.f.bn;have o0:=Ft OX.o.o;obtain⟨⟨⟨dx,fs,_,_,_,_,_,_,_,_,hx,_,_,_,_,lm,_⟩,we,ui,vF⟩,_⟩:=id OX.o;have a8:=D.l1;have fin:∀(d:Ea)(Hn:Hp),HF H Hn p->(∀L,d.odd L)->QZ (Az B sz) (Bw B A) Y.length c d->∀t,Hn t=_o->Q (.ref t) (upd Hn t<|.tup d.v):=λd Hn sn ho hl t u =>
  q t d _ ((Jp D.sm D.np sn).free u) ((Jp D.sm D.np sn).trans<|A_ u) Ah ho hl
 have aQ:HF H H p:=HF.refl D.sr;refine⟨dx,fs,hx,lm _<|by decide,x,_,_,U,OX.o.o,λDB f' H1 OI s1 a5 GL=>?_⟩;have xz:=aQ.same s1;refine⟨by show 13<=sizeLine;decide,λP1 EM=>?_⟩;obtain⟨L,O,s2,e2⟩:=Dr (o:=HO.lst W13) EM;rw[O];have zw:=xz.same s2;refine⟨by show 3<=sizeLine;decide,λP2 OP=>?_⟩;obtain⟨H3,O,s3,e3⟩:=Dr (o:=HO.lst W3) OP;rw[O];have y':=zw.same s3;refine⟨P1,P2,_,_,U,U,s3 _ _ e2,e3,by show 16<=sizeLine;decide,λP3 N2=>?_⟩;obtain⟨H4,O,s4,e4⟩:=Dr (o:=HO.lst<|W13++W3) N2;rw[O];have AN:=y'.same s4;have n3:P3≠p:=y'.ne N2;refine⟨p,16,U,AN.sr,by decide,by decide,λr H5 a1 f5 BA=>?_⟩;have vb:=AN.draw f5 BA;obtain⟨wd,GM,hw⟩:=w16 (r:=r)<|by lia
 refine⟨_,_,oP<|by rw[f5 P3 n3];exact e4,GM,?_⟩;have an:HF H1 H5 p:=((((HF.refl xz.sr).same s2).same s3).same s4).draw f5 BA;have ap:DB≠p:=aQ.ne OI;have sf:=an.sx _ _ a5 ap;have aw:Paired (λb y=>TupAt H5 (bV b) y) (Az B sz) f':=an.QV (f:=bV) xz.sr GL;have Ya:=aw.length;rw[K6] at Ya;have a9:(Az B sz).length=sz.length:=K6 ..;have l5:sz.length<=5:=a9▸we
 clear an e4 e3 e2 s2 s3 s4 EM OP N2 f5 BA AN y' zw n3 GM a1;refine⟨DB,_,U,oP<|.inl sf,p,_,U,vb.sr,(by show (0:_j)<((f'.length:_c):_j);lia),(by show ((f'.length:_c):_j)<1073741824;lia),λj H6 AF f6 BS=>?_⟩;have F:=vb.draw f6 BS;have ac:HF H5 H6 p:=(HF.refl vb.sr).draw f6 BS;have wl:=ac.sx _ _ sf ap;have aM:Paired (λb y=>TupAt H6 (bV b) y) (Az B sz) f':=ac.QV (f:=bV) vb.sr aw;obtain⟨b,hb⟩:∃b,(Az B sz)[j]? = _b b:=⟨_,af<|by lia⟩;obtain⟨yb,M0,Tb,rfl,xp⟩:=Br aM hb;have bn:1<=b.2/\b.2<=305:=by
  have hm:b.2∈(Az B sz).map (·.2):=aE<|ai hb
  have a2:=ui b<|ai hb
  rw[Cr] at hm;exact⟨D.z1 _ hm,rx a2 (by decide)⟩
 refine⟨_,_,oP wl,Av M0,?_⟩;clear ac f6 BS vb sf aw AF;have ID:=Jp D.sm D.np F;rcases hw with rfl | rfl | rfl | rfl | rfl | rfl | rfl | rfl
 .refine⟨U,Ff U ?_⟩;refine⟨_,_,oP xp,U,_,_,oP xp,U,p,_,U,F.sr,(by show (0:_j)<((b.2:_c):_j);exact BT.mpr (bq (gx _) bn.1)),(by show ((b.2:_c):_j)<1073741824;exact BT.mpr (cc bn.2 (by decide))),λm Hn hm fn N0=>⟨by show 3<=sizeLine;decide,λt u=>?_⟩⟩;exact fin (.hold (.str b.1)<|.int (m:_c)) Hn (F.draw fn N0) (λL=>⟨.str (HL _<|aE<|ai hb).tx,.int _⟩) ⟨_,Gd D.nd hb<|by lia⟩ t u
 .refine⟨U,HR ⟨U,Ff U ?_⟩⟩;have RF:=W.mono ID;obtain⟨dz,gs,hz,_,_,_,F5⟩:=id RF.p.p.U9.ex;refine⟨dz,gs,hz,F5 _<|by decide,Ho,z,x,y,sA,us,_,rk,_,ls,Y,s.dr,s.sh,sd,I,c,U,RF.p.p,W.o.kl,λH7 s7=>?_⟩;refine⟨_,U,Wd.Xx W.p.p.h.bound,λL8 H8 PZ s8 xh=>?_⟩;have yn:=(F.same s7).same s8;have ab:=s8 _ _<|s7 _ _ xp
  refine⟨CV (by simp),λP9 AE=>?_⟩;obtain⟨H9,O,S,e9⟩:=Dr (o:=HO.lst []) AE;rw[O];have J:=yn.same S;have zS:=S _ _ xh;refine⟨L8,P9,_,U,U,oP zS,oP e9,Cz (λg=>?_)<|λg=>?_⟩
  .have Go:=S _ _ ab;refine⟨_,_,oP Go,U,_,_,oP Go,U,p,_,U,J.sr,(by show (0:_j)<((b.2:_c):_j);exact BT.mpr (bq (gx _) bn.1)),(by show ((b.2:_c):_j)<1073741824;exact BT.mpr (cc bn.2 (by decide))),λm Hn hm fn N0=>⟨by show 3<=sizeLine;decide,λt u=>?_⟩⟩;exact fin (.hold (.str b.1)<|.int (m:_c)) Hn (J.draw fn N0) (λL=>⟨.str (HL _<|aE<|ai hb).tx,.int _⟩) ⟨_,Gd D.nd hb<|by lia⟩ t u
  have aK:1<=(Wd.mem<|Wd.mk<|El I).length:=by
   cases e:Wd.mem (Wd.mk (El I)) with
   |nil=>rw[e] at g;exact _z U g
   |cons a l=>simp
  have a2:=Zw<|Wd.Xx W.p.p.h.bound
  have gZ:(nV<|Wd.mem<|Wd.mk<|El I).length=(Wd.mem<|Wd.mk<|El I).length:=ah ..;refine⟨dx,fs,J.sx _ _ hx (λe=>by rw[e] at hx;obtain⟨l',sj⟩:=D.sr.some;rw[sj] at hx;cases hx),lm _ (by decide),L8,_,rfl,oP (.inl zS),p,_,rfl,J.sr,(by rw[gZ];exact BT.mpr (bq (gx _) aK)),by rw[gZ];exact BT.mpr (cc a2 (by decide)),λr2 R M X pf=>?_⟩;have sC:=J.draw X pf;have a6:L8≠p:=(F.same s7).ne PZ;have aN:R L8=_b (.lst<|nV<|Wd.mem<|Wd.mk<|El I):=by rw[X L8 a6];exact zS
  rw[gZ] at M;obtain⟨k,hk⟩:∃k,(Wd.mem (Wd.mk (El I)))[r2]? = _b k:=⟨_,af<|by lia⟩;have aZ:k∈El I:=by
   have:=Wd.mem_iff.mp<|ai hk
   rw[Wd.Ii] at this;exact _s this
  have CU:=(W.p.p.h.mem k).mp aZ;have a3:=W.o.kc k CU;have a7:k<(Eb<|Az B sz).length:=by rw[Eg,Cr];exact a3
  obtain⟨⟨a,m⟩,SB⟩:∃qd,(Eb (Az B sz))[k]? = _b qd:=⟨_,af a7⟩;obtain⟨b2,aB,AC,ek⟩:=Nq SB;have NS:=Jp D.sm D.np sC;refine⟨_,_,oP aN,Av (by unfold nV;rw[é,hk];rfl),x,_,_,k,(a,m),U,(MV.mono NS).o.o,SB,λyq VE=>?_⟩;obtain⟨Tq,rfl,V'⟩:=VE;refine⟨_,oP V',U,U,?_⟩;have Z:HF H6 R p:=((((HF.refl F.sr).same s7).same s8).same S).draw X pf;have GI:=Z.sx _ _ wl ap;have aP:Paired (λb y=>TupAt R (bV b) y) (Az B sz) f':=Z.QV (f:=bV) F.sr aM;obtain⟨bd,NL,bl,rfl,Ki⟩:=Br aP aB;refine⟨_,_,oP GI,Av NL,_,_,oP Ki,U,by show 3<=sizeLine;decide,λt u=>?_⟩;refine fin (.leave (.str b2.1)<|.int (m:_c)) R sC (λL=>⟨.str (HL _<|aE<|ai aB).tx,.int _⟩) ⟨_,Gd D.nd aB AC,?_⟩ t u;rw[gE,<-ek];exact CU
 .have Mc:=ID _ _ D.kl;refine⟨U,HR ⟨U,HR ⟨U,Ff U<|⟨CV (by simp),λP9 AE=>?_⟩⟩⟩⟩;obtain⟨H9,O,S,e9⟩:=Dr (o:=HO.lst []) AE;rw[O];have J:=F.same S;have DU:=S _ _ Mc;have lK:((I_<|Bw B A).map V.str).length=(Bw B A).length:=by rw[ah,ah]
  refine⟨KL,P9,_,U,U,oP DU,oP e9,Cz (λg=>?_)<|λg=>?_⟩
  .have aK:1<=((I_<|Bw B A).map V.str).length:=by
    cases e:(I_ (Bw B A)).map V.str with
    |nil=>rw[e] at g;cases g
    |cons a l=>simp
   refine⟨KL,_,U,oP<|.inl DU,p,_,U,J.sr,BT.mpr (bq (gx _) aK),by lia,λr2 R M X pf=>?_⟩;have sC:=J.draw X pf;have Ch:=(Jp D.sm D.np sC) _ _ D.kl;obtain⟨tk,hk⟩:∃tk,(I_ (Bw B A))[r2]? = _b tk:=⟨_,af<|by rw[ah];lia⟩;refine⟨_,_,oP Ch,Av<|by rw[é,hk];rfl,by show 2<=sizeLine;decide,λt u=>?_⟩;exact fin (.con<|.pull<|.str tk) R sC (λL=>.str (W.p.f.kn _<|ai hk).tx) ⟨tk,U,ai hk⟩ t u
  .refine⟨U,HR ⟨U,HR<|(⟨U,HR ⟨U,HR ⟨by show 1<=sizeLine;decide,λt u=>?_⟩⟩⟩)⟩⟩;exact fin (.con .cancel) H9 J (λL=>trivial) trivial t u
 .have Mc:=ID _ _ D.kl;refine⟨U,HR ⟨U,HR ⟨U,HR ⟨U,Ff U ⟨CV (by simp),λP9 AE=>?_⟩⟩⟩⟩⟩;obtain⟨H9,O,S,e9⟩:=Dr (o:=HO.lst []) AE;rw[O];have J:=F.same S;have DU:=S _ _ Mc;have lK:((I_<|Bw B A).map V.str).length=(Bw B A).length:=by rw[ah,ah]
  refine⟨KL,P9,_,U,U,oP DU,oP e9,Cz (λg=>?_)<|λg=>?_⟩
  .have aK:1<=((I_<|Bw B A).map V.str).length:=by
    cases e:(I_ (Bw B A)).map V.str with
    |nil=>rw[e] at g;cases g
    |cons a l=>simp
   refine⟨KL,_,U,oP<|.inl DU,p,_,U,J.sr,BT.mpr (bq (gx _) aK),by lia,λr2 R M X pf=>?_⟩;have sC:=J.draw X pf;have Ch:=(Jp D.sm D.np sC) _ _ D.kl;obtain⟨tk,hk⟩:∃tk,(I_ (Bw B A))[r2]? = _b tk:=⟨_,af<|by rw[ah];lia⟩;refine⟨_,_,oP Ch,Av<|by rw[é,hk];rfl,by show 2<=sizeLine;decide,λt u=>?_⟩;exact fin (.con<|.push<|.str tk) R sC (λL=>.str (W.p.f.kn _<|ai hk).tx) ⟨tk,U,ai hk⟩ t u
  .refine⟨U,HR ⟨U,HR<|(⟨U,HR ⟨U,HR ⟨by show 1<=sizeLine;decide,λt u=>?_⟩⟩⟩)⟩⟩;exact fin (.con .cancel) H9 J (λL=>trivial) trivial t u
 .refine⟨U,HR ⟨U,HR ⟨U,HR ⟨U,HR<|(⟨U,Ff U ?_⟩)⟩⟩⟩⟩;have RO:=MV.mono ID;obtain⟨⟨⟨Y3,Zl,_,_,_,_,_,_,_,_,a4,_,_,_,_,U2,_⟩,_⟩,_⟩:=id RO.o;refine⟨Y3,Zl,a4,U2 _<|by decide,x,us,_,rk,_,ls,Y,U,RO,λL8 H8 PZ s8 xh=>?_⟩;have yn:=F.same s8;have as:(nV Y).length=Y.length:=ah ..;have bm:=W.o.st;refine⟨L8,_,U,oP<|.inl xh,p,_,U,yn.sr,by rw[as];lia,by rw[as];lia,λr2 R M X pf=>⟨by show 2<=sizeLine;decide,λt u=>?_⟩⟩;rw[as] at M;exact fin (.con<|.shoe<|.int (r2:_c)) R (yn.draw X pf) (λL=>.int _) ⟨r2,U,by lia⟩ t u
 .refine⟨U,HR ⟨U,HR ⟨U,HR ⟨U,HR<|(⟨U,HR ⟨U,Ff U ⟨p,3,U,F.sr,by decide,by decide,λr2 H7 M f7 Of=>?_⟩⟩⟩)⟩⟩⟩⟩;have wS:=F.draw f7 Of;refine Cz (λg=>?_)<|λg=>?_
  .have MH:H7 Tb=_b (.tup<|bV b):=by rw[f7 Tb (λe=>by rw[e] at xp;obtain⟨l',sj⟩:=F.sr.some;rw[sj] at xp;cases xp)];exact xp
   refine⟨p,3,U,wS.sr,by decide,by decide,λr3 H8 OH f8 x'=>?_⟩;have yn:=wS.draw f8 x';have ab:H8 Tb=_b (.tup<|bV b):=by rw[f8 Tb (λe=>by rw[e] at xp;obtain⟨l',sj⟩:=F.sr.some;rw[sj] at xp;cases xp)];exact MH
   refine⟨_,_,oP ab,U,by show 2<=sizeLine;decide,λP9 AE=>?_⟩;obtain⟨H9,O,S,e9⟩:=Dr (o:=HO.lst [V.str b.1,V.non]) AE;rw[O];have J:=yn.same S;have n9:P9≠p:=yn.ne AE;refine⟨p,3,U,J.sr,by decide,by decide,λr4 R bc X pf=>?_⟩;have sC:=J.draw X pf;have a0:R P9=_b (.lst [V.str b.1,V.non]):=by rw[X P9 n9];exact e9
   obtain⟨v,hv,SO⟩:∃v,VJ [V.str b.1,V.non] (((r4:_c):_j) - 1)=_b v/\(v=.non \/ v=.str b.1):=by
    obtain rfl | rfl | rfl:r4=0 \/ r4=1 \/ r4=2:=by lia
    .exact⟨_,U,.inl U⟩
    .exact⟨_,U,.inr U⟩
    .exact⟨_,U,.inl U⟩
   refine⟨_,_,oP a0,hv,by show 3<=sizeLine;decide,λt u=>?_⟩;have SA:=aE (f:=λx:_m×_c=>x.1)<|ai hb
   refine fin (.con<|.storeB (.int (r3:_c)) v) R sC (λL=>⟨.int _,?_⟩) ⟨⟨r3,U,by lia⟩,SO.imp id λe=>⟨b.1,e,SA⟩⟩ t u;rcases SO with rfl | rfl
   .exact .non
   .exact .str (HL _ SA).tx
  .refine⟨U,Ff U<|?_⟩;refine⟨p,3,U,wS.sr,by decide,by decide,λr3 H8 OH f8 x'=>⟨by show 2<=sizeLine;decide,λt u=>?_⟩⟩;exact fin (.con<|.store<|.int (r3:_c)) H8 (wS.draw f8 x') (λL=>.int _) ⟨r3,U,by lia⟩ t u
 .refine⟨U,HR ⟨U,HR ⟨U,HR ⟨U,HR<|(⟨U,HR ⟨U,HR<|(⟨U,HR ⟨U,Ff U ?_⟩⟩)⟩⟩)⟩⟩⟩⟩;refine⟨p,3,U,F.sr,by decide,by decide,λr3 H8 OH f8 x'=>⟨by show 2<=sizeLine;decide,λt u=>?_⟩⟩;exact fin (.con<|.press<|.int (r3:_c)) H8 (F.draw f8 x') (λL=>.int _) ⟨r3,U,by lia⟩ t u
 .refine⟨U,HR ⟨U,HR ⟨U,HR ⟨U,HR<|(⟨U,HR ⟨U,HR<|(⟨U,HR ⟨U,HR ⟨by show 1<=sizeLine;decide,λt u=>?_⟩⟩⟩)⟩⟩)⟩⟩⟩⟩;exact fin (.con .cancel) H6 F (λL=>trivial) trivial t u
theorem aq{bs:_a (_m×_c)}{v u:V}{k a:_c}(h:GC bs v u k)(g:GC bs v u a):k=a:=by
 obtain⟨j,n,b,rfl,rfl,p,e,q,rfl⟩:=h;obtain⟨r,o,s,i,d,m,c,l,rfl⟩:=g;have f:=V.str.inj i;rw[<-f,e] at c;subst c;have:=V.int.inj d;lia
theorem Zh{bs:_a (_m×_c)}{s:Cs}{c:_c->_c}{d:Iz}(h:QZ bs ks n c<|.con d)(a:act (bs.map (·.1)) ks n s d=(s,.no i)):i=1:=by
 cases d with
 |pull v =>
  obtain⟨t,rfl,g⟩:=h;rw[U4 g] at a
  cases (congrArg ą a)
 |push v =>
  obtain⟨t,rfl,g⟩:=h;rw[Ue g] at a
  cases (congrArg ą a)
 |store v =>
  obtain⟨p,rfl,f⟩:=h;rw[Qj f] at a
  cases (congrArg ą a)
 |storeB v b =>
  obtain⟨⟨p,rfl,f⟩,rfl | ⟨t,rfl,g⟩⟩:=h
  .rw[N6 f] at a
   cases (congrArg ą a)
  .rw[PQ f g] at a
   cases (congrArg ą a)
 |press v =>
  obtain⟨p,rfl,f⟩:=h
  cases hm:s.m p with
  |none =>
   rw[Nx λq e _=>by rw[show q=p by have:=V.int.inj e;lia];exact hm] at a;have:=congrArg ą a
   cases this;rfl
  |some k =>
   rw[Qx f hm] at a
   cases (congrArg ą a)
 |shoe v =>
  obtain⟨i,rfl,j⟩:=h;rw[Sy j] at a
  cases (congrArg ą a)
 |cancel=>cases (congrArg ą a)
def Ea.hl:Ea->_O
 |.con _=>_p
 |_=>_g
theorem Ua{x y z A G H:_d}{bs:_a (_m×_c)}{s:Cs}{c:_c->_c}{d:Ea}(h:QZ bs ks n c d)(D:d.hl=_g)(g:dg x y z A G H bs ks n s c d a):False:=by
 have q:∀{v u k},GC bs v u k->G9 (bs.map (·.1)) v=.non->False:=λ{v u k} h g=>by
  obtain⟨j,n,b,rfl,rfl,l,p,F,rfl⟩:=h;exact U_ g U<|aE<|ai l
 have r:∀{v u k},GC bs v u k->(∃(j:_c)(b:_m × _c),v=.str b.1/\bs[j]? = _b b/\(bs.map (·.1)).idxOf b.1=j/\lB b.2 u=_p)->False:=λ{v u k} h g=>by
  obtain⟨j,n,b,rfl,rfl,l,p,F,rfl⟩:=h;obtain⟨I,J,B,m,w,i⟩:=g;have E:=V.str.inj B;rw[<-E,p] at w;subst w;obtain rfl:=_h<|l.symm.trans m;have o:(decide (0<=(n:_j)) && decide ((n:_j)<((b.2:_c):_j)))=false:=i;rw[_i (ja _),_i<|BT.mpr F] at o
  cases o
 cases d with
 |hold v u =>
  obtain⟨k,f⟩:=h;rcases g with⟨_,g⟩ | ⟨_,g⟩
  .exact q f g
  .exact r f g
 |leave v u =>
  obtain⟨k,f,t⟩:=h;rcases g with⟨_,g⟩ | ⟨_,g⟩ | ⟨_,K,C,e⟩
  .exact q f g
  .exact r f g
  .rw[aq f C,e] at t
   cases t
 |con d =>
  cases D
theorem Yp{e b k l m f:_d}{bs:_a (_m×_c)}{s:Cs}{c:_c->_c}{d:Ea}(h:QZ bs ks n c d)(g:dg e b k l m f bs ks n s c d a):a=b:=by
 cases d with
 |hold v u=>exact (Ua h U g).elim
 |leave v u=>exact (Ua h U g).elim
 |con d =>
  obtain⟨i,j,rfl⟩:=g;rw[Zh h j];rfl
def GoB(cK cP cB cS cH cY:_d)(bs:_a<|_m×_c)(ks:_a R)(n:_c)(s:Cs)(c:_c->_c)(d:Ea)(b:_O)(s':Cs)(c':_c->_c):Prop:=(b=_g/\Wv bs ks n s c d s' c') \/ (b=_p/\dg cK cP cB cS cH cY bs ks n s c d cP/\s'=s/\c'=c)
inductive pJ(C Cy Cp pE pA cK cP cB cS cH cY:_d)(vs:_a V)(H:Hp)(Q:VK)(d0:XK):Prop
|mk(Ho:Hp)(z x y hd:_d)(us:_a V)(rk:_a (_m×_c×_j))(ls:_a (_a Ln:_))(sts:_a _c)(s:Cs)(sd:_d)(kvs:_a (Key×V))(c:_c->_c)(n:_c)(cn:_c->_m)(sz:_a _c)(kbs:_a Kb)(t:_d)(d:Ea)(_:vs=[.ref z,.ref t])(_:H t=_b (.tup d.v))(_:∀H2,d.odd H2)(_:QZ (Az cn sz) (Bw cn kbs) sts.length c d)(_:M3 C Cy Cp pE pA Ho H z x y hd us rk ls sts s sd kvs c n cn sz kbs)(_:kvs.length<=400)(_:n<900)(_:∀b s' i6 c' H',GoB cK cP cB cS cH cY (Az cn sz) (Bw cn kbs) sts.length s c d b s' c'->Fp H H' y sd hd->M3 C Cy Cp pE pA Ho H' z x y hd us rk ls sts s' sd i6 c' (n+1) cn sz kbs->i6.length<=kvs.length+1->Q (.bl b) H')
theorem sZ:Am ["_law_player","_law_deed_here","_law_good"] na (Ae sLx):=Bc
include N T in
theorem xQ:BP P w K mg base BV 10 aD.Lx na<|pJ C Cy Cp pE pA cK cP cB cS cH cY:=by
 have o:BP P w K mg base (HH P w) 9 aD.Qd hK<|u_ C Cy Cp pE pA cK cP cB cS cH cY:=wI N T
 refine N.FLx.1.ok sZ (λvs H Q E h=>?_)<|λk8 A r s0 H vs Q E W h=>?_
 .obtain⟨B,z,x,y,F,u,rk,v,g,s,G,e,c,n,D,sz,k,t,d,rfl,_⟩:=h;rfl
 .obtain⟨B,z,x,y,F,u,rk,v,g,s,G,e,c,n,D,sz,k,t,d,rfl,Z,Y,R,b,hl,EU,q⟩:=h;obtain⟨S,fs,V,l1,l2,l3,J⟩:=id b.p.p.U9.ex;refine⟨_,(Ac (BZ (i:=2) sZ.nd U (Or.inl U) JN)
   (Ac (lE (λER=>(bM<|eF<|aR (pv 0) T.clP N.FQd.2.2 o (ae W) N.FQd.2.1 .nil (Aa (pv 1) Ab) U)) U T.x4.mP T.x4.rP.ex<|λx=>(Af<|BZ (i:=2) sZ.nd U (Or.inl U) JN))
   (Af<|Aq<|pv 2))),?_⟩
  refine⟨S,fs,V,J _<|by decide,B,z,x,y,F,u,rk,v,g,s,G,e,c,n,D,sz,k,t,d,U,Z,Y H,b,hl,EU,?_,?_⟩
  .intro m X c' M p2 T7 D1 D2 Hm p st f L l O S2 I a1 a2 a3 a4 a5 a6 a7;exact q _g m X c' p (.inl ⟨U,st⟩) (f.trans<|Fp.of I) (L.mono I) l
  .intro a M p j O m;obtain rfl:=Yp R j;exact⟨_,U,T.xY.mPP,q _p s e c p (.inr ⟨U,j,U,U⟩) (Fp.of m) ⟨(b.mono m).p.le<|zor _ _,b.o,b.bd,b.ky,b.ks⟩<|zor _ _⟩
noncomputable def Pr:_a (_m×_c)->_m->_j->_c->_r _c
 |[],_,_,_=>_o
 |b::l,t,n,f=>if b.1=t then (if 0<=n/\n<(b.2:_j) then _b (f+n.toNat) else _o) else Pr l t n (f+b.2)
noncomputable def GD:_a (_m×_c)->_m->_j->_c->_r _c
 |[],_,_,_=>_o
 |b::l,t,n,f=>if b.1=t/\0<=n/\n<(b.2:_j) then _b (f+n.toNat) else GD l t n (f+b.2)
def yd:_r _c->V
 |some k=>.int ((k:_c):_j)
 |none=>.non
noncomputable abbrev Fz(bs:_a<|_m×_c)(i:_c):Nat:=((bs.take i).map (·.2)).sum
theorem Qn{b:_m×_c}{bs:_a (_m×_c)}:Fz (b::bs) (i+1)=b.2+Fz bs i:=rfl
theorem Tc:∀{bs:_a (_m × _c)}{q:_c}{b:_m × _c}{m:_j}{f:_c},(bs.map (·.1)).Nodup->bs[q]? = _b b->Pr bs b.1 m f=if 0<=m/\m<(b.2:_j) then _b (f+Fz bs q+m.toNat) else _o
 |[],_,_,_,_,_,h=>by simp at h
 |x::bs,0,b,m,f,d,h=>by
  cases (_h h:x=b);unfold Pr;rw[_n U];rfl
 |x::bs,q+1,b,m,f,d,h=>by
  obtain⟨i,j⟩:=fm.mp d;have c:bs[q]? = _b b:=h;unfold Pr;have g:b.1∈bs.map (·.1):=aE<|ai c
  have a:¬ x.1=b.1:=λe=>i<|by show x.1∈_;rw[e];exact g
  rw[_l a,Tc j c,Qn,oq f]
theorem QH:∀{bs:_a (_m × _c)}{q:_c}{b:_m × _c}{m:_j}{f:_c},(bs.map (·.1)).Nodup->bs[q]? = _b b->GD bs b.1 m f=if 0<=m/\m<(b.2:_j) then _b (f+Fz bs q+m.toNat) else _o
 |[],_,_,_,_,_,h=>by simp at h
 |x::bs,0,b,m,f,d,h=>by
  cases (_h h:x=b);have c:∀{l:_a (_m × _c)}{f:_c},x.1 ∉ l.map (·.1)->GD l x.1 m f=none:=λ{l}=>by
   induction l with
   |nil=>intro _ _;rfl
   |cons y l k =>
    intro f j;unfold GD;rw[_l λe=>j<|ce.mpr<|.inl e.1.symm,k λz=>j<|bg _ z]
  unfold GD;by_cases a:0<=m/\m<(x.2:_j)
  .rw[_n ⟨U,a⟩,_n a];rfl
  .rw[_l λz=>a z.2,_l a];exact c (fm.mp d).1
 |x::bs,q+1,b,m,f,d,h=>by
  obtain⟨o,p⟩:=fm.mp d;have i:bs[q]? = _b b:=h;unfold GD;have n:b.1∈bs.map (·.1):=aE<|ai i
  have g:¬ x.1=b.1:=λe=>o<|by show x.1∈_;rw[e];exact n
  rw[_l λz=>g z.1,QH p i,Qn,oq f]
theorem Fo{bs:_a (_m×_c)}{b:_m×_c}(h:bs[i]? = _b b):bs.drop i=b::bs.drop (i+1)/\Fz bs (i+1)=Fz bs i+b.2:=by
 obtain⟨a,e⟩:=ag.mp h;refine⟨by rw[<-e];exact ii a,?_⟩;unfold Fz;rw[dL,h,ba,ge];simp
inductive Zd(H:Hp)(g:R×_a R)(A:_d)(v:V):Prop
|mk(T:_d)(rv:V)(ls:_a V)(_:v=.ref T)(_:H T=_b (.tup [rv,.ref A]))(_:TupAt H g.1.v rv)(_:H A=_b (.lst ls))(_:Paired (λ(r:R) y=>TupAt H r.v y) g.2 ls)
theorem Zd.mono{g:R×_a R}{A:_d}{v:V}(s:Aj H H')(h:Zd H g A v):Zd H' g A v:=by
 obtain⟨T,a,i,e,b,d,j,c⟩:=h;exact⟨T,a,i,e,s _ _ b,d.mono s,s _ _ j,Ar (f:=R.v) s c⟩
theorem Zd.upd{g:R×_a R}{A X:_d}{v:V}{l j:_a V}(h:Zd H g A v)(b:H X=_b (.lst l))(n:A≠X):Zd (upd H X<|.lst j) g A v:=by
 obtain⟨T,c,k,e,a,i,m,d⟩:=h;exact⟨T,c,k,e,by rw[Ak λz=>by rw[z,b] at a;cases a];exact a,i.upd b,by rw[Ak n];exact m,Bf (f:=R.v) d b⟩
noncomputable abbrev mz(B RA KN:_d):HO:=.dK [(Key.inr "board",.ref B),(Key.inr "rank",.ref RA),(Key.inr "knob",.ref KN)]
inductive G6(H:Hp)(pd:_d)(bs rn:_a<|_m×_c)(gs:_a<|R×_a R):Prop
|mk(B RA KN:_d)(f' i8 kvs:_a V)(_:H pd=_b (mz B RA KN))(_:H B=_b (.lst f'))(_:Paired (λb y=>TupAt H (bV b) y) bs f')(_:H RA=_b (.lst i8))(_:Paired (λb y=>TupAt H (bV b) y) rn i8)(_:H KN=_b (.lst kvs))(_:Paired (λg v=>∃A,Zd H g A v) gs kvs)
theorem G6.mono{bs c:_a (_m×_c)}{b:_a (R×_a R)}(s:Aj H H')(h:G6 H pd bs c b):G6 H' pd bs c b:=by
 obtain⟨B,j,i,l,k,a,d,n,o,e,m,f,g⟩:=h;exact⟨B,j,i,l,k,a,s _ _ d,s _ _ n,Ar s o,s _ _ e,Ar s m,s _ _ f,Paired.Jt g λ_ _ ⟨A,q⟩=>⟨A,q.mono s⟩⟩
theorem pdB:CW [(Key.inr "board",V.ref B),(Key.inr "rank",.ref RA),(Key.inr "knob",.ref KN)] (Key.inr ("board" : _m))=_b (.ref B):=by kernel_rfl
theorem pdR:CW [(Key.inr "board",V.ref B),(Key.inr "rank",.ref RA),(Key.inr "knob",.ref KN)] (Key.inr ("rank" : _m))=_b (.ref RA):=by kernel_rfl
theorem pdK:CW [(Key.inr "board",V.ref B),(Key.inr "rank",.ref RA),(Key.inr "knob",.ref KN)] (Key.inr ("knob" : _m))=_b (.ref KN):=by kernel_rfl
theorem vA(h:H pd=_b (mz B RA KN)):Dm H pd (.str "board")<|some<|.ref B:=by
 have:=Dm.k (k:=Key.inr ("board" : _m)) h;rw[pdB] at this;exact this
theorem xG(h:H pd=_b (mz B RA KN)):Dm H pd (.str "rank")<|some<|.ref RA:=by
 have:=Dm.k (k:=Key.inr ("rank" : _m)) h;rw[pdR] at this;exact this
theorem lF(h:H pd=_b (mz B RA KN)):Dm H pd (.str "knob")<|some<|.ref KN:=by
 have:=Dm.k (k:=Key.inr ("knob" : _m)) h;rw[pdK] at this;exact this
inductive rM(vs:_a V)(H:Hp)(Q:VK)(d0:XK):Prop
|mk(pd:_d)(t:_m)(n:_j)(bs rn:_a (_m×_c))(gs:_a (R×_a R))(_:vs=[.ref pd,.str t,.int n])(_:G6 H pd bs rn gs)(_:Q (yd (Pr bs t n 0)) H)
theorem e_:Am ["_law_plan_here","_law_name_here","_law_number","_law_first","_law_board","_law_size"] ew (Ae sVk):=Bc
include N T in
theorem wB:BP P w K mg base BV 1 aD.Vk ew rM:=by
 refine N.FVk.1.DY e_ λH vs Q E A h=>?_;obtain⟨I,t,n,bs,Z,Y,rfl,M,q⟩:=h;have R:=By A;refine⟨_,(Ac (BZ (i:=3) e_.nd U (Or.inl U) Al)
  (Ac (DQ _M U (Bl<|DK R (pv 0) Aw<|λ_ _=>rfl) (Gf U<|Bv (Bh (i:=4) e_.nd U<|Or.inl U)<|Bv (Bh (i:=5) e_.nd U<|Or.inl U) Ez) (Ac (Bg (PW.pt<|HB (Bd Bt (pv 4)<|pv 1)<|Fg<|Fv Ei Gw Al (pv 2)<|pv 5) (Af<|Aq<|BK Bu (pv 3)<|pv 2) BR)
  (Ac (Bg (Bd Bt (pv 4)<|pv 1) (Af<|Aq Er) BR)
  (Af<|BZ (i:=3) e_.nd U (Or.inl U)<|BK Bu (pv 3)<|pv 5))))
  (Af<|Aq Er))),?_⟩
 obtain⟨B,X,T,S,i8,G,y,r,v,_⟩:=M;have D:=v.length;generalize l:Pr bs t n 0=o at q;refine⟨_,vA y,⟨_,oP r⟩,Gb (K:=K) (a:=B) (xs:=S) (λi σ g=>g=H/\Pr (bs.drop i) t n (Fz bs i)=o/\∃m k,σ=[_b (.ref I),_b<|.str t,_b<|.int n,_b<|.int (Fz bs i:_c),m,k]) ⟨U,l,_,_,U⟩ (λi σ g _ h=>by rw[h.1];exact oP r) ?_ ?_⟩
 .rintro i x σ g C ⟨rfl,c,m,k,rfl⟩;obtain⟨b,J,W,rfl,F⟩:=Dy v C;obtain⟨L,s⟩:=Fo J;rw[L] at c;have c:(if b.1=t then (if 0<=n/\n<(b.2:_j) then _b (Fz bs i+n.toNat) else _o) else Pr (bs.drop<|i+1) t n (Fz bs i+b.2))=o:=c;refine⟨_,oP F,U,U,?_⟩;have u:¬ (0<=n/\n<(b.2:_j))->b.1=t->Q .non g:=λO e=>by
   rw[_n e,_l O] at c;rw[<-c] at q;exact q
  by_cases d:b.1=t
  .subst d;refine⟨U,Ff U ?_⟩;by_cases f:0<=n
   .refine ib ?_;rw[_i f];refine Jx ?_;by_cases j:n<(b.2:_j)
    .refine ib ?_;rw[_i j];refine Jx ?_;rw[_n U,_n ⟨f,j⟩] at c;rw[<-c] at q;show Q (.int _) _;rw[show ((Fz bs i:_c):_j)+n=((Fz bs i+n.toNat:_c):_j) by lia];exact q
    .refine ib ?_;rw[_t j];exact⟨U,Ff U<|u (λz=>j z.2) U⟩
   .refine ib ?_;rw[_t f];exact Jz<|⟨U,Ff U<|u (λz=>f z.1) U⟩
  .have p:¬ V.str b.1=V.str t:=λz=>d<|V.str.inj z
   refine⟨U,FJ p<|⟨U,FJ p ⟨U,?_,_b<|.str b.1,_b<|.int (b.2:_c),?_⟩⟩⟩
   .rw[_l d,<-s] at c;exact c
   .rw[s];rfl
 .rintro σ _ ⟨rfl,c,m,k,rfl⟩;rw[<-D,Ż<|al _] at c;rw[<-c] at q;exact q
inductive sX(vs:_a V)(H:Hp)(Q:VK)(d0:XK):Prop
|mk(pd:_d)(t:_m)(n:_j)(rn bs:_a (_m×_c))(gs:_a (R×_a R))(_:vs=[.ref pd,.str t,.int n])(_:G6 H pd rn bs gs)(_:Q (yd (GD bs t n 0)) H)
theorem fH:Am ["_law_plan_here","_law_name_here","_law_number","_law_first","_law_rank","_law_size"] ew (Ae sVq):=Bc
include N T in
theorem zc:BP P w K mg base BV 1 aD.Vq ew sX:=by
 refine N.FVq.1.DY fH λH vs Q E y h=>?_;obtain⟨J,t,n,Z,bs,Y,rfl,O,q⟩:=h;have S:=By y;refine⟨_,(Ac (BZ (i:=3) fH.nd U (Or.inl U) Al)
  (Ac (DQ _M U (Bl<|DK S (pv 0) Aw<|λ_ _=>rfl) (Gf U<|Bv (Bh (i:=4) fH.nd U<|Or.inl U)<|Bv (Bh (i:=5) fH.nd U<|Or.inl U) Ez) (Ac (Bg (PW.pt<|HB (Bd Bt (pv 4)<|pv 1)<|Fg<|Fv Ei Gw Al (pv 2)<|pv 5) (Af<|Aq<|BK Bu (pv 3)<|pv 2) BR)
  (Af<|BZ (i:=3) fH.nd U (Or.inl U)<|BK Bu (pv 3)<|pv 5)))
  (Af<|Aq Er))),?_⟩
 obtain⟨B,C,W,i8,T,I,v,_,_,r,u,_⟩:=O;have D:=u.length;generalize m:GD bs t n 0=j at q;refine⟨_,xG v,⟨_,oP r⟩,Gb (K:=K) (a:=C) (xs:=T) (λi σ o=>o=H/\GD (bs.drop i) t n (Fz bs i)=j/\∃p g,σ=[_b (.ref J),_b<|.str t,_b<|.int n,_b<|.int (Fz bs i:_c),p,g]) ⟨U,m,_,_,U⟩ (λi σ o _ h=>by rw[h.1];exact oP r) ?_ ?_⟩
 .rintro i x σ o A ⟨rfl,c,p,g,rfl⟩;obtain⟨b,L,X,rfl,G⟩:=Dy u A;obtain⟨M,s⟩:=Fo L;rw[M] at c;have c:(if b.1=t/\0<=n/\n<(b.2:_j) then _b (Fz bs i+n.toNat) else GD (bs.drop<|i+1) t n (Fz bs i+b.2))=j:=c;have l:¬ (b.1=t/\0<=n/\n<(b.2:_j))->GD (bs.drop<|i+1) t n (Fz bs<|i+1)=j:=λR=>by
   rw[_l R,<-s] at c;exact c
  have k:((Fz bs i:_c):_j)+((b.2:_c):_j)=((Fz bs (i+1):_c):_j):=by rw[s];rfl
  refine⟨_,oP G,U,U,?_⟩;by_cases d:b.1=t
  .subst d;refine⟨U,Ff U ?_⟩;by_cases e:0<=n
   .refine ib ?_;rw[_i e];refine Jx ?_;by_cases f:n<(b.2:_j)
    .refine ib ?_;rw[_i f];refine Jx ?_;rw[_n ⟨U,e,f⟩] at c;rw[<-c] at q;show Q (.int _) _;rw[show ((Fz bs i:_c):_j)+n=((Fz bs i+n.toNat:_c):_j) by lia];exact q
    .refine ib ?_;rw[_t f];refine⟨U,l<|λz=>f z.2.2,_b<|.str b.1,_b<|.int (b.2:_c),?_⟩;rw[<-k];rfl
   .refine ib ?_;rw[_t e];refine Jz<|⟨U,l<|λz=>e z.2.1,_b<|.str b.1,_b<|.int (b.2:_c),?_⟩
    rw[<-k];rfl
  .have F:¬ V.str b.1=V.str t:=λz=>d<|V.str.inj z
   refine⟨U,FJ F<|⟨U,l<|λz=>d z.1,_b<|.str b.1,_b<|.int (b.2:_c),?_⟩⟩;rw[<-k];rfl
 .rintro σ _ ⟨rfl,c,p,g,rfl⟩;rw[<-D,Ż<|al _] at c;rw[<-c] at q;exact q
inductive gO(vs:_a V)(H:Hp)(Q:VK)(d0:XK):Prop
|mk(pd:_d)(bs rn:_a (_m×_c))(gs:_a (R×_a R))(_:vs=[.ref pd])(_:G6 H pd bs rn gs)(_:bs.length<=5)(_:∀b∈bs,b.2<=61)(_:∀D ys H',H D=_o->Aj H H'->H' D=_b (.lst ys)->Paired (λ(q:_c×_c) y=>TupAt H' [.str (nB bs q.1),.int (q.2:_c)] y) (Eb bs) ys->Q (.ref D) H')
theorem cX:Am j3 ["_law_plan_here"] (Ae sVa):=Bc
inductive jC(H:Hp)(bs:_a<|_m×_c)(pd:_d)(i:_c)(σ:St)(Hx:Hp):Prop
|mk(_:Aj H Hx)(Dx:_d)(ys:_a V)(_:H Dx=_o)(_:Hx Dx=_b (.lst ys))(_:Paired (λ(q:_c×_c) y=>TupAt Hx [.str (nB bs q.1),.int (q.2:_c)] y) (Eb<|bs.take i) ys)(v2 v3:_)(_:σ=[_b (.ref pd),_b<|.ref Dx,v2,v3])
theorem jC.fst{bs:_a (_m×_c)}(h:jC H bs pd i σ Hx):Aj H Hx:=by
 cases h;assumption
include N T in
theorem nC:BP P w K mg base BV 1 aD.Va ["_law_plan_here"] gO:=by
 refine N.FVa.1.DY cX λH vs Q E O h=>?_;obtain⟨pd,bs,rn,gs,rfl,hP,l5,G,q⟩:=h;have hu:=By O;refine⟨_,(Ac (BZ (i:=1) cX.nd U (Or.inl U)<|Cm Ab)
  (Ac (DQ _M U (Bl<|DK hu (pv 0) Aw<|λ_ _=>rfl) (Gf U<|Bv (Bh (i:=2) cX.nd U<|Or.inr U)<|Bv (Bh (i:=3) cX.nd U<|Or.inl U) Ez)<|Af<|BZ (i:=1) cX.nd U (Or.inl U)<|BK Rt (pv 1)<|Bp U (Bb (osc:=Ae sVa) (N:=j3) U U<|by decide) (Dk U T.range<|Aa (pv 3) Ab) (λ_ _ _ _=>Cj)<|λ_ _ _ _=>(CQ<|Aa (pv 3)<|Aa (pv 0) Ab))
  (Af<|Aq<|pv 1))),?_⟩
 obtain⟨B,RA,KN,f',i8,ab,S,z,I,_⟩:=hP;have m:=I.length;refine⟨CV (by simp),λD C=>?_⟩;have l:=A_ (o:=HO.lst []) C;refine⟨_,vA<|l _ _ S,⟨_,oP<|l _ _ z⟩,forL (K:=K) (a:=B) (xs:=f') (jC H bs pd)
  ⟨l,D,[],C,Ah,.nil,_,_,U⟩ (λi σ t _ h=>.inl<|.inl<|h.fst _ _ z) ?_ ?_⟩
 .rintro i D' rc x σ t V ⟨sx,s,g,A,r,c,v2,v3,rfl⟩;obtain⟨b,j,T0,rfl,Z⟩:=Dy I V;have X:=G b<|ai j
  refine⟨_,oP<|sx _ _ Z,U,U,?_⟩;have Y:=Lg (bs.take i) 61 λb m=>G b<|gg m
  rw[cm] at Y;have:min i bs.length * 61<=5 * 61:=im _<|by lia
  have ly:=c.length;refine⟨_,U,by lia,by lia,?_⟩;rw[bp];refine QX (n:=b.2) (λe=>[.str b.1,.int (e:_c)]) (Ax<|rx X (by decide)) (λe he M d R k=>?_)<|λD6 M u GU d wl v=>?_
  .refine⟨by show 2<=sizeLine;decide,λT6 L=>?_⟩;exact k _ _ (A_ L) ⟨T6,U,Ah⟩
  .have lz:=v.length;rw[fT] at lz;refine⟨s,D6,_,_,U,U,d _ _ r,wl,CV<|by lia,λW J=>?_⟩;have p:=A_ (o:=HO.lst<|g++u) J;refine rc _ _ ⟨sx.trans<|d.trans p,W,g++u,(sx.trans d).free J,Ah,?_,_,_,U⟩;rw[Hi j];refine CP (Ar p<|Ar d c)<|Bo (F:=λ(q:_c×_c) y=>TupAt _ [.str (nB bs q.1),.int (q.2:_c)] y) (λe=>(i,e)) ?_
   have en:nB bs i=b.1:=by
    have:=Ov (bs:=bs) (ag.mp j).1;rw[j] at this;exact (congrArg B'<|_h this).symm
   show Paired (λ(e:_c) y=>TupAt _ [.str (nB bs i),.int (e:_c)] y) _ _;rw[en];exact Ar (f:=λe:_c=>[.str b.1,.int (e:_c)]) p v
 .rintro σ t ⟨sx,s,g,A,r,c,v2,v3,rfl⟩;rw[<-m,fE<|al _] at c;exact q s g t A sx r c
def szX(r:R):Int:=match r.rest with
 |.int m::_=>m
 |_=>0
abbrev isW(w:_m)(r:R):Bool:=decide (V.str r.w=V.str w)
noncomputable def KC(i9:_a<|R×_a R)(r:R):_a<|R×_a R:=if Fj r.w=_g then i9++[(r,[])] else if r.w = "line" then (match i9.getLast? with
 |some z=>i9.dropLast++[(z.1,z.2++[r])]
 |none=>[]) else i9
def grp(rs:_a R):_a<|R×_a R:=rs.foldl KC []
theorem EY(a:_a R)(r:R):grp (a++[r])=KC (grp a) r:=by
 unfold grp;rw[kQ];rfl
theorem Ie{a:_a (R×_a R)}(h:Fj r.w=_g):KC a r=a++[(r,[])]:=_n h
theorem XJ(h:r.w = "line"):¬ Fj r.w=true:=by rw[h];decide
theorem IW{a:_a (R×_a R)}{z:R×_a R}(h:r.w = "line"):KC (a++[z]) r=a++[(z.1,z.2++[r])]:=by
 unfold KC;rw[_l (XJ h),_n h,List.getLast?_append];show (a++[z]).dropLast++[(z.1,z.2++[r])]=_;rw[mx]
theorem Nh(h:r.w = "line"):KC [] r=[]:=by
 unfold KC;rw[_l (XJ h),_n h];rfl
theorem Gy{a:_a (R×_a R)}(h:Fj r.w=_p)(hl:¬ r.w = "line"):KC a r=a:=by
 unfold KC;rw[_l (by rw[h];decide),_l hl]
theorem snoc_ind{α:Type}{p:_a α->Prop}(d:p [])(c:∀l x,p l->p (l++[x]))(l:_a α):p l:=by
 have b:∀n (l:_a α),l.length=n->p l:=λn=>by
  induction n with
  |zero=>intro l h;rw[List.length_eq_zero_iff.mp h];exact d
  |succ n f =>
   intro l h;obtain⟨a,z,rfl⟩:=CJ (l:=l) (λe=>by rw[e] at h;cases h);exact c a z<|f a<|by rw[am,ax] at h;exact Fr (YN (Ĝ h)) (YN (Ĝ h.symm))
 exact b _ l U
theorem eO(b:_a R):(grp b).map (·.1)=b.filter λr=>Fj r.w:=by
 refine snoc_ind (p:=λb=>(grp b).map (·.1)=b.filter λr=>Fj r.w) U (λl r d=>?_) b;rw[EY,fk,<-d];by_cases c:Fj r.w=_g
 .rw[Ie c,ba,eR,_n c];rfl
 .rw[eR,_l c,List.filter_nil,cy];by_cases hl:r.w = "line"
  .cases h:grp l with
   |nil=>rw[Nh hl]
   |cons a t =>
    obtain⟨A,z,e⟩:=CJ (l:=a::t) (λe=>nomatch e);rw[e,IW hl,ba,ba];rfl
  .rw[Gy (by simpa using c) hl]
theorem yu(rk:_a<|_m×_c×_j)(b:_a R):(grp b).map (λg=>g.2.map<|lnOf rk)=linesOf rk b:=by
 refine snoc_ind (p:=λb=>(grp b).map (λg=>g.2.map<|lnOf rk)=linesOf rk b) U (λl r d=>?_) b;rw[EY,Cv,<-d];unfold Do;by_cases c:Fj r.w=_g
 .rw[Ie c,_n c,ba];rfl
 .rw[_l c];by_cases hl:r.w = "line"
  .rw[_n hl]
   cases h:grp l with
   |nil=>rw[Nh hl];rfl
   |cons a t =>
    obtain⟨A,z,e⟩:=CJ (l:=a::t) (λe=>nomatch e);rw[e,IW hl,ba,ba];show _=putL (A.map _++[z.2.map (lnOf rk)]) (lnOf rk r);rw[Hj];show _++[(z.2++[r]).map (lnOf rk)]=_;rw[ba];rfl
  .rw[_l hl,Gy (by simpa using c) hl]
theorem yV{d:_a R}:∀g∈grp d,∀r∈g.2,r∈d/\r.w = "line":=by
 refine snoc_ind (p:=λd=>∀g∈grp d,∀r∈g.2,r∈d/\r.w = "line") (λg c=>nomatch c) (λl r i=>?_) d;rw[EY];have b:∀g∈grp l,∀x∈g.2,x∈l++[r]/\x.w = "line":=λg c x f=>⟨bE _ (i g c x f).1,(i g c x f).2⟩;by_cases j:Fj r.w=_g
 .rw[Ie j];intro g c;rcases aT.mp c with h | h
  .exact b g h
  .rw[av.mp h];exact λx f=>nomatch f
 .by_cases hl:r.w = "line"
  .cases h:grp l with
   |nil=>rw[Nh hl];exact λg c=>nomatch c
   |cons a t =>
    obtain⟨A,z,e⟩:=CJ (l:=a::t) (λe=>nomatch e);rw[h,e] at b;rw[e,IW hl];intro g c;rcases aT.mp c with h | h
    .exact b g<|bE _ h
    .rw[av.mp h];intro x f;rcases aT.mp f with h | h
     .exact b z (by simp) x h
     .rw[av.mp h];exact⟨by simp,hl⟩
  .rw[Gy (by simpa using j) hl];exact b
theorem nO:∀(cnt:_c)(us:_a R),cnt<us.length->(∃v,us[us.length - 1 - cnt]? = _b v/\v.w = "stop")->(∀j,j<cnt->∃v,us[us.length - 1 - j]? = _b v/\v.w = "line")->∃(A:_a<|R × _a R)(g:R × _a R),grp us=A++[g]/\g.1.w = "stop"
 |cnt,us,h,⟨v,b,c⟩,hl=>by
  obtain⟨a,z,rfl⟩:=CJ (l:=us) (λe=>by rw[e] at h;exact _z h<|gd _);rw[am,ax,y8] at b hl;rw[am,ax] at h;rw[EY]
  cases cnt with
  |zero =>
   rw[p',bX<|al _,iF] at b
   cases (_h b:z=v);exact⟨_,_,Ie<|by rw[c];decide,c⟩
  |succ n =>
   obtain⟨i,d,o⟩:=hl 0<|Nat.zero_lt_succ _;rw[p',bX<|al _,iF] at d
   cases (_h d:z=i);have e:∀j,j<=n->(a++[z])[a.length - (j+1)]? = a[a.length - 1 - j]?:=λj f=>by
    rw[fb (by lia),Nat.sub_sub,Nat.add_comm 1 j]
   obtain⟨A,g,k,q⟩:=nO n a (Nat.lt_of_succ_lt_succ h) ⟨v,by rw[<-e n (al _)];exact b,c⟩ λj f=>by
    obtain⟨u,m,p⟩:=hl (j+1)<|zaa f
    exact⟨u,by rw[<-e j (fR f)];exact m,p⟩
   rw[k,IW o];exact⟨_,_,U,q⟩
theorem pU{a:_a R}(h:∀(i:_c) r,a[i]? = _b r->r.w = "line"->∃(A:_a<|R × _a R)(g:R × _a R),grp (a.take i)=A++[g]/\g.1.w = "stop"):∀g∈grp a,g.1.w = "stop" \/ g.2=[]:=by
 have d:∀i,∀g∈grp (a.take i),g.1.w = "stop" \/ g.2=[]:=λi=>by
  induction i with
  |zero=>exact λg b=>nomatch b
  |succ i c =>
   rw[dL]
   cases hr:a[i]? with
   |none=>rw[Option.toList_none,cy];exact c
   |some r =>
    rw[Option.toList_some,EY];by_cases f:Fj r.w=_g
    .rw[Ie f];intro g b;rcases aT.mp b with z | z
     .exact c g z
     .rw[av.mp z];exact .inr U
    .by_cases hl:r.w = "line"
     .obtain⟨A,k,e,j⟩:=h i r hr hl;rw[e] at c;rw[e,IW hl];intro g b;rcases aT.mp b with z | z
      .exact c g<|bE _ z
      .rw[av.mp z];exact .inl j
     .rw[Gy (by simpa using f) hl];exact c
 have:=d a.length;rwa [eP] at this
structure PlR(rows:_a R)(bs:_a<|_m×_c)(rk:_a<|_m×_c×_j):Prop where
 b:rows.filter (isW "board")=bs.map Fx
 r:rows.filter (isW "rank")=rk.map Gh
 l:∀(i:_c) r,rows[i]? = _b r->r.w = "line"->∃u∈rows.take i,Fj u.w=_g
 wd:∀r∈rows,WdK r.w
structure wz(rk:_a<|_m×_c×_j)(ks:_a R)(ls:_a<|_a Ln)(gs:_a<|R×_a R):Prop where
 k:gs.map (·.1)=ks
 l:gs.map (λg=>g.2.map<|lnOf rk)=ls
 ln:∀g∈gs,∀r∈g.2,∃(j:_c)(x:_m × _c × _j)(sh lo hi:_j),rk[j]? = _b x/\r=⟨"line",x.1,[.int sh,.int lo,.int hi]⟩/\lnOf rk r=⟨j,sh,lo,hi⟩
 st:∀g∈gs,g.1.w = "stop" \/ g.2=[]
theorem Hv.plan{bs:_a (_m×_c)}{rk:_a (_m×_c×_j)}(h:Hv K aB aP aM rows bs rk ks ls sts)(I:Paired (λ(r:R) v=>TupAt H r.v v) rows vs):PlR rows bs rk/\wz rk ks ls (grp rows):=by
 have e:=Q5 I;have O:=h.ok (KJ H) vs e;have fl:∀w:_m,rows.filter (isW w)=(vs.filter<|pw (KJ H) w).map (KJ H):=λw=>by
  rw[<-e,fg];rfl
 have l:∀{i:_c}{r:R},rows[i]? = _b r->∃v,vs[i]? = _b v/\KJ H v=r:=λ{i r} k=>by
  rw[<-e,ar] at k;exact aI.mp k
 have y:∀i:_c,(vs.take i).map (KJ H)=rows.take i:=λi=>by rw[gE,e]
 refine⟨⟨(fl _).trans O.eb,(fl _).trans O.er,λi r k f=>?_,h.wd⟩,⟨?_,(yu rk rows).trans h.ln,λg n r A=>?_,pU λi r k f=>?_⟩⟩
 .obtain⟨v,d,rfl⟩:=l k;obtain⟨_,u,q,P⟩:=O.ln i v d f;exact⟨_,by rw[<-y];exact aE q,P⟩
 .rw[eO,<-O.ek,<-e,fg];rfl
 .obtain⟨E,f⟩:=yV g n r A;obtain⟨i,k⟩:=dS E;obtain⟨v,d,rfl⟩:=l k;obtain⟨⟨j,x,t,lo,m,o,J,p⟩,_⟩:=O.ln i v d f;have B:(KJ H v).nm∈rk.map (·.1):=J ▸ aE (ai o);have n:=Gv B;rw[ar] at n;obtain⟨M,C,G⟩:=aI.mp n;refine⟨_,M,t,lo,m,C,?_,?_⟩
  .rw[G];generalize KJ H v=r at f p;obtain⟨a,b,c⟩:=r
   cases f
   cases p;rfl
  .unfold lnOf;rw[p]
 .obtain⟨v,d,rfl⟩:=l k;rcases O.ok i v d with g | g
  .obtain⟨cnt,N,t,lo,m,S,Q,_,L,_,z,D,_⟩:=(g.line f).ex;rw[<-y];have s:((vs.take i).map<|KJ H).length=(vs.take i).length:=ah ..;refine nO cnt _ (by rw[s];exact L.lt) ⟨KJ H N,?_,D⟩ λj o=>?_
   .rw[s,ar,z];rfl
   .obtain⟨u,q,F⟩:=L.all j o;exact⟨KJ H u,by rw[s,ar,q];rfl,F⟩
  .exact _z (f.symm.trans g.w)<|by decide
structure NT(H0 H:Hp)(B RA KN:_d)(us:_a R)(pT:_a<|(R×_a R)×_d)(f' i8 kvs:_a V):Prop where
 s:Aj H0 H
 b:H B=_b (.lst f')
 pb:Paired (λb y=>TupAt H (bV b) y) ((us.filter<|isW "board").map λr=>(r.nm,(szX r).toNat)) f'
 r:H RA=_b (.lst i8)
 pr:Paired (λb y=>TupAt H (bV b) y) ((us.filter<|isW "rank").map λr=>(r.nm,(szX r).toNat)) i8
 k:H KN=_b (.lst kvs)
 pk:Paired (λ(g:(R×_a R)×_d) v=>Zd H g.1 g.2 v) pT kvs
 eg:pT.map (·.1)=grp us
 nd:(pT.map (·.2)).Nodup
 nw:∀A∈pT.map (·.2),A≠B/\A≠RA/\A≠KN/\H0 A=_o
theorem NT.mono{a:Hp}{us:_a R}{b:_a ((R×_a R)×_d)}{d c kvs:_a V}(h:NT a H B RA KN us b d c kvs)(s:Aj H H'):NT a H' B RA KN us b d c kvs:=⟨h.s.trans s,s _ _ h.b,Ar s h.pb,s _ _ h.r,Ar s h.pr,s _ _ h.k,Paired.Jt h.pk λ_ _ q=>q.mono s,h.eg,h.nd,h.nw⟩
inductive uL(vs:_a V)(H:Hp)(Q:VK)(d0:XK):Prop
|mk(DR:_d)(us:_a V)(rows:_a R)(bs:_a (_m×_c))(rk:_a (_m×_c×_j))(_:vs=[.ref DR])(_:H DR=_b (.lst us))(_:Paired (λ(r:R) v=>TupAt H r.v v) rows us)(_:PlR rows bs rk)(_:rows.length<=150)(_:∀pd H',H pd=_o->Aj H H'->G6 H' pd bs (rk.map Rz) (grp rows)->Q (.ref pd) H')
theorem LC{α:Type}{F:α->V->Prop}:∀{l:_a α}{vs:_a V},Paired F l vs->∀{x},x∈l->∃y,y∈vs/\F x y
 |_,_,.nil,_,h=>nomatch h
 |_,_,.cons a b,x,h=>by
  rcases ce.mp h with rfl | h
  .exact⟨_,br,a⟩
  .obtain⟨y,c,q⟩:=LC b h;exact⟨y,bg _ c,q⟩
theorem Ew{us:_a R}{w:_m}:(us++[r]).filter (isW w)=us.filter (isW w)++(if isW w r=_g then [r] else []):=by
 rw[fk,eR];split <;> rfl
theorem Xw{w:_m}(h:r.w=w):isW w r=true:=_i<|congrArg V.str h
theorem YL{w:_m}(h:(r.w == w)=_p):¬ isW w r=true:=λz=>Eh h<|_s z
theorem lH(us:_a R):(grp us).length<=us.length:=by
 have:=congrArg Ε<|eO us
 rw[ah] at this;rw[this];exact cr _ _
theorem HX{α:Type}{F G:α->V->Prop}:∀{l:_a α}{vs:_a V},Paired F l vs->(∀x y,x∈l->F x y->G x y)->Paired G l vs
 |_,_,.nil,_=>.nil
 |_,_,.cons a b,h=>.cons (h _ _ br a)<|HX b λx y c=>h x y<|bg _ c
section
variable{H0:Hp}{us:_a R}{pT:_a ((R×_a R)×_d)}{f' i8 kvs:_a V}
theorem NT.addB(h:NT H0 H B RA KN us pT f' i8 kvs){b:_m×_c}{T:_d}(f:H T=_b (.tup<|bV b))(i:B≠RA)(j:B≠KN)(a:H0 B=_o):NT H0 (upd H B<|.lst<|f'++[.ref T]) B RA KN (us++[Fx b]) pT (f'++[.ref T]) i8 kvs:=by
 refine⟨λc o e=>by rw[Ak (Ag e a)];exact h.s c o e,Ah,?_,by rw[Ak (_J i)];exact h.r,?_,by rw[Ak (_J j)];exact h.k,HX h.pk λg v d q=>q.upd h.b (h.nw _<|aE d).1,?_,h.nd,h.nw⟩
 .rw[Ew,_n<|Xw U,ba];exact CP (Bf h.pb h.b)<|.cons (TupAt.upd ⟨T,U,f⟩ h.b) .nil
 .rw[Ew,_l (YL<|by show (("board" : _m) == "rank")=_p;decide),A0];exact Bf h.pr h.b
 .rw[EY,Gy (by show Fj "board" = _p;decide)<|by show ¬ ("board" : _m) = "line";decide];exact h.eg
theorem NT.addR(h:NT H0 H B RA KN us pT f' i8 kvs){x:_m×_c×_j}{T:_d}(d:H T=_b (.tup<|bV<|Rz x))(f:B≠RA)(i:RA≠KN)(b:H0 RA=_o):NT H0 (upd H RA<|.lst<|i8++[.ref T]) B RA KN (us++[Gh x]) pT f' (i8++[.ref T]) kvs:=by
 refine⟨λc o e=>by rw[Ak (Ag e b)];exact h.s c o e,by rw[Ak f];exact h.b,?_,Ah,?_,by rw[Ak (_J i)];exact h.k,HX h.pk λg v a q=>q.upd h.r (h.nw _<|aE a).2.1,?_,h.nd,h.nw⟩
 .rw[Ew,_l (YL<|by show (("rank" : _m) == "board")=_p;decide),A0];exact Bf h.pb h.r
 .rw[Ew,_n<|Xw U,ba];exact CP (Bf h.pr h.r)<|.cons (TupAt.upd ⟨T,U,d⟩ h.r) .nil
 .rw[EY,Gy (by show Fj "rank" = _p;decide)<|by show ¬ ("rank" : _m) = "line";decide];exact h.eg
theorem NT.more(h:NT H0 H B RA KN us pT f' i8 kvs){a:_a ((R×_a R)×_d)}{b:_a V}{X:_d}{l p:_a V}(e:H'=upd H X (.lst p))(d:H X=_b (.lst l))(k:H0 X=_o)(nb:X≠B)(nr:X≠RA)(f:¬ isW "board" r=_g)(i:¬ isW "rank" r=_g)(s:H' KN=_b (.lst b))(q:Paired (λ(g:(R×_a R)×_d) v=>Zd H' g.1 g.2 v) a b)(n:a.map (·.1)=grp (us++[r]))(j:(a.map (·.2)).Nodup)(m:∀A∈a.map (·.2),A≠B/\A≠RA/\A≠KN/\H0 A=_o):NT H0 H' B RA KN (us++[r]) a f' i8 b:=by
 subst e;refine⟨λc o e=>by rw[Ak (Ag e k)];exact h.s c o e,by rw[Ak (_J nb)];exact h.b,?_,by rw[Ak (_J nr)];exact h.r,?_,s,q,n,j,m⟩
 .rw[Ew,_l f,cy];exact Bf h.pb d
 .rw[Ew,_l i,cy];exact Bf h.pr d
theorem NT.addK(h:NT H0 H B RA KN us pT f' i8 kvs){T a A:_d}(u:Fj r.w=_g)(d:¬ isW "board" r=_g)(k:¬ isW "rank" r=_g)(p:H T=_b (.tup [.ref a,.ref A]))(i:H a=_b (.tup r.v))(s:H A=_b (.lst []))(l:A≠B)(o:A≠RA)(c:A≠KN)(t:H0 A=_o)(e:A ∉ pT.map (·.2))(w:B≠KN)(j:RA≠KN)(m:H0 KN=_o):NT H0 (upd H KN<|.lst<|kvs++[.ref T]) B RA KN (us++[r]) (pT++[((r,[]),A)]) f' i8<|kvs++[.ref T]:=by
 refine h.more U h.k m (_J w) (_J j) d k Ah ?_ ?_ ?_ ?_
 .refine CP (HX h.pk λg v n q=>q.upd h.k (h.nw _<|aE n).2.2.1)<|.cons (Zd.upd ⟨T,_,[],U,p,⟨a,U,i⟩,s,.nil⟩ h.k c) .nil
 .rw[ba,h.eg,EY,Ie u];rfl
 .rw[ba];exact L_ h.nd e
 .intro f b;rw[ba] at b;rcases aT.mp b with z | z
  .exact h.nw f z
  .rw[av.mp z];exact⟨l,o,c,t⟩
theorem NT.addL{g:R×_a R}{A c:_d}{b:_a V}(h:NT H0 H B RA KN us (pT++[(g,A)]) f' i8 kvs)(o:r.w = "line")(m:¬ isW "board" r=_g)(t:¬ isW "rank" r=_g)(a:H A=_b (.lst b))(s:H c=_b (.tup r.v)):NT H0 (upd H A<|.lst<|b++[.ref c]) B RA KN (us++[r]) (pT++[((g.1,g.2++[r]),A)]) f' i8 kvs:=by
 have k:(pT++[((g.1,g.2++[r]),A)]).map (·.2)=(pT++[(g,A)]).map (·.2):=by
  rw[ba,ba];rfl
 obtain⟨u,D,w,G⟩:=h.nw A<|by rw[â];simp
 have n:∀x∈pT,x.2≠A:=λx d e=>by
  have:=h.nd;rw[ba] at this;exact (ļ.mp this).2.2 _ (vv d) A (by simp) e
 obtain⟨I,v,rfl,C,T,y,E,rfl,i,l,p,F⟩:=GF h.pk
 cases (HO.lst.inj (_h (a.symm.trans p)):b=E);refine h.more U a G u D m t (by rw[Ak (_J w)];exact h.k) ?_ ?_ (k ▸ h.nd)<|by rw[k];exact h.nw
 .refine CP (HX C λx v d q=>q.upd a<|n x d)<|.cons ⟨T,y,b++[.ref c],U,by rw[Ak λz=>by rw[z,a] at i;cases i];exact i,l.upd a,Ah,?_⟩ .nil
  exact CP (Bf (f:=R.v) F a)<|.cons (TupAt.upd ⟨c,U,s⟩ a) .nil
 .have j:=h.eg;rw[ba] at j;rw[EY,<-j];show _=KC (pT.map (·.1)++[g]) r;rw[IW o,ba];rfl
theorem cQ{us:_a R}:∀g∈grp us,g.2.length<=us.length:=by
 refine snoc_ind (p:=λus=>∀g∈grp us,g.2.length<=us.length) (λg c=>nomatch c) (λl r d=>?_) us;rw[EY,am,ax];have b:∀g∈grp l,g.2.length<=l.length+1:=λg c=>iq<|d g c
 by_cases f:Fj r.w=_g
 .rw[Ie f];intro g c;rcases aT.mp c with h | h
  .exact b g h
  .rw[av.mp h];exact eK _
 .by_cases hl:r.w = "line"
  .cases h:grp l with
   |nil=>rw[Nh hl];exact λg c=>nomatch c
   |cons a t =>
    obtain⟨A,z,e⟩:=CJ (l:=a::t) (λe=>nomatch e);rw[h,e] at b d;rw[e,IW hl];intro g c;rcases aT.mp c with h | h
    .exact b g<|bE _ h
    .rw[av.mp h];have:=d z<|by simp
     rw[am,ax];exact md this
  .rw[Gy (by simpa using f) hl];exact b
theorem RL{X:_d}{l c:_a V}(a:Hx pd=_b (mz B RA KN))(b:Hx X=_b (.lst l)):upd Hx X (.lst c) pd=_b (mz B RA KN):=by
 rw[Ak λz=>by rw[z,b] at a;cases a];exact a
theorem NT.skip(h:NT H0 H B RA KN us pT f' i8 kvs)(a:r.w = "step"):NT H0 H B RA KN (us++[r]) pT f' i8 kvs:=by
 refine⟨h.s,h.b,?_,h.r,?_,h.k,h.pk,?_,h.nd,h.nw⟩
 .rw[Ew,_l<|YL<|by rw[a];decide,cy];exact h.pb
 .rw[Ew,_l<|YL<|by rw[a];decide,cy];exact h.pr
 .rw[EY,Gy (by rw[a];decide)<|by rw[a];decide];exact h.eg
end
theorem rW:Am ["_law_rows_here","_law_plan_here","_law_row"] ["_law_rows_here"] (Ae sVp):=Bc
inductive zR(pd:_d)(B:_d)(RA:_d)(KN:_d)(H:Hp)(rows:_a R)(DR:_d)(i:_c)(σ:St)(Hx:Hp):Prop
|mk(_:Hx pd=_b (mz B RA KN))(pT f' i8 kvs v2:_)(_:NT H Hx B RA KN (rows.take i) pT f' i8 kvs)(_:f'.length<=i)(_:i8.length<=i)(_:σ=[_b (.ref DR),_b (.ref pd),v2])
include N T in
theorem AAb:BP P w K mg base BV 1 aD.Vp ["_law_rows_here"] uL:=by
 refine N.FVp.1.DY rW λH vs Q E hr h=>?_;obtain⟨DR,us,d,bs,rk,rfl,Pp,hP,S,ZH,q⟩:=h;have hu:=By hr;refine⟨_,(@Ac _ _ _ _ _ (@Be _ _ _ _ _ _ 1 rW.nd U (Or.inl U) (@gH _ _ _ _ _ (@PN _ _ _ _ _ _ _ _ _ Aw (@Cm _ _ _ _ Ab)<|@PN _ _ _ _ _ _ _ _ _ Aw (@Cm _ _ _ _ Ab)<|@PN _ _ _ _ _ _ _ _ _ Aw (@Cm _ _ _ _ Ab) jQ) U U (by intro h;cases h) (by decide)) rfl (Or.inl rfl)) (@Ac _ _ _ _ _ (DQ _M rfl (Bl (pv 0)) (Bh (i:=2) rW.nd rfl (Or.inl rfl)) (@Af _ _ _ (@Bg _ _ _ _ _ _ _ _ (PW.pt (Fy (Bd Bt (An K (pv 2)) Aw) (Eu (Bd Bt (An K (pv 2)) Aw)))) (@Af _ _ _ (Bq (GR ci dA dE C_ (DK hu (pv 1) (An K (pv 2)) (λ_ _=>rfl)) (@Ao _ _ _ _ _ U (@CQ _ _ _ _ _ (@Ao _ _ _ _ _ U (An K (pv 2)) (@Ao _ _ _ _ _ U (An K (pv 2)) Ab))) Ab)))) (@Af _ _ _ (@Bg _ _ _ _ _ _ _ _ (Bd Bt (An K (pv 2)) Aw) (@Af _ _ _ (Bq (GR ci dA dE C_ (An K (B_ K (DK hu (pv 1) Aw (λ_ _=>rfl)) (Km O8 Al))) (@Ao _ _ _ _ _ U (pv 2) Ab)))) (@Af _ _ _ (@Bg _ _ _ _ _ _ _ _ (Bd PB (An K (pv 2)) Aw) (@Af _ _ _ (Bq (GR ci dA dE C_ (DK hu (pv 1) Aw (λ_ _=>rfl)) (@Ao _ _ _ _ _ U (@CQ _ _ _ _ _ (@Ao _ _ _ _ _ U (pv 2) (@Ao _ _ _ _ _ U (@Cm _ _ _ _ Ab) Ab))) Ab)))) BR))))))) (@Af _ _ _ (@Aq _ _ _ _ (pv 1))))),?_⟩;refine λt Bz=>?_;have s0:=A_ (o:=HO.dK []) Bz;generalize ab:upd H t (HO.dK [])=H0 at s0 |-;have e0:H0 t=_b (.dK []):=by rw[<-ab];exact Ah
 clear ab;refine⟨CV (by simp),λB hB=>⟨CV (by simp),λf xS=>⟨CV (by simp),λk J=>?_⟩⟩⟩;have s1:=A_ (o:=HO.lst []) hB;have u1:upd H0 B (HO.lst []) B=_b (.lst []):=Ah;generalize upd H0 B (HO.lst [])=H1 at s1 u1 xS J |-;have O:=A_ (o:=HO.lst []) xS;have u2:upd H1 f (HO.lst []) f=_b (.lst []):=Ah;generalize upd H1 f (HO.lst [])=H2 at O u2 J |-;obtain⟨H3,L,s3,u3⟩:=Dr (o:=HO.lst []) J;rw[L];have ap:B≠f:=Ag u1 xS;have aw:B≠k:=Ag (O _ _ u1) J;have aB:f≠k:=Ag u2 J;have DE:=s1.trans<|O.trans s3
 have aK:H B=none:=s0.free hB;have as:H f=none:=(s0.trans s1).free xS;have an:H k=none:=(s0.trans<|s1.trans O).free J;refine⟨DE _ _ e0,[(Key.inr "board",.ref B),(Key.inr "rank",.ref f),(Key.inr "knob",.ref k)],U,by show 3<=15;decide,?_⟩;have s4:Aj H<|upd H3 t<|HO.dK<|G3 [] [(Key.inr "board",.ref B),(Key.inr "rank",.ref f),(Key.inr "knob",.ref k)]:=λc o e=>by
  rw[Ak (Ag e Bz)];exact (s0.trans DE) _ _ e
 have u4:upd H3 t (HO.dK<|G3 [] [(Key.inr "board",.ref B),(Key.inr "rank",.ref f),(Key.inr "knob",.ref k)]) t=_b (mz B f k):=by
  rw[Ah];exact congrArg (λl=>_b<|HO.dK l) (show G3 [] [(Key.inr "board",.ref B),(Key.inr "rank",.ref f),(Key.inr "knob",.ref k)]=[(Key.inr "board",.ref B),(Key.inr "rank",.ref f),(Key.inr "knob",.ref k)] by kernel_rfl)
 have ne:∀{X:_d},H3 X=_b (.lst [])->X≠t:=λ{X} e z=>by rw[z,DE _ _ e0] at e;cases e
 have uB:=s3 _ _<|O _ _ u1
 have uR:=s3 _ _ u2;have I0:NT H (upd H3 t<|HO.dK<|G3 [] [(Key.inr "board",.ref B),(Key.inr "rank",.ref f),(Key.inr "knob",.ref k)]) B f k [] [] [] [] []:=⟨s4,by rw[Ak (ne uB)];exact uB,.nil,by rw[Ak (ne uR)];exact uR,.nil,by rw[Ak (ne u3)];exact u3,.nil,U,ku,λ_ h=>nomatch h⟩;generalize upd H3 t (HO.dK (G3 [] [(Key.inr "board",.ref B),(Key.inr "rank",.ref f),(Key.inr "knob",.ref k)]))=H4 at u4 I0 |-;clear ne uB uR s4 DE u1 u2 u3 s1 O s3 hB xS J e0;have ac:=hP.length;refine⟨⟨_,oP<|I0.s _ _ Pp⟩,forL (K:=K) (a:=DR) (xs:=us) (zR t B f k H d DR)
  ⟨u4,_,_,_,_,_,I0,al _,al _,U⟩ (λi σ M _ h=>by obtain⟨_,_,_,_,_,_,I,_⟩:=h;exact .inl<|.inl<|I.s _ _ Pp) ?_ ?_⟩
 .rintro i D' rc x σ M hx ⟨s,pT,Y,i8,n,v2,I,lb,lr,rfl⟩;obtain⟨r,Ix,T0,rfl,sP⟩:=Dy hP hx;have m:=I.s _ _ sP;have aM:=(ag.mp Ix).1;have Kt:=ai Ix;have et:d.take (i+1)=d.take i++[r]:=by rw[dL,Ix];rfl
  have gl:n.length<=i:=by
   have h1:=I.pk.length;have h2:=congrArg Ε I.eg;have h3:=lH<|d.take i
   rw[ah] at h2;rw[cm] at h3;lia
  have I1:∀{Hn:Hp}{pT:_a ((R × _a R) × _d)}{Y i8 n:_a V},NT H Hn B f k (d.take i++[r]) pT Y i8 n->NT H Hn B f k (d.take<|i+1) pT Y i8 n:=λh=>by rw[et];exact h
  refine gN (i:=2) ?_;by_cases hb:r.w = "board"
  .have hm:r∈d.filter (isW "board"):=be.mpr ⟨Kt,Xw hb⟩;rw[S.b] at hm;obtain⟨b,_,rfl⟩:=ay.mp hm;refine⟨_,_,oP m,U,U,Ff U<|?_⟩;refine⟨_,_,oP m,U,_,vA s,.inl ⟨U,_,oP I.b⟩,_,_,oP m,U,_,_,oP m,U,by show 2<=sizeLine;decide,λT5 W=>?_⟩;obtain⟨H5,L,C,Z⟩:=Dr (o:=HO.tup<|bV b) W;rw[L];have D:=I.mono C;exact⟨Y,D.b,Ax<|by lia,rc _ _ ⟨RL (C _ _ s) D.b,_,_,_,_,_,I1<|D.addB Z ap aw aK,by rw[am,ax];exact md lb,iq lr,U⟩⟩
  have nb:¬ V.str r.w=V.str "board":=λz=>hb<|V.str.inj z
  by_cases G:r.w = "rank"
  .have hm:r∈d.filter (isW "rank"):=be.mpr ⟨Kt,Xw G⟩;rw[S.r] at hm;obtain⟨b,_,rfl⟩:=ay.mp hm;refine⟨_,_,oP m,U,U,FJ nb ⟨_,_,oP m,U,U,Ff U ?_⟩⟩;refine⟨_,_,oP m,U,_,xG s,.inl ⟨U,_,oP I.r⟩,_,_,oP m,U,_,_,oP m,U,by show 2<=sizeLine;decide,λT5 W=>?_⟩;obtain⟨H5,L,C,Z⟩:=Dr (o:=HO.tup<|bV<|Rz b) W;rw[L];have D:=I.mono C;exact⟨i8,D.r,Ax<|by lia,rc _ _ ⟨RL (C _ _ s) D.r,_,_,_,_,_,I1<|D.addR Z ap aB as,iq lb,by rw[am,ax];exact md lr,U⟩⟩
  have nr:¬ V.str r.w=V.str "rank":=λz=>G<|V.str.inj z
  have w1:¬ isW "board" r=true:=λz=>nb<|_s z
  have w2:¬ isW "rank" r=true:=λz=>nr<|_s z
  refine⟨_,_,oP m,Av (j:=0) U,U,FJ nb ⟨_,_,oP m,Av (j:=0) U,U,FJ nr ⟨_,_,oP m,Av (j:=0) U,U,?_⟩⟩⟩;by_cases hl:r.w = "line"
  .obtain⟨u,hu,hk⟩:=S.l i r Ix hl;have hg:pT≠[]:=λe=>by
    have h1:=eO<|d.take i
    rw[<-I.eg,e] at h1;have h2:=be (p:=λr:R=>Fj r.w) |>.mpr ⟨hu,hk⟩
    rw[<-h1] at h2
    cases h2
   obtain⟨wv,⟨g,A⟩,rfl⟩:=CJ hg;obtain⟨i6,v,rfl,p1,T,rv,ls,rfl,g1,g2,g3,g4⟩:=GF I.pk;have CO:=cQ (us:=d.take i) g<|by rw[<-I.eg,â];simp
   have aN:g.2.length=ls.length:=g4.length;rw[cm] at CO;exact Ff (congrArg V.str hl) ⟨_,lF s,_,_,oP I.k,W6 ..,_,_,oP g1,U,.inl ⟨U,_,oP g3⟩,ls,g3,Ax<|by lia,rc _ _ ⟨RL s g3,_,_,_,_,_,I1<|I.addL hl w1 w2 g3 m,iq lb,iq lr,U⟩⟩
  refine FJ (λz=>hl<|V.str.inj z) ⟨_,_,.inl<|Or.inl m,Av (j:=0) U,U,?_⟩;by_cases hs:r.w = "step"
  .exact Xm (congrArg V.str hs)<|rc _ _ ⟨s,_,_,_,_,_,I1<|I.skip hs,iq lb,iq lr,U⟩
  have hk:Fj r.w=true:=by
   rcases S.wd r Kt with h | h | h | h | h | h | h
   .exact _z h hb
   .exact _z h G
   .rw[h];decide
   .rw[h];decide
   .rw[h];decide
   .exact _z h hl
   .exact _z h hs
  rw[_t λz=>hs<|V.str.inj z];refine⟨_,lF s,.inl ⟨U,_,oP I.k⟩,CV (by simp),λA hA=>⟨by show 2<=sizeLine;decide,λT5 W=>?_⟩⟩;have C:=A_ (o:=HO.lst []) hA;have Z:upd M A (HO.lst []) A=_b (.lst []):=Ah;generalize upd M A (HO.lst [])=H5 at C Z W |-;obtain⟨H6,L,s6,u6⟩:=Dr (o:=HO.tup [.ref T0,.ref A]) W;rw[L];have I6:=(I.mono C).mono s6;have fr:∀{X:_d}{o:HO},M X=_b o->A≠X:=λe z=>by rw[z,e] at hA;cases hA
  refine⟨n,I6.k,Ax<|by lia,rc _ _ ⟨RL (s6 _ _<|C _ _ s) I6.k,_,_,_,_,_,I1<|I6.addK hk w1 w2 u6 (s6 _ _<|C _ _ m) (s6 _ _ Z) (fr I.b) (fr I.r) (fr I.k) (I.s.free hA) (λh=>?_) aw aB an,iq lb,iq lr,U⟩⟩;obtain⟨g,hg,rfl⟩:=ay.mp h;obtain⟨y,hy,T,rv,ls,_,_,_,h3,_⟩:=LC I.pk hg;exact fr h3 U
 .rintro σ M ⟨s,pT,Y,i8,n,v2,I,lb,lr,rfl⟩;rw[<-ac,eP] at I;refine q t M Bz I.s ⟨B,f,k,Y,i8,n,s,I.b,?_,I.r,?_,I.k,?_⟩
  .have:=I.pb;rw[S.b,bb] at this;rw[show bs.map ((λr:R=>(r.nm,(szX r).toNat)) ∘ Fx)=bs from (List.map_congr_left λ_ _=>rfl).trans<|HU bs] at this;exact this
  .have:=I.pr;rw[S.r,bb] at this;exact this
  .rw[<-I.eg];exact Bo (F:=λg v=>∃A,Zd M g A v) (·.1)<|Paired.Jt I.pk λg v q=>⟨g.2,q⟩
theorem YZ{K:_q}(a:X.A.units<cLine)(h:X.K=K):HW X (compareOp .NotEq) (λx y H Q=>∃p q xs,x=V.ref p/\y=V.ref q/\Dd K H p xs/\Dd K H q []/\Q (.bl<|!xs.isEmpty) H):=h ▸ UW a
abbrev ZZ(ck:_a _c):_a<|Key×V:=ck.map λk=>(kH k,V.bl _g)
theorem Vi{a b:_c}(h:kH a=kH b):a=b:=by have:=Key.inl.inj h;lia
theorem bD(b:_a _c)(k:_c):CW (ZZ b) (kH k)=if k∈b then _b (.bl _g) else none:=by
 induction b with
 |nil=>rfl
 |cons a l c =>
  unfold CW at c |-;show F2 _ (KG _<|(kH a,V.bl _g)::ZZ l)=_;rw[Ë];by_cases e:a=k
  .subst e;rw[show decide (kH a=kH a)=_g from _i U,_n Ä];rfl
  .rw[show decide (kH a=kH k)=_p from _t λz=>e<|Vi z];show F2 _ (KG _<|ZZ l)=_;rw[c];by_cases h:k∈l
   .rw[_n h,_n<|bg _ h]
   .rw[_l h,_l λz=>(ce.mp z).elim (λz=>e z.symm) h]
theorem pH{a:_a _c}{k:_c}(h:k ∉ a):putK (ZZ a) (kH k) (.bl _g)=ZZ (a++[k]):=by
 unfold putK;rw[_l]
 .show _=Ļ _ (a++[k]);rw[ba];rfl
 .intro z;obtain⟨x,c,e⟩:=fq.mp z;obtain⟨j,b,rfl⟩:=ay.mp c;exact h<|Vi (_s e) ▸ b
theorem xq{bs:_a (_m×_c)}{a:_c}(h:(Eb bs)[i]? = _b (a,n)):bs[a]? = _b (nB bs a,zB bs a):=by
 obtain⟨b,c,_⟩:=Nq h;exact Ov (ag.mp c).1
theorem sO{sz:_a _c}{p q a:_c}{s:_j}(k:((Az cn sz).map (·.1)).Nodup)(o:p<sz.length)(u:q<sz.length)(hi:(Eb<|Az cn sz)[i]? = _b (a,n)):gl (Az cn sz) (.cp p q s) i=if cn p=nB (Az cn sz) a then Pr (Az cn sz) (cn q) ((n:_c)+s) 0 else none:=by
 have j:=Ej (c:=cn)<|af o
 have h:=Ej (c:=cn)<|af u
 have b:=xq hi;have d:=Tc (m:=(n:_c)+s) (f:=0) k h;show (match (Eb<|Az cn sz)[i]?,(Az cn sz)[q]? with
  |some t,_b l=>(match Ny (Az cn sz) p q s t l.2 with
   |.int v=>_b v.toNat
   |_=>_o)
  |_,_=>_o)=_
 rw[hi,h];show (match Ny (Az cn sz) p q s (a,n) (sz[q]) with | .int v=>_b v.toNat | _=>_o)=_;unfold Ny;by_cases e:cn p=nB (Az cn sz) a
 .have g:a=p:=by
   have hl:a<((Az cn sz).map (·.1)).length:=by
    rw[ah];exact (ag.mp b).1
   refine (kU hl k).mp ?_;rw[ar,ar,b,j];exact congrArg _b e.symm
  rw[_n e,show Pr (Az cn sz) (cn q) ((n:_c)+s) 0=_ from d];by_cases c:0<=((n:_c):_j)+s/\((n:_c):_j)+s<(sz[q]:_c)
  .rw[_n ⟨g,c⟩,_n c];refine congrArg _b ?_;unfold Fz;lia
  .rw[_l λz=>c z.2,_l c]
 .rw[_l e,_l];intro z;refine e ?_;have r:a=p:=z.1;subst r;rw[j] at b;exact congrArg B'<|_h b
structure CvI(st:_c->_c->Prop)(hs ck gr:_a _c)(N:_c):Prop where
 nd:ck.Nodup
 r:∀k∈ck,Lh st (λi=>i∈hs) k
 lt:∀k∈ck,k<N
 g:∀k∈gr,k∈hs \/ k∈ck
noncomputable def Q0:_r HO->_c
 |some (.lst l)=>l.length
 |some (.dK l)=>l.length
 |_=>0
inductive ur(vs:_a V)(H:Hp)(Q:VK)(d0:XK):Prop
 |mk(pd kl hl:_d)(cn:_c->_m)(sz:_a _c)(kbs:_a Kb)(rn:_a (_m×_c))(gs:_a (R×_a R))(D:_c)(ms hs:_a _c):vs=[.ref pd,.ref kl,.ref hl]->G6 H pd (Az cn sz) rn gs->gs.map (·.1)=Bw cn kbs->((Az cn sz).map (·.1)).Nodup->Tg sz.length kbs->(Az cn sz).length<=5->(∀b∈Az cn sz,b.2<=61)->H kl=_b (.lst (nV ms))->(∀k,k∈ms ↔ k<kbs.length/\D.testBit k=_g)->H hl=_b (.lst (nV hs))->(∀k∈hs,k<(Eb (Az cn sz)).length)->hs.length<=400->(∀F ck H',H F=_o->Aj H H'->H' F=_b (.dK (ZZ ck))->ck.Nodup->(∀k∈ck,k<(Eb (Az cn sz)).length)->(∀j,j∈ck ↔ Lh (stp (Az cn sz) kbs D) (λi=>i∈hs) j)->Q (.ref F) H')->ur vs H Q d0
theorem Rp:Am ["_law_plan_here","_law_knobs","_law_held","_law_keys","_law_coupled_here","_law_grown","_law_name_here","_law_number","_law_at","_law_row","_law_key_here"] ez (Ae sVc):=Bc
inductive yf(H:Hp)(L:_d)(ys:_a V)(cn:_c->_m)(sz:_a _c)(F:_d)(G:_d)(kbs:_a Kb)(D:_c)(hs:_a _c)(M:_c)(pd:_d)(kl:_d)(hl:_d)(σ:St)(Hx:Hp):Prop
|mk(_:Aj H Hx)(_:Hx L=_b (.lst ys))(_:Paired (λ(q:_c×_c) y=>TupAt Hx [.str (nB (Az cn sz) q.1),.int (q.2:_c)] y) (Eb<|Az cn sz) ys)(ck gr:_a _c)(_:Hx F=_b (.dK<|ZZ ck))(_:Hx G=_b (.lst<|nV gr))(_:CvI (stp (Az cn sz) kbs D) hs ck gr M)(_:(∀i,(i∈hs \/ i∈ck)->i∈gr \/ ∀j,stp (Az cn sz) kbs D i j->j∈ck))(_:gr.length+(M - ck.length)<=800)(v6 v7 v8 v9 oS:_)(_:σ=[_b (.ref pd),_b<|.ref kl,_b<|.ref hl,_b<|.ref L,_b<|.ref F,_b<|.ref G,v6,v7,v8,v9,oS])
inductive jE(H:Hp)(L:_d)(ys:_a V)(cn:_c->_m)(sz:_a _c)(F:_d)(G:_d)(kbs:_a Kb)(D:_c)(hs:_a _c)(M:_c)(ck:_a _c)(i:_c)(ms:_a _c)(gr:_a _c)(pd:_d)(kl:_d)(hl:_d)(a:_c)(n:_c)(t:_c)(σ:St)(Hx:Hp):Prop
|mk(_:Aj H Hx)(_:Hx L=_b (.lst ys))(_:Paired (λ(q:_c×_c) y=>TupAt Hx [.str (nB (Az cn sz) q.1),.int (q.2:_c)] y) (Eb<|Az cn sz) ys)(rL vj:_a _c)(_:Hx F=_b (.dK<|ZZ rL))(_:Hx G=_b (.lst<|nV vj))(_:CvI (stp (Az cn sz) kbs D) hs rL vj M)(_:(∀k∈ck,k∈rL))(_:(∀e,(e∈hs \/ e∈rL)->e∈vj \/ e=i \/ ∀j,stp (Az cn sz) kbs D e j->j∈rL))(_:(∀u k z j,u<t->ms[u]? = _b k->kbs[k]? = _b z->gl (Az cn sz) z i=_b j->j∈rL))(_:vj.length+(M - rL.length)=gr.length+(M - ck.length))(v8 v9 oS:_)(_:σ=[_b (.ref pd),_b<|.ref kl,_b<|.ref hl,_b<|.ref L,_b<|.ref F,_b<|.ref G,_b<|.str<|nB (Az cn sz) a,_b<|.int (n:_c),v8,v9,oS])
theorem jE.fst{L:_d}{sz:_a _c}{F:_d}{G:_d}{D:_c}{f:_a _c}{M:_c}{b:_a _c}{c:_a _c}{d:_a _c}{e:_d}{hl:_d}{a:_c}{t:_c}(h:jE H L ys cn sz F G kbs D f M b i c d pd e hl a n t σ Hx):Aj H Hx:=by
 cases h;assumption
include N T in
theorem zN:BP P w K mg base BV 2 aD.Vc ez ur:=by
 refine N.FVc.1.DY Rp λH vs Q E hr h=>?_;obtain⟨pd,kl,hl,l,sz,Y,rn,gs,D,ms,hs,rfl,hP,eg,nd,re,l5,AY,aK,yA,IJ,AU,OM,q⟩:=h;have hu:=By hr;refine⟨_,(Ac (BZ (i:=3) Rp.nd U (Or.inl U)<|BJ N.FVa (nC N T) hr<|Aa (pv 0) Ab)
  (Ac (BZ (i:=4) Rp.nd U (Or.inl U) Hg)
  (Ac (BZ (i:=5) Rp.nd U (Or.inl U)<|Ci Ec U T.list fe<|Aa (pv 2) Ab)
  (Ac (Uh _M (Bd (YZ (K:=K) hr.qX U) (pv 5)<|Cm Ab) (Ac (Ph (B_ K (pv 3)<|V2 ci PySem.F.slot_list_pop PySem.F.type_list_pop sW<|pv 5)<|Gf U<|Bv (Bh (i:=6) Rp.nd U<|Or.inl U)<|Bv (Bh (i:=7) Rp.nd U<|Or.inl U) Ez)
  (Af (DQ _M U (Bl<|pv 1) (Bh (i:=8) Rp.nd U<|Or.inl U) (Ac (BZ (i:=9) Rp.nd U (Or.inl U)<|An K<|B_ K (DK hu (pv 0) Aw<|λ_ _=>rfl)<|pv 8)
  (Af (Bg (PW.pt<|HB (Bd Bt (An K<|pv 9) Aw)<|Fg<|Bd Bt (An K<|pv 9)<|pv 6) (Ac (BZ (i:=10) Rp.nd U (Or.inl U)<|BJ N.FVk (wB N T) hr<|Aa (pv 0)<|Aa (An K<|pv 9)<|Aa (BK Bu (pv 7)<|An K<|pv 9) Ab)
  (Af (Bg (PW.pt<|HB (Bd RZ (pv 10) Er)<|Fg<|PP<|Ma hu (pv 10)<|pv 4) (Ac (Gz hu (pv 4) (pv 10) JN U)
  (Af<|Bq<|GR ci dA dE C_ (pv 5)<|Aa (pv 10) Ab)) BR))) BR)))))))
  (Af<|Aq<|pv 4))))),?_⟩
 refine⟨pd,_,rn,gs,U,hP,l5,AY,λL ys H1 J s1 ac II F d=>?_⟩;have lp:(Eb<|Az l sz).length<=305:=by
  have:=Lg (Az l sz) 61 AY;have:(Az l sz).length * 61<=5 * 61:=im _ l5;lia
 obtain⟨H2,k7,t2,f2⟩:=Dr (o:=HO.dK []) d;rw[k7];refine⟨hl,nV hs,U,.inl<|oP<|t2 _ _<|s1 _ _ IJ,λG f=>?_⟩;obtain⟨H3,k7,t3,g3⟩:=Dr (o:=HO.lst<|nV hs) f;rw[k7];have f3:=t3 _ _ f2;have an:F≠G:=Ag f2 f;have a3:H F=none:=s1.free d;have a0:H G=none:=(s1.trans t2).free f;have a4:L≠F:=Ag ac d;have a2:L≠G:=Ag (t2 _ _ ac) f;have XA:=t3 _ _<|t2 _ _ ac
 have a7:=Ar t3<|Ar t2 II
 have s3:=s1.trans<|t2.trans t3
 clear t3 t2 f2 d f ac II s1 J;generalize hM:(Eb (Az l sz)).length=M at lp AU q;have a5:∀{ck:_a _c},ck.Nodup->(∀k∈ck,k<M)->ck.length<=M:=λh1 h2=>Ef M h1 h2;show Df 5 _ _ _ _;rw[TV];refine Uw ?_;refine R4 (yf H L ys l sz F G Y D hs M pd kl hl)
  (λ_ S=>Q0 (S G)+(M - Q0 (S F))) ⟨s3,XA,a7,[],hs,f3,g3,⟨ħ,(λ_ h=>nomatch h),(λ_ h=>nomatch h),λk hk=>.inl hk⟩,λi h=>.inl (h.resolve_right<|by simp),by rw[List.length_nil];lia,_,_,_,_,_,U⟩ ?_ ?_
 .rintro σ S ⟨sx,J,Z,ck,m,d,f,I,cl,hm,v6,v7,v8,v9,oS,rfl⟩;refine⟨CV (by simp),λE5 hE=>?_⟩;obtain⟨H4,k7,t4,u4⟩:=Dr (o:=HO.lst []) hE;rw[k7];have mu:Q0 (S G)+(M - Q0 (S F))=m.length+(M - ck.length):=by
   rw[f,d];show (nV m).length+(M - (ZZ ck).length)=_;rw[ah,ah]
  rw[mu];replace J:=t4 _ _ J;replace d:=t4 _ _ d;replace f:=t4 _ _ f;replace Z:=Ar t4 Z;replace sx:=sx.trans t4;clear mu t4;refine⟨G,E5,_,U,U,oP f,oP u4,?_⟩;clear u4 hE;by_cases g0:m=[]
  .subst g0;exact (q F ck H4 a3 sx d I.nd I.lt<|Lh.all (W:=λj=>j∈ck) I.r λi h=>(cl i h).resolve_left<|by simp)
  obtain⟨m,i,rfl⟩:=CJ g0;have en:nV (m++[i])=nV m++[V.int (i:_c)]:=by
   unfold nV;rw[ba];rfl
  rw[en] at f |-;rw[show (!(nV m++[V.int ((i:_c):_j)]).isEmpty)=_g by simp];refine Jx ?_;have as:(nV m++[V.int ((i:_c):_j)])[(nV m++[V.int ((i:_c):_j)]).length - 1]? = _b (V.int ((i:_c):_j)):=by
   rw[am,ax,y8,bX<|al _,iF];rfl
  have hi:=I.g i<|by simp
  have bc:i<M:=hi.elim (AU i)<|I.lt i
  obtain⟨⟨a,n⟩,CM⟩:∃qd,(Eb (Az l sz))[i]? = _b qd:=⟨_,af<|wT bc hM.symm⟩;refine⟨.inl ⟨U,_,oP f⟩,G,_,_,U,U,f,as,?_⟩;rw[mx];have nG:∀{X:_d}{o:HO},H4 X=_b o->X≠G->upd H4 G (HO.lst<|nV m) X=_b o:=λe z=>by rw[Ak z];exact e
  replace J:=nG J a2;replace d:=nG d an;replace Z:=Bf (ws:=nV m) Z f;replace sx:Aj H<|upd H4 G<|HO.lst<|nV m:=λc o e=>by rw[Ak (Ag e a0)];exact sx _ _ e
  have aQ:upd H4 G (HO.lst<|nV m) G=_b (.lst<|nV m):=Ah;generalize upd H4 G (HO.lst (nV m))=H5 at J d Z sx aQ |-;obtain⟨y,WG,T0,rfl,sP⟩:=Br Z CM;refine⟨_,_,oP J,Av WG,_,oP sP,U,U,?_⟩;rw[am,ax] at hm |-;have a6:=sx _ _ aK;refine⟨⟨_,oP a6⟩,forL (K:=K) (a:=kl) (xs:=nV ms) (jE H L ys l sz F G Y D hs M ck i ms m pd kl hl a n)
   ⟨sx,J,Z,ck,m,d,aQ,⟨I.nd,I.r,I.lt,λk hk=>I.g k<|bE _ hk⟩,λ_ h=>h,λe r=>(cl e r).elim (λh=>(aT.mp h).elim .inl λz=>.inr<|.inl<|av.mp z) λh=>.inr<|.inr h,λu _ _ _ h=>_z h<|gd _,U,_,_,_,U⟩ (λt σ S _ h=>.inl<|.inl<|h.fst _ _ aK) ?_ ?_⟩
  rotate_left
  .rintro σ S ⟨sx,J,Z,C,vj,d,f,I2,O,HA,aw,BQ,v8,v9,oS,rfl⟩;have mu:Q0 (S G)+(M - Q0 (S F))=vj.length+(M - C.length):=by
    rw[f,d];show (nV vj).length+(M - (ZZ C).length)=_;rw[ah,ah]
   refine⟨⟨sx,J,Z,C,vj,d,f,I2,λe r=>?_,by lia,_,_,_,_,_,U⟩,by rw[mu];lia⟩;rcases HA e r with h | rfl | h
   .exact .inl h
   .refine .inr λj hj=>?_;obtain⟨k,z,hk,hz,hg⟩:=hj;obtain⟨u,hu⟩:=dS<|(yA k).mpr ⟨(ag.mp hz).1,hk⟩;exact aw u k z j (by rw[ah];exact (ag.mp hu).1) hu hz hg
   .exact .inr h
  rintro t D' rc x σ S hx ⟨sx,J,Z,C,vj,d,f,I2,O,HA,aw,BQ,v8,v9,oS,rfl⟩;unfold nV at hx;rw[ar] at hx;obtain⟨k,hk,rfl⟩:=aI.mp hx;have aB:=(yA k).mp<|ai hk
  obtain⟨z,hz⟩:∃z,Y[k]? = _b z:=⟨_,af aB.1⟩;have aP:(gs.map (·.1))[k]? = _b (K1 l k z):=by rw[eg];exact Ek hz
  rw[ar] at aP;obtain⟨g,hg,rj⟩:=aI.mp aP;have RU:=hP.mono sx;obtain⟨B,RA,KN,f',i8,bd,p1,_,_,_,_,p6,p7⟩:=id RU;obtain⟨v,hv,A,T,rv,ls,rfl,g1,⟨T1,rfl,R⟩,g3,g4⟩:=Br p7 hg;rw[rj] at R;have ap:=re.ok z<|ai hz
  refine⟨_,lF p1,_,_,oP p6,Av hv,_,_,oP g1,U,?_⟩;have ab:∀{L6:_a _c},(∀e∈C,e∈L6)->(∀j,gl (Az l sz) z i=_b j->j∈L6)->∀u k' z' j,u<t+1->ms[u]? = _b k'->Y[k']? = _b z'->gl (Az l sz) z' i=_b j->j∈L6:=λh1 h2 u k' z' j hu tT aN aZ=>by
   rcases kC.mp hu with h | rfl
   .exact h1 _<|aw u k' z' j h tT aN aZ
   .cases (_h (hk.symm.trans tT):k=k')
    cases (_h (hz.symm.trans aN):z=z');exact h2 j aZ
  have stay:(∀j,gl (Az l sz) z i=_b j->j∈C)->∀w8 w9 a8,D'.nx [_b (.ref pd),_b<|.ref kl,_b<|.ref hl,_b<|.ref L,_b<|.ref F,_b<|.ref G,_b<|.str<|nB (Az l sz) a,_b<|.int (n:_c),w8,w9,a8] S:=λh _ _ _=>rc _ _ ⟨sx,J,Z,C,vj,d,f,I2,O,HA,ab (λ_ h=>h) h,BQ,_,_,_,U⟩
  cases z with
  |pl wd b =>
   have hw:¬ V.str wd=V.str "coupler":=by
    rcases ap.2 with rfl | rfl
    .exact Eh<|by decide
    .exact Eh<|by decide
   exact⟨_,_,oP R,U,U,FJ hw<|(stay (λj h=>nomatch h) _ _ _)⟩
  |cp p q s =>
   have CO:=sO (s:=s) nd ap.1 ap.2.1 CM;refine⟨_,_,oP R,U,U,Ff U ⟨_,_,oP R,U,U,?_⟩⟩;by_cases e:l p=nB (Az l sz) a
   rotate_left
   .rw[_l e] at CO;exact FJ (λz=>e<|V.str.inj z)<|stay (λj h=>by rw[CO] at h;cases h) _ _ _
   rw[_n e] at CO;refine Ff (congrArg V.str e) ⟨_,_,oP R,U,_,_,oP R,U,pd,l q,_,_,rn,gs,U,RU,?_⟩;rw[<-CO]
   cases ho:gl (Az l sz) (.cp p q s) i with
   |none=>exact⟨U,Xm U<|(stay (λj h=>by rw[ho] at h;cases h) _ _ _)⟩
   |some j =>
    refine⟨U,?_⟩;rw[_t (show ¬ yd (_b j)=V.non from λz=>nomatch z)];refine⟨_,Dm.k (k:=kH j) d,?_⟩;rw[bD];by_cases hj:j∈C
    .rw[_n hj];exact (stay (λj' h=>by rw[ho] at h;cases h;exact hj) _ _ _)
    rw[_l hj];have a9:j<M:=by rw[<-hM,Eg];exact bC ho
    have Sj:=L_ I2.nd hj;have a1:∀e∈C++[j],e<M:=λe r=>(aT.mp r).elim (I2.lt e) λh=>by rw[av.mp h];exact a9
    have l3:=a5 Sj a1;rw[am,ax] at l3;have lD:(ZZ C).length=C.length:=ah ..;have lG:(nV vj).length=vj.length:=ah ..;refine⟨_,Mr.k (k:=kH j) d<|Ax<|by lia,?_⟩;rw[pH hj];have nF:∀{X:_d}{o:HO},S X=_b o->X≠F->upd S F (.dK<|ZZ<|C++[j]) X=_b o:=λe z=>by rw[Ak z];exact e
    have MO:=nF f<|_J an
    refine⟨.inl ⟨U,_,oP MO⟩,nV vj,MO,Ax<|by lia,rc _ _ ⟨λc o e=>?_,?_,?_,C++[j],vj++[j],?_,?_,⟨Sj,λe r=>?_,a1,λe r=>?_⟩,λe r=>ω _<|O e r,λe r=>?_,ab (λe r=>ω _ r) (λj' h=>by rw[ho] at h;cases h;simp),?_,_,_,_,U⟩⟩
    .rw[Ak (Ag e a0),Ak<|Ag e a3];exact sx _ _ e
    .rw[Ak a2];exact nF J a4
    .exact Bf (Paired.Jt Z λ_ _ ⟨T,e,q⟩=>⟨T,e,nF q λz=>by rw[z,d] at q;cases q⟩) MO
    .rw[Ak an,Ah]
    .rw[Ah];unfold nV;rw[ba];rfl
    .rcases aT.mp r with h | h
     .exact I2.r e h
     .rw[av.mp h];have st:stp (Az l sz) Y D i j:=⟨k,_,aB.2,hz,ho⟩;exact hi.elim (λh=>.one h st) λh=>.more (I2.r i<|O i h) st
    .rcases aT.mp r with h | h
     .exact (I2.g e h).imp id<|bE _
     .exact .inr<|dc _ h
    .have aM:(e∈hs \/ e∈C)->e∈vj++[j] \/ e=i \/ ∀j',stp (Az l sz) Y D e j'->j'∈C++[j]:=λp4=>by
      rcases HA e p4 with h | h | h
      .exact .inl<|bE _ h
      .exact .inr<|.inl h
      .exact .inr<|.inr λj' uu=>bE _<|h j' uu
     rcases r with h | h
     .exact aM<|.inl h
     .rcases aT.mp h with h | h
      .exact aM<|.inr h
      .exact .inl<|dc _ h
    .rw[am,am,ax];lia
 .rintro σ H4 Q1 Q2 hq h;dsimp only[Uc,Zk,Nf] at h |-;split at h <;> try exact h.elim
  obtain⟨hb,k⟩:=h;refine⟨hb,λE hE=>?_⟩;obtain⟨p,q,xs,e1,e2,h1,h2,h3⟩:=k E hE;exact⟨p,q,xs,e1,e2,h1,h2,hq _ _ h3⟩
def kO:_r _c->Key
 |some k=>kH k
 |none=>Key.no
abbrev vX(fs:_a<|_r _c):_a<|Key×V:=fs.map λo=>(kO o,V.bl _g)
theorem rE{a b:_r _c}(h:kO a=kO b):a=b:=by
 cases a <;> cases b
 .rfl
 .cases h
 .cases h
 .exact congrArg _b<|Vi h
theorem kO_V(o:_r _c):kV (kO o)=yd o:=by cases o <;> rfl
theorem qi{fs:_a (_r _c)}(a:fs.Nodup)(o:_r _c):∃rp,putK (vX fs) (kO o) (.bl _g)=vX rp/\rp.Nodup/\∀x,x∈rp ↔ x∈fs \/ x=o:=by
 by_cases h:o∈fs
 .refine⟨fs,?_,a,λx=>⟨.inl,λz=>z.elim id λe=>e ▸ h⟩⟩;unfold putK;rw[_n (fq.mpr ⟨(kO o,V.bl _g),aE (f:=λo=>(kO o,V.bl _g)) h,_i U⟩)];show (fs.map λo=>(kO o,V.bl _g)).map _=_;rw[bb];refine fN λx _=>?_;show (if kO x=kO o then (kO x,V.bl _g) else (kO x,V.bl _g))=_;split <;> rfl
 .refine⟨fs++[o],?_,L_ a h,λx=>by rw[aT,av]⟩;unfold putK;rw[_l]
  .show _=Ļ _ (fs++[o]);rw[ba];rfl
  .intro z;obtain⟨x,c,e⟩:=fq.mp z;obtain⟨j,b,rfl⟩:=ay.mp c;exact h<|rE (_s e) ▸ b
theorem bA{fs:_a (_r _c)}{M:_c}(f:fs.Nodup)(h:∀p,_b p∈fs->p<M):fs.length<=M+1:=by
 have inj:∀a b:_r _c,(match a with | some p=>p+1 | none=>0)=(match b with | some p=>p+1 | none=>0)->a=b:=λa b e=>by
  cases a <;> cases b <;> first | rfl | exact congrArg _b (Į e) | cases e
 have d:(fs.map λo=>match o with | some p=>p+1 | none=>0).Nodup:=by
  rw[K2,ke];exact f.imp λc e=>c<|inj _ _ e
 have:=Ef (M+1) d λx i=>by
  obtain⟨o,g,rfl⟩:=ay.mp i
  cases o with
  |none=>exact Nat.succ_pos _
  |some p=>exact Nat.succ_lt_succ<|h p g
 rw[ah] at this;exact this
theorem Sv:∀{l:_a (_m × _c)}{t:_m}{n:_j}{f p:_c},GD l t n f=_b p->p<f+(l.map (·.2)).sum
 |[],_,_,_,_,h=>nomatch h
 |b::l,t,n,f,p,h=>by
  have h:(if b.1=t/\0<=n/\n<(b.2:_j) then _b (f+n.toNat) else GD l t n (f+b.2))=_b p:=h;rw[ee,kG];by_cases c:b.1=t/\0<=n/\n<(b.2:_j)
  .rw[_n c] at h;have:=_h h;lia
  .rw[_l c] at h;have:=Sv h;exact wT this (oq _ _ _)
inductive LnC(rn:_a<|_m×_c)(n:_c)(r:R)(o:_r _c):Prop
|mk(t:_m)(sh lo hi:_j)(_:r=⟨"line",t,[.int sh,.int lo,.int hi]⟩)(_:lo<=((n:_c):_j))(_:((n:_c):_j)<=hi)(_:o=GD rn t ((n:_c)+sh) 0)
def KnC(rn:_a<|_m×_c)(gs:_a<|R×_a R)(nm:_m)(n k:_c)(o:_r _c):Prop:=∃g,gs[k]? = _b g/\g.1.rest[0]? = _b (.str nm)/\∃r∈g.2,LnC rn n r o
def MuN(gs:_a<|R×_a R)(ms:_a _c)(nm:_m):Prop:=∃k∈ms,∃g,gs[k]? = _b g/\g.1.w = "mute" /\ g.1.rest[0]? = _b (.str nm)
def xf(bs rn:_a<|_m×_c)(gs:_a<|R×_a R)(ms hs ck:_a _c)(e:_c)(o:_r _c):Prop:=∃a n,(Eb bs)[e]? = _b (a,n)/\(e∈ck \/ (e∈hs/\¬ MuN gs ms (nB bs a)))/\∃k∈ms,KnC rn gs (nB bs a) n k o
inductive FI(H:Hp)(F:_d)(M:_c)(P:_r _c->Prop):Prop
|mk(fs:_)(_:H F=_b (.dK (vX fs)))(_:fs.Nodup)(_:∀p,_b p∈fs->p<M)(_:∀o,o∈fs ↔ P o)
theorem FI.iff{F:_d}{M:_c}{P a:_r _c->Prop}(h:FI H F M P)(e:∀o,P o ↔ a o):FI H F M a:=by
 obtain⟨fs,b,d,f,c⟩:=h;exact⟨fs,b,d,f,λo=>(c o).trans<|e o⟩
theorem FI.same{F:_d}{M:_c}{P:_r _c->Prop}(h:FI H F M P)(s:Aj H H'):FI H' F M P:=by
 obtain⟨fs,a,c,d,b⟩:=h;exact⟨fs,s _ _ a,c,d,b⟩
theorem O4{u:_c}{E:_c->Prop}:(∃v,v<u+1/\E v) ↔ (∃v,v<u/\E v) \/ E u:=by
 constructor
 .rintro⟨v,a,e⟩;rcases kC.mp a with h | rfl
  .exact .inl ⟨v,h,e⟩
  .exact .inr e
 .rintro (⟨v,a,e⟩ | e)
  .exact⟨v,gI a,e⟩
  .exact⟨u,gx _,e⟩
theorem dY{α:Type}{l:_a α}{E:α->Prop}:(∃v,v<l.length/\∃x,l[v]? = _b x/\E x) ↔ ∃x∈l,E x:=by
 constructor
 .rintro⟨v,_,x,a,e⟩;exact⟨x,ai a,e⟩
 .rintro⟨x,a,e⟩;obtain⟨v,b⟩:=dS a;exact⟨v,(ag.mp b).1,x,b,e⟩
theorem FI.put{F:_d}{P:_r _c->Prop}(h:FI H F 400 P){o:_r _c}(j:∀p,o=_b p->p<400):∃H',Mr H F (yd o) (.bl _g) H'/\SX F H H'/\FI H' F 400 λx=>P x \/ x=o:=by
 obtain⟨fs,e,b,d,f⟩:=h;have hl:=bA b d;obtain⟨g,m,l,c⟩:=qi b o;have a:=Mr.k (k:=kO o) (v:=.bl _g) e<|Ax<|by rw[ah];exact rx hl (by decide)
 rw[m,kO_V] at a;refine⟨_,a,SX.up,g,Ah,l,λp i=>?_,λx=>by rw[c,f]⟩;rcases (c _).mp i with z | z
 .exact d p z
 .exact j p z.symm
theorem j8(fs:_a<|_r _c):((vX fs).map λkv=>kV kv.1).filter (λv=>!decide (v=V.non))=((fs.filterMap id).map λk:_c=>(k:_j)).map V.int:=by
 induction fs with
 |nil=>rfl
 |cons o fs a =>
  show ((kV<|kO o)::(vX fs).map λkv=>kV kv.1).filter _=_;rw[eR,a]
  cases o with
  |none=>rfl
  |some k=>rfl
theorem ao:∀{fs:_a (_r _c)},fs.Nodup->(fs.filterMap id).Nodup
 |[],_=>ku
 |none::fs,h=>(ao (fm.mp h).2:(fs.filterMap id).Nodup)
 |some k::fs,h=>by
  obtain⟨a,b⟩:=fm.mp h;refine fm.mpr ⟨λd=>a ?_,ao b⟩;obtain⟨o,c,e⟩:=iX.mp d;exact e ▸ c
theorem ZW(l:_a _m):(l.map V.str).all GP=true:=by
 rw[oC];exact gi.mpr λ_ _=>rfl
theorem ifB{c:TT}{t u:TS}(b:_O)(a:∀Qb:_O->Hp->Prop,Qb b H->c σ H Qb)(d:if b=_g then t D σ H else u D σ H):gV c t u D σ H:=a _ d
def forE{K:_q}{g:TG}(Pv:_c->St->Hp->Prop)(h0:Pv 0 σ H)(hl:∀i σ H,i<=xs.length->Pv i σ H->Dd K H a xs)(hb:∀(i:_c)(D':Ends),(∀σ H,Pv (i+1) σ H->D'.nx σ H)->∀x σ H T,xs[i]? = _b x->Pv i σ H->H T=_o->g (.ref T) σ (upd H T<|.tup [.int (i:_j),x]) λσ' H'=>tb D' σ' H')(hn:∀σ H,Pv xs.length σ H->D.nx σ H):=Ld (K:=K) (a:=a) (xs:=xs) (g:=g) (tb:=tb) (D:=D) Pv h0 hl (λi x σ H T e p n=>hb i { D with nx:=Pv<|i+1,ct:=Pv<|i+1,bk:=D.nx } (λ_ _ h=>h) x σ H T e p n) hn
noncomputable def gR(gs:_a<|R×_a R)(v:V):R:=match v with
 |.int k=>((gs.map (·.1)).getD k.toNat ⟨"","",[]⟩)
 |_=>⟨"","",[]⟩
inductive uF(vs:_a V)(H:Hp)(Q:VK)(d0:XK):Prop
 |mk(pd kl hl:_d)(cn:_c->_m)(sz:_a _c)(kbs:_a Kb)(rn:_a (_m×_c))(gs:_a (R×_a R))(D:_c)(ms hs:_a _c):vs=[.ref pd,.ref kl,.ref hl]->G6 H pd (Az cn sz) rn gs->gs.map (·.1)=Bw cn kbs->((Az cn sz).map (·.1)).Nodup->Tg sz.length kbs->(Az cn sz).length<=5->(∀b∈Az cn sz,b.2<=61)->H kl=_b (.lst (nV ms))->(∀k,k∈ms ↔ k<kbs.length/\D.testBit k=_g)->H hl=_b (.lst (nV hs))->(∀k∈hs,k<(Eb (Az cn sz)).length)->hs.length<=400->ms.length<=400->(∀g∈gs,∀r∈g.2,∃(t:_m)(sh lo hi:_j),r=⟨"line",t,[.int sh,.int lo,.int hi]⟩)->(rn.map (·.2)).sum<=400->(∀F l ck H',H F=_o->Aj H H'->H' F=_b (.lst (nV l))->l.Pairwise (· < ·)->(∀j,j∈ck ↔ Lh (stp (Az cn sz) kbs D) (λi=>i∈hs) j)->(∀p,p∈l ↔ ∃e,e<(Eb<|Az cn sz).length/\xf (Az cn sz) rn gs ms hs ck e (_b p))->Q (.ref F) H')->uF vs H Q d0
theorem Px:Am c8 ez<|Ae sVs:=Bc
inductive jg(F:_d)(H5:Hp)(cn:_c->_m)(sz:_a _c)(rn:_a<|_m×_c)(gs:_a<|R×_a R)(ms:_a _c)(hs:_a _c)(ck:_a _c)(pd:_d)(kl:_d)(hl:_d)(CK:_d)(MU:_d)(i:_c)(σ:St)(Hx:Hp):Prop
|mk(_:SX F H5 Hx)(_:FI Hx F 400 (λo=>∃e,e<i/\xf (Az cn sz) rn gs ms hs ck e o))(v6 v7 v8 v9 oS vE:_)(_:σ=[_b (.ref pd),_b<|.ref kl,_b<|.ref hl,_b<|.ref CK,_b<|.ref MU,_b<|.ref F,v6,v7,v8,v9,oS,vE])
theorem jg.fst{F:_d}{a:Hp}{sz:_a _c}{j:_a (_m×_c)}{e:_a (R×_a R)}{d:_a _c}{k:_a _c}{b:_a _c}{g:_d}{hl:_d}{c:_d}{f:_d}(h:jg F a cn sz j e d k b pd g hl c f i σ Hx):SX F a Hx:=by
 cases h;assumption
inductive iJ(F:_d)(H5:Hp)(i:_c)(cn:_c->_m)(sz:_a _c)(rn:_a<|_m×_c)(gs:_a<|R×_a R)(ms:_a _c)(hs:_a _c)(ck:_a _c)(nm:_m)(n:_c)(pd:_d)(kl:_d)(hl:_d)(CK:_d)(MU:_d)(TP:_d)(t:_c)(σ:St)(Hz:Hp):Prop
|mk(_:SX F H5 Hz)(_:FI Hz F 400 (λo=>(∃e,e<i/\xf (Az cn sz) rn gs ms hs ck e o) \/ ∃u,u<t/\∃k,ms[u]? = _b k/\KnC rn gs nm n k o))(v8 v9 oS vE:_)(_:σ=[_b (.ref pd),_b<|.ref kl,_b<|.ref hl,_b<|.ref CK,_b<|.ref MU,_b<|.ref F,_b<|.int ((i:_c):_j),_b<|.ref TP,v8,v9,oS,vE])
theorem iJ.fst{F:_d}{a:Hp}{sz:_a _c}{k:_a (_m×_c)}{f:_a (R×_a R)}{e:_a _c}{l:_a _c}{c:_a _c}{nm:_m}{j:_d}{hl:_d}{d:_d}{g:_d}{TP:_d}{t:_c}{b:Hp}(h:iJ F a i cn sz k f e l c nm n pd j hl d g TP t σ b):SX F a b:=by
 cases h;assumption
include N T in
theorem xg:BP P w K mg base BV 3 aD.Vs ez uF:=by
 refine N.FVs.1.DY Px λH vs Q E J h=>?_;obtain⟨pd,kl,hl,f,sz,O,rn,c,D,S,s,rfl,hP,eg,nd,re,l5,AY,ac,yA,IJ,AU,OM,bl,si,bm,q⟩:=h;have hu:=By J;refine⟨_,(Ac (BZ (i:=3) Px.nd U (Or.inl U)<|BJ N.FVc (zN N T) J<|Aa (pv 0)<|Aa (pv 1)<|Aa (pv 2) Ab)
  (Ac (X7 (i:=4) Px.nd U U U (Bb (osc:=Ae sVs) (N:=c8) U U<|by decide) (Bl<|pv 1) (λ_ _ _ _=>(G7<|Bd Bt (An K<|An K<|B_ K (DK hu (pv 1) Aw<|λ_ _=>rfl)<|pv 0) Aw))<|λ_ _ _ _=>(An K<|An K<|B_ K (DK hu (pv 1) Aw<|λ_ _=>rfl)<|pv 0))
  (Ac (BZ (i:=5) Px.nd U (Or.inl U) Hg)
  (Ac (DQ _M U (Ly U T.enumerate<|Aa (BJ N.FVa (nC N T) J<|Aa (pv 0) Ab) Ab) (Gf U<|Bv (Bh (i:=6) Px.nd U<|Or.inl U)<|Bv (Bh (i:=7) Px.nd U<|Or.inl U) Ez) (Af (Bg (PW.pt<|Fy (PP<|uJ hu (pv 6)<|pv 3)<|Eu<|PW.pt<|HB (Jl (Kh (K:=K) U) (pv 6) (pv 2) U)<|Fg<|Jl (KD (K:=K) U) (An K<|pv 7) (pv 4) U) (Af (DQ _M U (Bl<|pv 1) (Bh (i:=8) Px.nd U<|Or.inl U) (Ac (Ph (B_ K (DK hu (pv 0) Aw<|λ_ _=>rfl)<|pv 8)<|Gf U<|Bv (Bh (i:=9) Px.nd U<|Or.inl U)<|Bv (Bh (i:=10) Px.nd U<|Or.inl U) Ez)
  (Af<|DQ _M U (Bl<|pv 10) (Bh (i:=11) Px.nd U<|Or.inl U)<|Af<|Bg (PW.pt<|HB (Bd Bt (An K<|pv 9)<|An K<|pv 7)<|Fg<|Fv Ei Ei (An K<|pv 11) (An K<|pv 7)<|An K<|pv 11) (Af<|Gz hu (pv 5) (BJ N.FVq (zc N T) J<|Aa (pv 0)<|Aa (An K<|pv 11)<|Aa (BK Bu (An K<|pv 7)<|An K<|pv 11) Ab) JN U) BR)))) BR)))
  (Af<|Aq<|Ay Q8 U T.sorted Lm<|Aa (Uj<|Bp U (Bb (osc:=Ae sVs) (N:=c8) U U<|by decide) (gf<|pv 5) (λ_ _ _ _=>(G7<|Bd RZ (pv 0) Er))<|λ_ _ _ _=>(pv 0)) Ab))))),?_⟩
 refine⟨pd,kl,hl,f,sz,O,rn,c,D,S,s,U,hP,eg,nd,re,l5,AY,ac,yA,IJ,AU,OM,λCK ck H1 bc s1 WU bn WA KU=>?_⟩;have gk:∀{C:Hp}{k:_c},Aj H C->k∈S->∃(z:Kb)(g:R × _a R)(KN T Y A:_d)(ls:_a V),O[k]? = _b z/\c[k]? = _b g/\g.1=K1 f k z/\Dm C pd (.str "knob") (_b<|.ref KN)/\(∃m,C KN=_b (.lst m)/\m[k]? = _b (.ref T))/\C T=_b (.tup [.ref Y,.ref A])/\C Y=_b (.tup g.1.v)/\C A=_b (.lst ls)/\Paired (λ(r:R) y=>TupAt C r.v y) g.2 ls:=λ{C k} sx d=>by
  have a1:=(yA k).mp d;obtain⟨z,hz⟩:∃z,O[k]? = _b z:=⟨_,af a1.1⟩;have aQ:(c.map (·.1))[k]? = _b (K1 f k z):=by rw[eg];exact Ek hz
  rw[ar] at aQ;obtain⟨g,l,X⟩:=aI.mp aQ;obtain⟨B,RA,KN,f',i8,m,p1,_,_,_,_,p6,p7⟩:=hP.mono sx;obtain⟨v,hv,A,T,rv,ls,rfl,g1,⟨Y,rfl,a6⟩,g3,g4⟩:=Br p7 l;exact⟨z,g,KN,T,Y,A,ls,hz,l,X,lF p1,⟨m,p6,hv⟩,g1,a6,g3,g4⟩
 have aw:∀{k:_c}{g:R × _a R},c[k]? = _b g->gR c (.int ((k:_c):_j))=g.1:=λ{k g} h=>by
  show (c.map (·.1)).getD (((k:_c):_j).toNat) _=g.1;rw[bp,aS,ar,h];rfl
 have rb:∀(z:Kb)(k:_c),(K1 f k z).rest[0]? = _b (.str<|f<|Za z):=λz k=>by cases z <;> rfl
 have aZ:∀(z:Kb)(k:_c),(R.v<|K1 f k z)[2]? = _b (.str<|f<|Za z):=λz k=>by cases z <;> rfl
 have Z:=s1 _ _ ac;refine⟨⟨_,oP Z⟩,Ed (K:=K) (xs:=nV S) (λv=>decide (V.str (gR c v).w=V.str "mute")) (λv=>(gR c v).rest.getD 0 .non) (oP Z) (Ax<|by rw[ah];exact rx bl (by decide)) (λy hy H' s R k=>?_) (λy hy _ H' s R k=>?_)<|λMU H2 bd s2 aP=>?_⟩
 .obtain⟨k0,aK,rfl⟩:=ay.mp hy;obtain⟨z,g,KN,T,Y,A,ls,hz,l,X,d1,⟨m,d2,d3⟩,d4,d5,d6,d7⟩:=gk (s1.trans s) aK;rw[aw l] at k;exact⟨_,d1,_,_,oP d2,Av d3,_,_,oP d4,Av (j:=0) U,_,_,oP d5,Av (j:=0) U,U,k H'<|Aj.refl H'⟩
 .obtain⟨k0,aK,rfl⟩:=ay.mp hy;obtain⟨z,g,KN,T,Y,A,ls,hz,l,X,d1,⟨m,d2,d3⟩,d4,d5,d6,d7⟩:=gk (s1.trans s) aK;rw[aw l,X,aS,rb] at k;rw[X] at d5;exact⟨_,d1,_,_,oP d2,Av d3,_,_,oP d4,U,_,_,oP d5,Av<|aZ z k0,k H'<|Aj.refl H'⟩
 obtain⟨DJ,X0,BQ⟩:∃DJ:_a _m,((nV S).filter λv=>decide (V.str (gR c v).w=V.str "mute")).map (λv=>(gR c v).rest.getD 0 .non)=DJ.map V.str/\∀W,W∈DJ ↔ MuN c S W:=by
  have as:∀k∈S,∃z g,c[k]? = _b g/\g.1=K1 f k z/\gR c (.int (k:_c))=K1 f k z/\JC O k=Za z:=λk d=>by
   obtain⟨z,g,KN,T,Y,A,ls,hz,l,X,d1,⟨m,d2,d3⟩,d4,d5,d6,d7⟩:=gk s1 d;exact⟨z,g,l,X,(aw l).trans X,by unfold JC;rw[hz];cases z <;> rfl⟩
  refine⟨(S.filter λk:_c=>decide (V.str (gR c<|.int (k:_c)).w=V.str "mute")).map λk=>f<|JC O k,?_,λW=>?_⟩
  .unfold nV;rw[fg,bb,bb];refine fN λk d=>?_;obtain⟨z,g,_,_,e1,e2⟩:=as k (be.mp d).1;show (gR c<|.int (k:_c)).rest.getD 0 .non=V.str (f<|JC O k);rw[e1,e2,aS,rb];rfl
  .rw[ay];constructor
   .rintro⟨k,d,rfl⟩;obtain⟨Z,xw⟩:=be.mp d;obtain⟨z,g,l,e0,e1,e2⟩:=as k Z;rw[e1] at xw;exact⟨k,Z,g,l,by rw[e0];exact V.str.inj<|_s xw,by rw[e0,e2];exact rb z k⟩
   .rintro⟨k,d,g,l,G,I⟩;obtain⟨z,g',ap,e0,e1,e2⟩:=as k d
    cases (_h (l.symm.trans ap):g=g');rw[e0] at G I;rw[rb] at I;exact⟨k,be.mpr ⟨d,by rw[e1];exact _i<|congrArg V.str G⟩,by rw[e2];exact V.str.inj<|_h I⟩
 rw[X0] at aP;have A1:=s1.trans s2;refine λF hF=>?_;obtain⟨H3,k7,t3,f3⟩:=Dr (o:=HO.dK []) hF;rw[k7];refine⟨pd,_,rn,c,U,hP.mono<|A1.trans t3,l5,AY,λL ys H5 hL s5 sf Sz=>?_⟩;have EE:=t3.trans s5;have f5:=s5 _ _ f3;have C7:=Sz.length;generalize hM:(Eb (Az f sz)).length=M at AU q WA;have ab:∀{C:Hp},SX F H5 C->Aj H2 C:=λsx b o e=>sx b o (EE b o e)<|Ag e hF
 have a7:L≠F:=λe=>by rw[e,f5] at sf;cases sf
 refine⟨L,U,⟨_,oP sf⟩,forE (K:=K) (a:=L) (xs:=ys) (jg F H5 f sz rn c S s ck pd kl hl CK MU)
  ⟨SX.refl,⟨[],f5,ku,(λ_ h=>nomatch h),λo=>⟨(λh=>nomatch h),λ⟨e,h,_⟩=>_z h<|gd _⟩⟩,_,_,_,_,_,_,U⟩ (λi σ C _ h=>.inl<|.inl<|h.fst _ _ sf a7) ?_ ?_⟩
 .rintro i D' rc x σ C T0 hx ⟨sx,fi,v6,v7,v8,v9,oS,vE,rfl⟩ hT;have s6:=A_ (o:=HO.tup [.int (i:_j),x]) hT;refine⟨_,oP Ah,U,U,?_⟩;generalize upd C T0 (HO.tup [.int (i:_j),x])=Hy at s6 |-;replace sx:=sx.trans<|SX.of s6
  replace fi:=fi.same s6;clear s6 hT;obtain⟨⟨a,n⟩,CM,TP,rfl,E6⟩:=Dy Sz hx;have aB:TP≠F:=λe=>by rw[e,f5] at E6;cases E6
  have GG:=sx _ _ E6 aB;have sy:=ab sx;generalize an:nB (Az f sz) a=W at E6 GG;refine ifB (decide (i∈ck) || (decide (i∈s) && !decide (W∈DJ))) (λQb k=>?_)<|Cz (λg=>?_)<|λg=>?_
  .refine⟨_,Dm.k (k:=kH i)<|sy _ _<|s2 _ _ WU,?_⟩;rw[bD];by_cases hc:i∈ck
   .rw[_n hc];rw[_i hc,EL] at k;exact k
   .rw[_l hc];rw[_t hc,C5] at k;refine⟨_,.inl<|oP<|sy _ _<|A1 _ _ IJ,U,K9 _,?_⟩;by_cases hh:i∈s
    .rw[_i hh,hU,<-cM DJ W] at k;refine Jx ?_<|(Rj i s).trans<|_i hh
     exact⟨_,_,oP GG,U,_,oP<|.inl<|sy _ _ aP,U,ZW DJ,k⟩
    .rw[_t hh,hV] at k;exact Jz k<|(Rj i s).trans<|_t hh
  .have tf:i∈ck \/ (i∈s/\¬ MuN c S W):=by
    rw[jv,eM,_H,_H,ĺ,xj,BQ] at g;exact g
   refine⟨⟨_,oP<|sy _ _<|A1 _ _ ac⟩,forL (K:=K) (a:=kl) (xs:=nV S) (iJ F H5 i f sz rn c S s ck W n pd kl hl CK MU TP)
    ⟨sx,fi.iff λo=>⟨.inl,λh=>h.elim id λ⟨u,hu,_⟩=>_z hu<|gd _⟩,_,_,_,_,U⟩ (λt σ Hz _ h=>.inl<|.inl<|ab h.fst _ _<|A1 _ _ ac) ?_ ?_⟩
   rotate_left
   .rintro σ Hz ⟨CI,fz,v8,v9,oS,vE,rfl⟩;refine rc _ _ ⟨CI,fz.iff λo=>?_,_,_,_,_,_,_,U⟩;rw[O4,ah,dY];exact Ĺ Ł ⟨λ⟨k,d,h⟩=>⟨a,n,CM,by rw[an];exact tf,k,d,by rw[an];exact h⟩,λ⟨a',n',e1,_,k,d,h⟩=>by
     cases (_h (CM.symm.trans e1):(a,n)=(a',n'));rw[an] at h;exact⟨k,d,h⟩⟩
   rintro t E1 WJ x σ Hz hx ⟨CI,fz,v8,v9,oS,vE,rfl⟩;unfold nV at hx;rw[ar] at hx;obtain⟨k,d,rfl⟩:=aI.mp hx;obtain⟨z,g,KN,T,Y,A,ls,hz,l,X,d1,⟨m,d2,d3⟩,d4,d5,d6,d7⟩:=gk (A1.trans<|ab CI)<|ai d;rw[X] at d5;obtain⟨bv,aN,_⟩:=id fz;have nA:A≠F:=λe=>by rw[e,aN] at d6;cases d6
   have a3:Y≠F:=λe=>by rw[e,aN] at d5;cases d5
   refine⟨_,d1,_,_,oP d2,Av d3,_,oP d4,U,U,?_⟩;refine⟨⟨_,oP d6⟩,forL (K:=K) (a:=A) (xs:=ls) (λu σ Hw=>SX F Hz Hw/\FI Hw F 400 (λo=>((∃e,e<i/\xf (Az f sz) rn c S s ck e o) \/ ∃u,u<t/\∃k,S[u]? = _b k/\KnC rn c W n k o) \/ ∃v,v<u/\∃r,g.2[v]? = _b r/\(f (Za z)=W/\LnC rn n r o))/\∃vE,σ=[_b (.ref pd),_b<|.ref kl,_b<|.ref hl,_b<|.ref CK,_b<|.ref MU,_b<|.ref F,_b<|.int ((i:_c):_j),_b<|.ref TP,_b<|.int ((k:_c):_j),_b<|.ref Y,_b<|.ref A,vE])
    ⟨SX.refl,fz.iff λo=>⟨.inl,λh=>h.elim id λ⟨u,hu,_⟩=>_z hu<|gd _⟩,_,U⟩ (λt σ Hz _ h=>.inl<|.inl<|h.1 _ _ d6 nA) ?_ ?_⟩
   rotate_left
   .rintro σ Hw ⟨sw,fw,vE,rfl⟩;refine WJ _ _ ⟨CI.trans sw,fw.iff λo=>?_,_,_,_,_,U⟩;rw[<-d7.length,dY];refine or_assoc.trans<|Ĺ Ł<|(Ĺ Ł ?_).trans O4.symm
    exact⟨λ⟨r,J,G,I⟩=>⟨k,d,g,l,by rw[X,rb,G],r,J,I⟩,λ⟨k',tT,g',ap,G,r,J,I⟩=>by
     cases (_h (d.symm.trans tT):k=k')
     cases (_h (l.symm.trans ap):g=g');rw[X,rb] at G;exact⟨r,J,V.str.inj<|_h G,I⟩⟩
   rintro u E2 RE x σ Hw hx ⟨sw,fw,vE,rfl⟩;obtain⟨r,J,TL,rfl,LH⟩:=Dy d7 hx;obtain⟨t',sh,lo,hi,rfl⟩:=si g (ai l) r<|ai J;have q1:=sw _ _ d5 a3;have q2:=sw _ _ LH λe=>by rw[e,aN] at LH;cases LH
   have q3:=sw _ _ (CI _ _ E6 aB) aB;have no:¬ (f (Za z)=W/\lo<=((n:_c):_j)/\((n:_c):_j)<=hi)->E2.nx [_b (.ref pd),_b<|.ref kl,_b<|.ref hl,_b<|.ref CK,_b<|.ref MU,_b<|.ref F,_b<|.int ((i:_c):_j),_b<|.ref TP,_b<|.int ((k:_c):_j),_b<|.ref Y,_b<|.ref A,_b<|.ref TL] Hw:=λhc=>RE _ _ ⟨sw,fw.iff λo=>Ĺ Ł ⟨λh=>O4.mpr<|.inl h,λh=>(O4.mp h).elim id λ⟨r',aM,G,t2,VI,UO,a9,e,I,h3,_⟩=>by
    cases (_h (J.symm.trans aM))
    cases e;exact _z ⟨G,I,h3⟩ hc⟩,_,U⟩
   refine⟨_,_,oP q1,Av<|aZ z k,_,_,oP q3,U,U,?_⟩;by_cases hb:f (Za z)=W
   rotate_left
   .exact FJ (λe=>hb<|V.str.inj e)<|no λh=>hb h.1
   refine Ff (congrArg V.str hb) ⟨_,_,oP q2,U,_,_,oP q3,U,?_⟩;by_cases G:lo<=((n:_c):_j)
   rotate_left
   .refine ib ?_;rw[_t G];exact (no λh=>G h.2.1)
   refine ib ?_;rw[_i G];refine⟨_,_,oP q2,U,?_⟩;by_cases I:((n:_c):_j)<=hi
   rotate_left
   .refine ib ?_;rw[_t I];exact (no λh=>I h.2.2)
   refine ib ?_;rw[_i I];obtain⟨Hn,hd,a5,TM⟩:=fw.put (o:=GD rn t' ((n:_c)+sh) 0) λp hp=>by
    have:=Sv hp;lia
   refine⟨_,_,oP q2,U,_,_,oP q3,U,_,_,oP q2,U,pd,t',_,Az f sz,rn,c,U,hP.mono<|A1.trans<|ab<|CI.trans sw,Hn,hd,RE _ _ ⟨sw.trans a5,TM.iff λo=>or_assoc.trans<|Ĺ Ł<|(Ĺ Ł ?_).trans O4.symm,_,U⟩⟩;exact⟨λe=>⟨_,J,hb,t',sh,lo,hi,U,G,I,e⟩,λ⟨r',aM,_,t2,VI,UO,a9,e,_,_,e2⟩=>by
    cases (_h (J.symm.trans aM))
    cases e;exact e2⟩
  .refine rc _ _ ⟨sx,fi.iff λo=>⟨λh=>O4.mpr<|.inl h,λh=>(O4.mp h).elim id λ⟨a',n',e1,tf,_⟩=>?_⟩,_,_,_,_,_,_,U⟩
   cases (_h (CM.symm.trans e1):(a,n)=(a',n'));rw[an,<-BQ] at tf;refine _z ?_ g;rw[jv,eM,_H,_H,ĺ,xj];exact tf
 .rintro σ C ⟨sx,⟨fs,XU,a0,a8,XV⟩,v6,v7,v8,v9,oS,vE,rfl⟩;have lf:=bA a0 a8;refine⟨F,_,XU,λo=>⟨F,o,_,U,Ah,ZV (λv=>!decide (v=.non)) id Ah (Ax<|by rw[ah];exact rx lf (by decide)) (λy hy H' s R k=>⟨U,k H'<|Aj.refl H'⟩) (λy hy _ H' s R k=>k H'<|Aj.refl H')<|λD6 H6 GU s6 wl=>?_⟩⟩;rw[nt,j8] at wl;refine⟨s6 _ _ Ah,?_⟩;have nD:D6≠F:=λe=>by rw[e,Ah] at GU;cases GU
  have s7:Aj H2<|upd H6 F<|.dK<|vX fs:=λb o e=>by
   have nb:b≠F:=Ag e hF;rw[Ak nb];exact s6 _ _<|by rw[Ak nb];exact ab sx _ _ e
  refine⟨D6,_,U,oP<|by rw[Ak nD];exact wl,λp mi hp pm pw=>?_⟩;have n0:∀j∈mi,∃k:_c,j=(k:_j)/\_b k∈fs:=λj hj=>by
   obtain⟨k,d,rfl⟩:=ay.mp<|pm.mem_iff.mp hj;obtain⟨o,ho,e⟩:=iX.mp d;exact⟨k,U,e ▸ ho⟩
  have en:mi.map V.int=nV (mi.map P'):=by
   unfold nV;rw[bb];refine fN λj hj=>?_;obtain⟨k,rfl,_⟩:=n0 j hj;rfl
  rw[en];have a2:mi.Nodup:=by
   refine pm.nodup_iff.mpr ?_;rw[K2,ke];refine (ao a0).imp λa4 e=>a4<|by lia
  refine q p (mi.map P') ck _ ((A1.trans s7).free hp) ((A1.trans s7).trans<|A_ hp) Ah ?_ KU λk=>?_
  .rw[ke];refine ij.mpr λ{x y} sub=>?_;have l1:x<=y:=ij.mp pw sub;have l2:x≠y:=ij.mp a2 sub;obtain⟨k,rfl,_⟩:=n0 x<|sub.subset br;lia
  .rw[<-hM,C7,<-XV];constructor
   .intro h;obtain⟨j,hj,rfl⟩:=ay.mp h;obtain⟨k,rfl,d⟩:=n0 j hj;exact d
   .intro h;exact ay.mpr ⟨(k:_j),pm.mem_iff.mpr<|aE<|iX.mpr ⟨_,h,U⟩,bp k⟩
inductive SM(K:_q)(vs:_a V)(H:Hp)(Q:VK)(d0:XK):Prop
|mk(a:_d)(ns:_a _j)(_:vs=[.ref a])(_:Dd K H a (ns.map V.int))(_:ns.length<=63)(_:∀H',Q (.bl _g) H')
noncomputable def c9(bs:_a<|_m×_c)(nms:_a _m):_c->Str:=λj=>if j<30 then nB bs j else nms.getD (j - 30) ""
theorem bs9{bs:_a (_m×_c)}(nms:_a _m)(h:bs.length<=3):Az (c9 bs nms) (bs.map (·.2))=bs:=by
 refine gu λi=>?_;by_cases a:i<bs.length
 .have b:(bs.map (·.2))[i]? = _b (zB bs i):=by rw[ar,Ov a];rfl
  rw[Ej b,Ov a];show _b (c9 bs nms i,zB bs i)=_b (nB bs i,zB bs i);unfold c9;rw[_n (bq a (rx h (by decide)))]
 .rw[eD (by rw[K6,ah];exact me a),eD<|me a]
theorem ks9{bs:_a (_m×_c)}(h:bs.length<=3)(hl:nms.length=kbs.length)(j:∀z∈kbs,z.ok bs.length):Bw (c9 bs nms) kbs=Mq bs nms kbs:=by
 refine gu λi=>?_;unfold Mq;by_cases g:i<kbs.length
 .have f:=af g;have c:nms[i]? = _b nms[i]:=af<|wT g hl.symm
  rw[Ek f,gT,f,c];have e:c9 bs nms (30+i)=nms[i]:=by
   unfold c9;rw[_l (Tm (zor _ _)),kK,aS,c];rfl
  have d:∀{b:_c},b<bs.length->c9 bs nms b=nB bs b:=λ{b} k=>by
   unfold c9;rw[_n (bq k (rx h (by decide)))]
  have a:=j _<|eJ g
  show _b (K1 (c9 bs nms) i kbs[i])=_b (kR (nB bs) nms[i] kbs[i]);generalize kbs[i]=z at a
  cases z with
  |cp p q s =>
   show _b (⟨"coupler",c9 bs nms<|30+i,[.str (c9 bs nms p),.str<|c9 bs nms q,.int s]⟩:R)=_b ⟨"coupler",nms[i],[.str (nB bs p),.str<|nB bs q,.int s]⟩;rw[e,d a.1,d a.2.1]
  |pl wd p =>
   show _b (⟨wd,c9 bs nms<|30+i,[.str (c9 bs nms p)]⟩:R)=_b ⟨wd,nms[i],[.str (nB bs p)]⟩;rw[e,d a.1]
 .rw[eD (by rw[PK];exact me g),eD<|by rw[kB];lia]
theorem MJ.org{k ld:_c}{bs:_a (_m×_c)}{rk:_a (_m×_c×_j)}{sn:_a _m}(h:MJ K aB aP aM c k ld m bs rk rows nms kbs ls sts sn)(g:1<=bs.length)(p:m<=150)(q:k<=12)(l:Paired (λ(r:R) v=>TupAt H r.v v) rows vs):Rows H (KJ H) vs/\Ok6 K aB aP aM (KJ H) vs bs rk (Mq bs nms kbs)/\linesOf rk (vs.map<|KJ H)=ls/\((vs.filter<|pw (KJ H) "step").map λv=>stN (Mq bs nms kbs)<|KJ H v)=sts:=by
 have f:(Mq bs nms kbs).length=kbs.length:=by
  unfold Mq;rw[kB,h.nl];exact rq _
 refine h.bl.fin l g (by have:=h.bd.lb;exact rx this (by decide)) (λb n=>?_) (by have:=h.bd.lr;exact rx this (by decide)) (λr d=>?_) (by have:=h.nk;lia) h.bd.ndb h.bd.pX ?_ (by have:=h.rl;exact rx this p)
 .obtain⟨j,a⟩:=dS n;exact (h.bd.b j b a).2.2
 .obtain⟨j,a⟩:=dS d;exact (h.bd.r j r a).2.2.1
 .have e:(Mq bs nms kbs).map (·.nm)=nms:=by
   refine gu λi=>?_;unfold Mq;rw[ar,gT];by_cases o:i<nms.length
   .rw[af o,af (by have:=h.nl;exact wT o this:i<kbs.length)];exact congrArg _b<|Qv _ _ _
   .rw[eD (by exact me o:nms.length<=i)];rfl
  rw[e];exact h.nd
theorem zH{sz:_a _c}{rk:_a (_m×_c×_j)}{cl:_a _c}{p:_c}(d:oU rk ls)(h:(uI sz rk kbs ls cl n).testBit p=_g):p<gD rk:=by
 obtain⟨k,_,f⟩:=fL.mp h;have c:∀a∈ls.getD k [],qM rk a:=λa b=>by
  rw[aS] at b
  cases e:ls[k]? with
  |none=>rw[e] at b;cases b
  |some l=>rw[e] at b;exact (d l<|ai e).2 a b
 obtain⟨a,hl,i,_,_,_,_,j,g,m⟩:=(Wf c).mp f;have:=WD (c a hl).r;lia
theorem yU{sz:_a _c}{rk:_a (_m×_c×_j)}{cl:_a _c}(a:oU rk ls)(h:gD rk<=1164):uI sz rk kbs ls cl n<2 ^ 1200:=by
 refine hZ _ λi c=>?_;rw[<-ft];intro b;have:=zH a b;lia
theorem XF{bs:_a (_m×_c)}{rk:_a (_m×_c×_j)}(h:Rq c bs rk):gD rk<=400:=by
 have b:∀l:_a<|_m×_c×_j,(∀r∈l,r.2.1<=97)->(l.map<|λr=>r.2.1).sum<=97 * l.length:=λl=>by
  induction l with
  |nil=>intro _;exact al _
  |cons r l e =>
   intro d;have:=e λr a=>d r<|bg _ a
   have:=d r br;rw[ee,kG,bi];lia
 have:=b rk λr a=>by
  obtain⟨j,f⟩:=dS a;exact (h.r j r f).2.2.1
 have:=h.lr;unfold gD;lia
theorem aH{bs:_a (_m×_c)}(h:nms.length=kbs.length):I_ (Mq bs nms kbs)=nms:=by
 refine gu λi=>?_;unfold I_ Mq;rw[ar,gT];by_cases a:i<nms.length
 .rw[af a,af (by exact wT a h:i<kbs.length)];exact congrArg _b<|Qv _ _ _
 .rw[eD (by exact me a:nms.length<=i)];rfl
theorem rO{bs:_a (_m×_c)}{v u:V}{k:_c}(h:GC bs v u k):k<(bs.map (·.2)).sum:=by
 obtain⟨j,n,b,_,_,e,_,c,rfl⟩:=h;have d:=Wo e c;have a:=(ag.mp d).1;rw[Eg] at a;exact a
structure kW(C:_d)(H:Hp)(x:_d)(us:_a V)(rk:_a<|_m×_c×_j)(ls:_a<|_a Ln)(sts:_a _c)(cn:_c->_m)(sz:_a _c)(kbs:_a Kb):Prop where
 o:Jv C H x us (Az cn sz) rk (Bw cn kbs) ls sts
 f:uz (Az cn sz)<|Bw cn kbs
 kb:Tg sz.length kbs
 lg:oU rk ls
 st:sts.length<=2
 bd:∀D n p,JS cn sz rk kbs ls D n p->p<2 ^ 1200
 z1:∀k∈sz,1<=k
 l1:1<=sz.length
theorem MJ.og{k ld:_c}{bs:_a (_m×_c)}{rk:_a (_m×_c×_j)}{sn:_a _m}(h:MJ K aB aP aM c k ld m bs rk rows nms kbs ls sts sn)(w:1<=bs.length)(A:k<=12)(v:Jv C H x us bs rk (Mq bs nms kbs) ls sts):∃(cn:_c->_m)(sz:_a _c),kW C H x us rk ls sts cn sz kbs/\Az cn sz=bs/\Bw cn kbs=Mq bs nms kbs:=by
 have o:=h.bd.lb;have f:=bs9 nms o;have l:=ks9 o h.nl h.kb.ok;refine⟨c9 bs nms,bs.map (·.2),⟨?_,?_,by rw[ah];exact h.kb,h.lg,h.st,?_,?_,by rw[ah];exact w⟩,f,l⟩
 .rw[f,l];exact v
 .rw[f,l];refine⟨λn d=>?_,h.bd.ndb,λn d=>?_,?_,?_,λr u=>?_⟩
  .obtain⟨b,g,rfl⟩:=ay.mp d;obtain⟨j,e⟩:=dS g;rw[(h.bd.b j b e).1];exact Ij _ _
  .rw[aH h.nl] at d;obtain⟨j,_,rfl⟩:=h.nm n d;exact Ij _ _
  .rw[aH h.nl];exact h.nd
  .have:(Mq bs nms kbs).length=kbs.length:=by unfold Mq;rw[List.length_zipWith,h.nl];exact rq _
   have:=h.nk;lia
  .obtain⟨t,_,z,i,rfl⟩:=RG u;have ok:=h.kb.ok z i
   cases z with
   |cp p q s =>
    have a:p<bs.length:=ok.1;exact⟨_,ai<|Ov a,_,U⟩
   |pl wd p =>
    have a:p<bs.length:=ok.1;exact⟨_,ai<|Ov a,_,U⟩
 .intro D n p a;obtain⟨y,m,_,_,rfl⟩:=a;exact yU h.lg<|cq (XF h.bd)<|by decide
 .intro z i;obtain⟨b,g,rfl⟩:=ay.mp i;obtain⟨j,e⟩:=dS g;exact (h.bd.b j b e).2.1
theorem kW.U9{a:Hp}{rk:_a (_m×_c×_j)}{sz:_a _c}{b:_d}(g:kW C a x us rk ls sts cn sz kbs)(s:Aj a H)(d:a y=_o)(j:a b=_o)(ns:a sd=_o)(e:H b=_b (.dK []))(m:Dj Cy H y x 0 0 sd)(c:La Cp H z x y b)(i:H sd=_b (.dK []))(n:sd≠y)(o:b≠sd)(f:z≠y):M3 C Cy Cp pE pA a H z x y b us rk ls sts ⟨0,0,λ_=>_o⟩ sd [] (λ_=>0) 0 cn sz kbs:=by
 have r:(Bw cn kbs).length<=12:=g.f.kl;have l:=Ft g.o.o.o;rw[Cr] at l;refine⟨⟨⟨⟨g.o,s,d,m⟩,c,j,e,F_.nil⟩,g.f,ns,n,⟨[],i,al _,λp _ _=>rfl,λp q _ h=>nomatch h⟩,f,o⟩,⟨g.kb,g.lg,g.f.kn,rx r (by decide),eK _,by have:=g.st;exact rx this (by decide),λk h=>_z h<|by decide,by decide⟩,g.bd,λv u k h=>?_,cc l (by decide)⟩;have:=rO h;rw[Cr] at this;exact this
theorem QQ:∀l:_a _c,cV (nV l) (nV l)=_g
 |[]=>rfl
 |a::l=>by
  show (U7 (.int (a:_c)) (.int (a:_c)) && cV (nV l) (nV l))=_g;rw[QQ l,DO];show decide (((a:_c):_j)=((a:_c):_j))=_g;exact _i U
theorem M7{sz:_a _c}{b:_c}(h:b<sz.length):nB (Az cn sz) b=cn b/\(Az cn sz)[b]? = _b (cn b,sz[b]):=by
 have g:=Ej (c:=cn)<|af h
 have a:=Ov (bs:=Az cn sz) (ag.mp g).1;exact⟨congrArg B'<|_h<|a.symm.trans g,g⟩
theorem cI{sz:_a _c}(d:((Az cn sz).map (·.1)).Nodup){a b:_c}(c:a<sz.length)(f:b<sz.length)(e:cn a=cn b):a=b:=by
 have hl:a<((Az cn sz).map (·.1)).length:=by rw[ah,K6];exact c
 refine (kU hl d).mp ?_;rw[ar,ar,(M7 c).2,(M7 f).2];exact congrArg _b e
theorem j_{sz:_a _c}{rk:_a (_m×_c×_j)}{S:_a (R×_a R)}{D P:_c}{ms Y ck:_a _c}(nd:((Az cn sz).map (·.1)).Nodup)(pX:(rk.map (·.1)).Nodup)(re:Tg sz.length kbs)(VA:oU rk ls)(G:wz rk (Bw cn kbs) ls S)(Z:∀k,k∈ms ↔ k<kbs.length/\D.testBit k=_g)(AU:∀k,k∈Y ↔ n.testBit k=_g)(CU:∀j,j∈ck ↔ Lh (stp (Az cn sz) kbs D) (λi=>i∈Y) j)(hS:JS cn sz rk kbs ls D n P)(p:_c):P.testBit p=_g ↔ ∃e,e<(Eb<|Az cn sz).length/\xf (Az cn sz) (rk.map Rz) S ms Y ck e (_b p):=by
 obtain⟨cl,m,T,hm,rfl⟩:=hS;have lG:∀k,∀ln∈ls.getD k [],qM rk ln:=λk ln E=>by
  rw[aS] at E
  cases e:ls[k]? with
  |none=>rw[e] at E;cases E
  |some l=>rw[e] at E;exact (VA l<|ai e).2 ln E
 have B:∀{k z},kbs[k]? = _b z->JC kbs k=Za z/\Za z<sz.length/\∃g,S[k]? = _b g/\g.1=K1 cn k z/\g.1.rest[0]? = _b (.str<|cn<|Za z)/\ls[k]? = _b (g.2.map<|lnOf rk):=λ{k z} s=>by
  have ac:=re.ok z<|ai s
  have d:(S.map (·.1))[k]? = _b (K1 cn k z):=by rw[G.k];exact Ek s
  rw[ar] at d;obtain⟨g,d,A⟩:=aI.mp d;refine⟨by unfold JC;rw[s];cases z <;> rfl,by cases z <;> exact ac.1,g,d,A,by rw[A];cases z <;> rfl,?_⟩;rw[<-G.l,ar,d];rfl
 have N:∀{j:_c}{x:_m × _c × _j}{q:_j},rk[j]? = _b x->GD (rk.map Rz) x.1 q 0=if 0<=q/\q<(N8 rk j:_c) then _b (Ze rk j+q.toNat) else none:=λ{j x q} hj=>by
  have v:(rk.map Rz)[j]? = _b (Rz x):=by rw[ar,hj];rfl
  have as:((rk.map Rz).map (·.1)).Nodup:=by
   rw[bb];exact pX
  have e:=QH (m:=q) (f:=0) as v;have w:N8 rk j=x.2.1:=by
   unfold N8;rw[aS,ar,hj];rfl
  have y:Ze rk j=Fz (rk.map Rz) j:=by
   unfold Ze Fz;rw[<-gE,bb];rfl
  rw[w,y];rw[Nat.zero_add] at e;exact e
 have sp:∀{e a i:_c},(Eb<|Az cn sz)[e]? = _b (a,i)->(m.testBit e=_g ↔ (e∈ck \/ (e∈Y/\¬ MuN S ms (nB (Az cn sz) a)))):=λ{e a i} O=>by
  have Kk:=Ri O;have F:a<sz.length:=by
   obtain⟨_,_,h,_⟩:=Kk;exact h
  rw[hm,CU,AU];refine Ĺ (Lh.iff λi=>(AU i).symm)<|and_congr Ł ⟨λh=>?_,λh b hb BQ=>?_⟩
  .rintro⟨k,W,g,d,v,K⟩;obtain⟨M,u⟩:=(Z k).mp W;obtain⟨z,s⟩:∃z,kbs[k]? = _b z:=⟨_,af M⟩;obtain⟨w,y,g',J,A,I,_⟩:=B s
   cases (_h (d.symm.trans J):g=g');rw[I,(M7 F).1] at K;rw[A,IK] at v;exact h a Kk ⟨k,z,s,v,u,w.trans<|cI nd y F<|V.str.inj<|_h K⟩
  .obtain⟨k,z,s,v,u,e0⟩:=BQ;obtain⟨w,y,g,d,A,I,_⟩:=B s;have ab:b=a:=Ti hb Kk;refine h ⟨k,(Z k).mpr ⟨(ag.mp s).1,u⟩,g,d,by rw[A,IK];exact v,?_⟩;rw[I,(M7 F).1,<-w,e0,ab]
 rw[fL];constructor
 .rintro⟨k,W,hb⟩;obtain⟨z,s,hw,hD⟩:=(T k).mp W;obtain⟨w,y,g,d,A,I,hl⟩:=B s;obtain⟨ln,E,i,v,K,M,u,L,h6,X⟩:=(Wf<|lG k).mp hb;rw[w] at v K;have aB:=(M7 (cn:=cn) y).2;have C:=Wo aB (n:=i)<|by rw[aS,af y] at v;exact v
  rw[gE,Cr] at C;rw[aS,hl] at E;obtain⟨r,o,rfl⟩:=ay.mp E;obtain⟨j,x,H,lo,hi,hx,er,el⟩:=G.ln g (ai d) r o;rw[el] at M u L h6 X;refine⟨_,(ag.mp C).1,_,i,C,(sp C).mp K,k,(Z k).mpr ⟨(ag.mp s).1,hD⟩,g,d,by rw[I,(M7 y).1],r,o,x.1,H,lo,hi,er,M,u,?_⟩;rw[N hx,_n ⟨L,h6⟩];refine congrArg _b ?_;have L:0<=((i:_c):_j)+H:=L;have X:(p:_j)=(Ze rk j:_c)+((i:_j)+H):=X;lia
 .rintro⟨e,_,a,i,O,tf,k,W,g,d,v,r,o,t,H,lo,hi,er,K,M,u⟩;obtain⟨L,hD⟩:=(Z k).mp W;obtain⟨z,s⟩:∃z,kbs[k]? = _b z:=⟨_,af L⟩;obtain⟨w,y,g',J,A,I,hl⟩:=B s
  cases (_h (d.symm.trans J):g=g');obtain⟨n',h6,F,X⟩:=Ri O;obtain⟨b',ap,aw,Q⟩:=Nq O;have ea:Za z=a:=by
   rw[I,(M7 F).1] at v;exact cI nd y F<|V.str.inj<|_h v
  have hw:z.w = "stop":=by
   rcases G.st g (ai d) with h | h
   .rw[A,IK] at h;exact h
   .rw[h] at o
    cases o
  obtain⟨j,x,B9,aD,aK,hx,an,el⟩:=G.ln g (ai d) r o
  cases er.symm.trans an;rw[N hx] at u;by_cases c:0<=((i:_c):_j)+H/\((i:_c):_j)+H<(N8 rk j:_c)
  rotate_left
  .rw[_l c] at u
   cases u
  rw[_n c] at u;have u:=_h u;rw[Cr] at Q;refine⟨k,(T k).mpr ⟨z,s,hw,hD⟩,(Wf<|lG k).mpr ⟨lnOf rk r,?_,i,?_,?_,?_⟩⟩
  .rw[aS,hl];exact aE o
  .rw[w,ea,aS,af F];have:=(M7 (cn:=cn) F).2
   cases (_h (ap.symm.trans this));exact aw
  .rw[w,ea,<-Q];exact (sp O).mpr tf
  .rw[el];refine⟨K,M,c.1,c.2,?_⟩;show (p:_j)=(Ze rk j:_c)+((i:_j)+H);lia
def psK:Ps->_c
 |.every k=>k
 |.part k _=>k
structure Zf(m:_c)(s:Cs):Prop where
 d:∀k,s.dr.testBit k=_g->k<m
 p:∀p ps,s.m p=_b ps->∀k,(psK ps).testBit k=_g->k<m
theorem Zf.start:Zf m ⟨0,0,λ_=>_o⟩:=⟨λk h=>(by rw[Ė] at h;cases h),λ_ _ h=>nomatch h⟩
theorem Zf.set{s:Cs}(h:Zf m s){p:_c}{ps:Ps}(d:∀k,(psK ps).testBit k=_g->k<m):Zf m ⟨s.dr,s.sh,Mw s.m p ps⟩:=by
 refine⟨h.d,λq b a k c=>?_⟩;have a:(if q=p then _b ps else s.m q)=_b b:=a;by_cases e:q=p
 .rw[_n e] at a
  cases a;exact d k c
 .rw[_l e] at a;exact h.p q b a k c
theorem jh{v:V}{k:_c}(h:JP ks v=_b k):k<ks.length:=by
 cases v with
 |str t =>
  have h:(if t∈I_ ks then _b ((I_ ks).idxOf t) else _o)=_b k:=h;by_cases c:t∈I_ ks
  .rw[_n c] at h;have:=(ag.mp<|Gv c).1;rw[ah] at this;exact _h h ▸ this
  .rw[_l c] at h
   cases h
 |_=>cases h
theorem rQ{s s':Cs}{d:Iz}{r:Rs}(h:Zf ks.length s)(e:act ns ks n s d=(s',r)):Zf ks.length s':=by
 cases d with
 |pull v =>
  unfold act at e;dsimp only at e
  cases hk:JP ks v with
  |none=>rw[hk] at e;cases e;exact h
  |some k =>
   rw[hk] at e
   cases e;refine⟨λj a=>?_,h.p⟩;have a:(s.dr ||| 2 ^ k).testBit j=true:=a;rw[kX,jv,wp,_H] at a;exact a.elim (h.d j) λe=>e ▸ jh hk
 |push v =>
  unfold act at e;dsimp only at e
  cases hk:JP ks v with
  |none=>rw[hk] at e;cases e;exact h
  |some k =>
   rw[hk] at e
   cases e;refine⟨λj a=>?_,h.p⟩;have a:(s.dr - (s.dr &&& 2 ^ k)).testBit j=true:=a;rw[Gn.Wy,eM] at a;exact h.d j a.1
 |store v =>
  unfold act at e;dsimp only at e
  cases hk:JT v with
  |none=>rw[hk] at e;cases e;exact h
  |some k=>rw[hk] at e;cases e;exact h.set h.d
 |storeB v b =>
  unfold act at e;dsimp only at e
  cases hk:JT v with
  |none=>rw[hk] at e;cases e;exact h
  |some k =>
   rw[hk] at e;dsimp only at e;have e:(match zz ns ks s.dr b with
    |some g=>(⟨s.dr,s.sh,Mw s.m k g⟩,Rs.told .non)
    |none=>(s,Rs.no 2))=(s',r):=e
   cases f:zz ns ks s.dr b with
   |none=>rw[f] at e;cases e;exact h
   |some g =>
    rw[f] at e
    cases e;refine h.set λj a=>?_
    cases b with
    |non =>
     cases (_h f:Ps.every s.dr=g);exact h.d j a
    |str t =>
     have f:(if t∈ns then _b (Ps.part (s.dr &&& G_ ks t)<|G_ ks t) else _o)=_b g:=f;by_cases c:t∈ns
     .rw[_n c] at f
      cases f;have a:(s.dr &&& G_ ks t).testBit j=true:=a;rw[Ģ,eM] at a;exact h.d j a.1
     .rw[_l c] at f
      cases f
    |_=>cases f
 |press v =>
  unfold act at e;dsimp only at e
  cases hk:(JT v).bind s.m with
  |none=>rw[hk] at e;cases e;exact h
  |some g =>
   rw[hk] at e
   cases e;obtain⟨q,_,i⟩:=Ť.mp hk;refine⟨λj a=>?_,h.p⟩
   cases g with
   |every k=>exact h.p q _ i j a
   |part k w =>
    have a:((s.dr - (s.dr &&& w)) ||| k).testBit j=true:=a;rw[kX,jv,Gn.Wy,eM] at a;exact a.elim (λz=>h.d j z.1)<|h.p q _ i j
 |shoe v =>
  unfold act at e;dsimp only at e
  cases hk:RN n v with
  |none=>rw[hk] at e;cases e;exact h
  |some k=>rw[hk] at e;cases e;exact⟨h.d,h.p⟩
 |cancel =>
  unfold act at e
  cases e;exact⟨λk z=>(by rw[Ė] at z;cases z),h.p⟩
theorem AAk{a f k l m i:_d}{bs:_a (_m×_c)}{s s':Cs}{c j:_c->_c}{d:Ea}{b:_O}(h:Zf ks.length s)(g:GoB a f k l m i bs ks n s c d b s' j):Zf ks.length s':=by
 rcases g with⟨_,g⟩ | ⟨_,_,rfl,_⟩
 .cases d with
  |hold v u=>exact g.1 ▸ h
  |leave v u=>exact g.1 ▸ h
  |con d =>
   obtain⟨_,u,e⟩:=g;exact rQ h e
 .exact h
theorem Hv.stb{bs:_a (_m×_c)}{rk:_a (_m×_c×_j)}(h:Hv K aB aP aM rows bs rk ks ls sts):∀t∈sts,∀j,t.testBit j=_g->j<ks.length:=λt a j d=>by
 rw[<-h.st] at a;obtain⟨r,b,rfl⟩:=ay.mp a;obtain⟨b,f⟩:=be.mp b;obtain⟨g,e,_,c⟩:=h.sm r b<|V.str.inj<|_s f;unfold stN at d;rw[Wd.Ii,_H,Ji e] at d;obtain⟨t,a,rfl⟩:=ay.mp d;have:=(ag.mp<|Gv<|c t a).1;rw[ah] at this;exact this
theorem qF{s:Cs}(h:Zf m s)(c:∀t∈sts,∀j,t.testBit j=_g->j<m):∀j,(vR s sts).testBit j=_g->j<m:=λj a=>by
 unfold vR at a;rw[kX,jv,Rn] at a;rcases a with z | ⟨t,b,z⟩
 .exact h.d j z
 .exact c t (gg b) j z
theorem iZ(h:∀j,n.testBit j=_g->j<m):n<2 ^ m:=by
 refine hZ _ λi a=>?_;rw[<-ft];intro z;have:=h i z;lia
theorem Xy(h:∀j,n.testBit j=_g->j<m):(Wd.mem n).length<=m:=Ef m ((zC).filter _) λx a=>h x<|Wd.mem_iff.mp a
theorem M8:Am fv li<|Ae iY:=Bc
inductive wA(va:Hp)(C:_d)(Cy:_d)(Cp:_d)(pE:_d)(pA:_d)(z:_d)(x:_d)(y:_d)(sA:_d)(xk:_a V)(rk:_a<|_m×_c×_j)(ls:_a<|_a Ln)(sts:_a _c)(sd:_d)(cn:_c->_m)(sz:_a _c)(kbs:_a Kb)(a:_d)(DR:_d)(pd:_d)(KL:_d)(i:_c)(σ:St)(Hx:Hp):Prop
|mk(_:Aj va Hx)(s:Cs)(kvs:_a (Key × V))(c:_c->_c)(v6 v7:_r V)(_:M3 C Cy Cp pE pA va Hx z x y sA xk rk ls sts s sd kvs c i cn sz kbs)(_:kvs.length<=i)(_:Zf (Bw cn kbs).length s)(_:σ=[_b (.ref a),_b (.ref DR),_b (.ref pd),_b (.ref x),_b (.ref KL),_b (.ref z),v6,v7])
theorem uU(F:Zb K "law" "law" iY f fd)(N:Fns K mg C Cy Cp pB pE pA aD)(T:Txt K w.params mg C Cy Cp pB pE pA cK cP cB cS cO cH cY cD aQ aN aK aB aP aM)(F0:vW K aB aP aM):GJ P w K mg base BV 12 f fd li<|SM K:=by
 refine F.DY M8 λH vs Q E u h=>?_;obtain⟨a,M,rfl,hS,a0,q⟩:=h;have hu:=By u;refine⟨_,Ac (Be 1 M8.nd U (Or.inl U) (BJ N.FRw (v_ N T) u<|Ao U (pv 0) Ab) U<|Or.inl U)<|Ac (Be 2 M8.nd U (Or.inl U) (BJ N.FVp (AAb N T) u<|Ao U (pv 1) Ab) U<|Or.inl U)<|Ac (Be 3 M8.nd U (Or.inl U) (Kr N.FOi.2.2 (zM N T) (ae u) U T.mC N.FOi.2.1 .nil J7<|Ao U (pv 1) Ab) U<|Or.inl U)<|Ac (jD (i:=4) M8.nd U U U (Io (osc:=Ae iY) (N:=fv) U U<|by decide) (Bl<|Dp (pv 3) T.cl N.FOz (fQ N T) u) (λ_ _ _ _=>Cj)<|λ_ _ _ _=>(pv 1))<|Ac (Be 5 M8.nd U (Or.inl U) (Kr N.FQi.2.2 (AAl N T) (ae u) U T.mCP N.FQi.2.1 .nil J7<|Ao U (pv 3) Ab) U<|Or.inl U)<|Ac (DQ _M U (ZD U T.range<|Ao U (B_ K (Cm<|Ao U Al<|Ao U Al Ab)<|Ci HJ U T.int gc<|Ao U (DX R3 (Ay BL U T.len bt<|Ao U (pv 0) Ab) Al<|Et _) Ab)<|Ao U (Ay (Mf U) U T.min ma<|Ao U (Ay BL U T.len bt<|Ao U (pv 0) Ab)<|Ao U Al Ab) Ab) (Bh (i:=6) M8.nd U<|Or.inl U)<|Ac (Bq<|BJ N.FLx (xQ N T) u<|Ao U (pv 5)<|Ao U (BJ N.FDe (zF N T) u<|Ao U (BJ N.FLo (lW N T) u<|Ao U (pv 0)<|Ao U (pv 6) Ab)<|Ao U (pv 3)<|Ao U (pv 5)<|Ao U (pv 4) Ab) Ab)<|Ac (Be 7 M8.nd U (Or.inl U) (BJ N.FVs (xg N T) u<|Ao U (pv 2)<|Ao U (BJ N.FMe (Tn N T) u<|Ao U (Dp (pv 5) T.clP N.FQk (lU N T) u) Ab)<|Ao U (BJ N.FMe (Tn N T) u<|Ao U (Dp (pv 5) T.clP N.FQe (bj N T) u) Ab) Ab) U<|Or.inl U)<|Af<|Bg (Bd (VP<|oo hu) (BJ N.FMe (Tn N T) u<|Ao U (Dp (pv 5) T.clP N.FQs (nM N T) u) Ab)<|pv 7) (Af<|Aq JN) BR)<|Af<|Aq JN,?_⟩;refine⟨a,M,U,hS,a0,F0,λDR J c0 bs rk S bB m Y A sn H9 _ SL zS CS b1 r1 L=>?_⟩;obtain⟨PR,G0⟩:=Hv.plan L.bl CS;have SW:=Hv.stb L.bl;refine⟨DR,J,S,bs,rk,U,zS,CS,PR,cq L.rl<|by decide,λpd Hq _ IG hP=>?_⟩;replace zS:=IG _ _ zS;replace CS:=Ar (f:=R.v) IG CS;obtain⟨Pw,O9,eL,eS⟩:=L.org b1 (by decide) (by decide) CS;intro x dx nx PD YI;have sx:Aj Hq<|upd (upd Hq dx<|.own x) x<|.ins C dx []:=λb o e=>by
  rw[Ak (Ag e nx),Ak<|Ag e PD];exact e
 refine⟨x,dx,DR,J,KJ Hq,_,_,_,U,Ah,sx _ _ zS,Pw.mono sx,O9,λtF OX _ OQ=>⟨U,?_⟩⟩;rw[eL,eS] at OX;have I:Aj Hq tF:=λb o e=>OQ b o (sx b o e)<|Ag e nx
 have LL:=(SL.trans IG).trans I;obtain⟨B,sz,og,eb,ek⟩:=L.og b1 (by decide) OX;have pX:=L.bd.pX;have a9:((rk.map Rz).map (·.2)).sum<=400:=by
  rw[bb];exact XF L.bd
 rw[<-ek] at G0 SW;rw[<-eb] at hP;replace hP:=hP.mono I;generalize grp S=gs at hP G0;clear OQ sx nx PD YI Pw O9 CS zS eL eS I IG SL OX L b1 r1 PR eb ek;obtain⟨⟨⟨dx,fs,_,_,_,_,_,_,_,_,hx,_,_,_,_,lm,_⟩,o0,ui,_⟩,_⟩:=id og.o.o;refine⟨dx,fs,hx,lm _<|by decide,x,_,_,U,og.o.o.o,λD1 ys FM FO Mo Fm CC=>?_⟩;have a6:ys.length=(Bw B m).length:=CC.length.symm;have nk:=og.f.kl;have ab:Dd K FM D1 ys:=.inl<|.inl Fm
 refine⟨⟨_,ab⟩,WX (K:=K) (ps:=(Bw B m).map λr=>(V.str r.w,V.str r.nm)) (λq=>q.2) ab (Bo (F:=λ(q:V×V) v=>TupAt FM [q.1,q.2] v) (λr:R=>(V.str r.w,V.str r.nm)) CC) (Ax<|by lia) (λq hq H' hs R k=>k H'<|Aj.refl H')<|λKL G bm as xy=>?_⟩;have a4:((Bw B m).map λr=>(V.str r.w,V.str r.nm)).map (λq=>q.2)=(I_<|Bw B m).map V.str:=by
  rw[bb,bb];rfl
 rw[a4] at xy;have a5:kW C G x J rk Y A B sz m:=⟨og.o.mono<|Mo.trans as,og.f,og.kb,og.lg,og.st,og.bd,og.z1,og.l1⟩;refine λz O a1 a2 a3=>⟨z,O,x,U,Ah,λy sd sA Pe g1 g2 g3 g4 g5 g6 g7 g8 g9 SV Sc=>⟨U,?_⟩⟩;have Z:Aj G Pe:=λb o e=>g1 b o (by rw[Ak (Ag e a1),Ak<|Ag e a2];exact e)<|Ag e a1
 have fr:∀{b:_d},upd (upd G O<|.own z) z (.ins Cp O []) b=_o->G b=none:=λ{b} h=>by
  have b1:b≠z:=λe=>by rw[e,Ah] at h;cases h
  rw[Ak b1] at h;have b2:b≠O:=λe=>by rw[e,Ah] at h;cases h
  rw[Ak b2] at h;exact h
 have ny:=fr g2;have nh:=fr g3;have TR:=fr g7;have pl:=a5.U9 (pE:=pE) (pA:=pA) Z ny nh TR g4 g5 g6 g8 g9 SV Sc;have EW:=LL.trans<|Mo.trans as
 have Jn:=hP.mono<|Mo.trans as
 clear g1 g2 g3 g4 g5 g6 g7 g8 g9 SV Sc fr a1 a2 a3 CC Fm ab a6 a4;have DS:=(EW.trans Z).seq hS;refine⟨CV (by simp),λP1 EM=>?_⟩;obtain⟨OZ,k7,t1,u1⟩:=Dr (o:=HO.lst [V.int 2,V.int 10]) EM;rw[k7];have ln:(M.map V.int).length=M.length:=ah ..;obtain⟨lo,TD,Uf⟩:∃lo:_j,(lo=2 \/ lo=10)/\VJ [V.int 2,V.int 10] (if decide ((18:_j)<(((M.map V.int).length:_c):_j))=_g then 1 else 0)=_b (.int lo):=by
  cases decide ((18:_j)<(((M.map V.int).length:_c):_j)) with
  |true=>exact⟨10,.inr U,U⟩
  |false=>exact⟨2,.inl U,U⟩
 refine⟨a,_,U,.inl<|t1.seq DS,.inr ⟨_,U,_,_,oP u1,Uf,?_⟩⟩;obtain⟨hi,PH,bn⟩:∃hi:_j,(if (34:_j)<(((M.map V.int).length:_c):_j) then 34 else (((M.map V.int).length:_c):_j))=hi/\0<=hi/\hi<=34:=⟨_,U,by split <;> lia,by split <;> lia⟩;refine⟨a,_,U,.inl<|t1.seq DS,_,_,U,lo,hi,by rw[PH],⟨by lia,by lia,by lia,Y2 bn.2 (by decide)⟩,?_⟩;clear PH;have MB:=pl.mono t1;have D0:=Z.trans t1;refine forR (lo:=lo) (n:=(hi - lo).toNat) (wA G C Cy Cp pE pA z x y sA J rk Y A sd B sz m a DR pd KL)
  ⟨D0,_,_,_,_,_,MB,al _,Zf.start,U⟩ ?_ ?_
 .rintro i D9 rc σ Hx bL ⟨sx,s,ap,c,v6,v7,px,hk,BH,rfl⟩;obtain⟨kk,ZY⟩:∃kk:_c,lo+(i:_j)=((kk:_c):_j):=⟨(lo+(i:_j)).toNat,by lia⟩;refine⟨a,kk,M,congrArg (λt:_j=>[V.ref a,V.int t]) ZY,(EW.trans sx).seq hS,by lia,λp H1 hp s1 xz=>?_⟩;have an:((Az B sz).map (·.1)).Nodup:=og.f.bd;refine⟨Hx,p,KL,G,z,x,y,sA,J,rk,Y,A,s,sd,ap,c,i,B,sz,m,U,⟨px,sx _ _ xy,s1,hp,xz,og.z1,og.l1,an⟩,λTa d H2 _ s2 qA ho BC=>?_⟩;refine⟨G,z,x,y,sA,J,rk,Y,A,s,sd,ap,c,i,B,sz,m,Ta,d,U,qA,ho,BC,px.mono s2,by lia,by lia,λb X i6 c' H3 go f3 D bl=>?_⟩;have F4:=AAk BH go;have s3:Aj G H3:=D.p.p.con.s;have kb:=qF F4 SW;have aZ:∀j,(Wd.mk<|El i6).testBit j=_g->j<sz.sum:=λj hj=>by
   rw[Wd.Ii,_H,D.p.p.h.mem] at hj;exact D.o.kc j hj
  have aw:(Bw B m).length=m.length:=PK ..;have bc:=og.f.kl;have a8:(Eb<|Az B sz).length=sz.sum:=by rw[Eg,Cr]
  have bd:(Eb<|Az B sz).length<=305:=by
   rw[Eg];exact Ft og.o.o.o
  obtain⟨O,gz,hz,_,_,_,F5⟩:=id D.p.p.U9.ex;refine⟨O,gz,hz,F5 _<|by decide,G,z,x,y,sA,J,_,rk,_,Y,A,X.dr,X.sh,sd,i6,c',U,D.p.p,D.o.nm,D.o.nk,D.o.sh,D.o.st,λH4 s4=>?_⟩;refine⟨_,U,bq (iZ kb)<|ko (by decide)<|rx bc (by decide),λL5 H5 bK s5 sf=>?_⟩;have p5:=(D.mono s4).mono s5;refine⟨O,gz,(s4.trans s5) _ _ hz,F5 _<|by decide,G,z,x,y,sA,J,_,rk,_,Y,A,X.dr,X.sh,sd,i6,c',U,p5.p.p,p5.o.kl,λH6 s6=>?_⟩;refine⟨_,U,Wd.Xx D.p.p.h.bound,λL7 H7 bv s7 M'=>?_⟩;have IM:=s4.trans<|s5.trans<|s6.trans s7
  refine⟨pd,L5,L7,B,sz,m,rk.map Rz,gs,vR X A,_,_,U,Jn.mono<|s3.trans IM,G0.k,an,og.kb,og.o.o.o.nb,og.o.o.o.sz,(s6.trans s7) _ _ sf,λk=>?_,M',λk hk=>?_,?_,?_,λg hg r u=>?_,a9,λF l ck H8 hF s8 xh X1 CU wq=>?_⟩
  .rw[Wd.mem_iff];exact⟨λh=>⟨aw ▸ kb k h,h⟩,λh=>h.2⟩
  .rw[a8];exact aZ k<|Wd.mem_iff.mp hk
  .exact cq (Xy aZ)<|by lia
  .exact cq (Xy kb)<|rx bc (by decide)
  .obtain⟨_,x,sh,lo,hi,_,e,_⟩:=G0.ln g hg r u;exact⟨_,_,_,_,e⟩
  have p8:=D.mono<|IM.trans s8
  refine⟨O,gz,(IM.trans s8) _ _ hz,F5 _<|by decide,G,z,x,y,sA,J,rk,Y,A,X.dr,X.sh,sd,i6,c',B,sz,m,U,p8.p.p,p8.o,λP H9 s9 S9=>?_⟩;refine⟨_,U,D.bd _ _ _ S9,λa7 tF VY ac W=>?_⟩;have el:Wd.mem P=l:=by
   have e:P=Wd.mk l:=by
    refine ki λj=>?_;rw[Wd.Ii,fh,_H,wq];exact j_ an pX og.kb og.lg G0 (λk=>by rw[Wd.mem_iff];exact⟨λh=>⟨aw ▸ kb k h,h⟩,λh=>h.2⟩) (λk=>Wd.mem_iff) CU S9 j
   rw[e];exact Wd.rG X1
  rw[el] at W;refine⟨a7,F,_,_,U,U,oP W,oP<|(s9.trans ac) _ _ xh,K9 _,K9 _,?_⟩;rw[QQ];exact (rc _ _ ⟨s3.trans<|IM.trans<|s8.trans<|s9.trans ac,X,i6,c',_,_,p8.mono<|s9.trans ac,rx bl (md hk),F4,U⟩)
 .rintro σ Hx ⟨sx,s,ap,c,v6,v7,px,hk,BH,rfl⟩;exact q Hx
end
end K47
end PartK47a
set_option maxHeartbeats 4000000
theorem UL1{α:Type}{us:_a α}(h:us.length=1):∃a,us=[a]:=match us,h with | [a],_=>⟨a,U⟩
theorem UL2{α:Type}{us:_a α}(h:us.length=2):∃a b,us=[a,b]:=match us,h with | [a,b],_=>⟨a,b,U⟩
theorem UL3{α:Type}{us:_a α}(h:us.length=3):∃a b c,us=[a,b,c]:=match us,h with | [a,b,c],_=>⟨a,b,c,U⟩
theorem UL4{α:Type}{us:_a α}(h:us.length=4):∃a b c d,us=[a,b,c,d]:=match us,h with | [a,b,c,d],_=>⟨a,b,c,d,U⟩
theorem UL5{α:Type}{us:_a α}(h:us.length=5):∃a b c d e,us=[a,b,c,d,e]:=match us,h with | [a,b,c,d,e],_=>⟨a,b,c,d,e,U⟩
namespace K47
open PySem L2 Og
def jT:_c->(_a _k->Prop)->Prop
 |0,p=>p []
 |n+1,p=>∀v,jT n λl=>p<|v::l
theorem jT.all:∀{n:_c}{p:_a _k->Prop},jT n p->∀us:_a _k,us.length=n->p us
 |0,_,a,[],_=>a
 |_+1,_,a,v::us,e=>(a v).all us<|Į e
section
variable{K:_q}{x q:_m}{st:Ú}{R:Prop}{oc ot:_k}{od an EV:_r _d}{tS FB:_E (_r _k)}{kV qa pm k8 ct:_k}
theorem fG(r:R)(l:K.lookup f=_b ⟨oc,od,.func<|ò x q (Dq st) (Cg st) (Ae st) .none kV qa pm an k8 ct,tS⟩)
  (c:Ĳ K k8 q=_g)(k:Ö K (.ref f)=_g)(b:jT ps.length λus=>bindArgs (ò x q (Dq st) (Cg st) (Ae st) .none kV qa pm an k8 ct) ⟨us,[]⟩=pure (ps.zip us) ):ni K x q st ⟨f,ò x q (Dq st) (Cg st) (Ae st) .none kV qa pm an k8 ct⟩ ps R:=⟨dW l c k,.all b.all,r⟩
theorem fS{t:_d}(r:R)(l:K.lookup f=_b ⟨oc,od,.func<|ò "store" "Console.store" (Dq R1) (Cg R1) (Ae R1) (.ref t) kV qa pm an k8 ct,tS⟩)
  (c:Ĳ K k8 "Console.store" = _g)(k:Ö K (.ref f)=_g)(u:K.lookup t=_b ⟨ot,EV,.seq #[.none] n,FB⟩):VG K "store" "Console.store" R1 (FA.mk f<|ò "store" "Console.store" (Dq R1) (Cg R1) (Ae R1) (.ref t) kV qa pm an k8 ct).f (FA.mk f<|ò "store" "Console.store" (Dq R1) (Cg R1) (Ae R1) (.ref t) kV qa pm an k8 ct).d/\Binds K (FA.mk f<|ò "store" "Console.store" (Dq R1) (Cg R1) (Ae R1) (.ref t) kV qa pm an k8 ct).d gp []/\R/\Binds K (FA.mk f<|ò "store" "Console.store" (Dq R1) (Cg R1) (Ae R1) (.ref t) kV qa pm an k8 ct).d gp [.none]:=⟨jZ l c k,pZ u U λa hl=>by obtain⟨_,_,_,rfl⟩:=UL3 hl;exact⟨_,U,U⟩,r,jP u U λa hl=>match a,(show a.length=2 by simpa using hl) with | [_,_],_=>⟨_,U,U⟩⟩
end
theorem eT{α:Type}{p:α->Prop}{t:α}(h:p t):∃t,p t:=⟨t,h⟩
theorem eA{α:Type}{p q:α->Prop}{t:α}(h:p t)(k:q t):∃t,p t/\q t:=⟨t,h,k⟩
theorem fC{α:Type}{p:α->Prop}{a:α}{l:_a α}(h:p a)(k:∀x∈l,p x):∀x∈a::l,p x:=List.forall_mem_cons.mpr ⟨h,k⟩
theorem kT{K:_q}{o:Þ}{its:_E _k}(u:K.lookup a=_b o)(c:o.cls=.type "tuple")(d:o.data=.seq its n)(s:its.size<=sizeLine)(p:Vals xs its.toList):KTup K a xs:=⟨o,its,n,u,c,d,s,p⟩
theorem kD{K:_q}{P:Đ}{b:_E DictEntry}(d:K.lookup a=_b ⟨.type "dict",_o,.dict b n,#[]⟩)(k:XW P b.toList)(o:(a == sysModules)=_p):KDict K P a:=⟨⟨b,n,d,k⟩,o⟩
theorem qU{l:Da}{w:_P}{K:_q}{f:_d}(X:K.In h)(G:h.Ns mainGlobals mg)(c:mg "law" = _b (.ref f)){g i k p q m t y n r u x:_d}{aD:Ad}{d:_d}
  (T:Txt K w.params mg C Cy Cp g pE pA i k p q m t y n r u x aB aP aM)(j:vW K aB aP aM)(N:Fns K mg C Cy Cp g pE pA aD)(o:_W K mainGlobals "law" = _b (_b<|.ref d))(Z:∃fd,Zb K "law" "law" iY d fd/\∀(s:_C)(v:_k),ŏ s fd ⟨[v],[]⟩ [("_law_script",v)])
  : ∃fd:ä,(∀(s:_C)(v:_k),ŏ s fd ⟨[v],[]⟩ [("_law_script",v)])/\∀base:χ,K.In base->base.Ns mainGlobals mg->GJ l.prog w K mg base BV 12 f fd li (SM K):=by
 have e:=c.symm.trans<|W.mg_of X G o
 cases e;obtain⟨fd,a,b⟩:=Z;exact⟨fd,b,λbase _ _=>uU a N T j⟩
theorem walk{l:Da}{q:Γ}{g:_a _m}{o:(_m->_r _k)->χ->Prop}{c:_P->χ->Prop}{d:DefRec}{K:Đ->_q}(j:l.most=_b 63)(m:d.params.defaults=[])
  (r:∀(w:_P)(h:χ),c w h->(K w.params).In h)
  (F:∀(w:_P)(b:_m->_r _k)(e:_d)(h:χ),(K w.params).In h->h.Ns mainGlobals b->b d.name=_b (.ref e) ->
   ∃fd:ä,(∀(s:_C)(u:_k),ŏ s fd ⟨[u],[]⟩ [("_law_script",u)])/\∀base:χ,(K w.params).In base->base.Ns mainGlobals b->GJ l.prog w (K w.params) b base BV 12 e fd li (SM<|K w.params)) :
  W.WalkO q g o c l.row.toRowW d [] (λf vs=>PySem.call f vs) :=
 L2.jO (n:=63) (k:=12) (x:="_law_script") (CX:=λ_=>BV) (sp:=λw=>SM<|K w.params) j (by decide) m ⟨U,by decide,by decide⟩ r F (λ_ _ a i hl _ p=>⟨a,i,U,p,hl,λ_=>rfl⟩) λ_ _ _ _ _ z=>z
end K47
open PySem PySem.W PyProof.Rows
open L2 Og K47
namespace PySem.W.Fast
theorem tw15862890003225683296:True:=⟨⟩
theorem tw4415179645011557984:True:=⟨⟩
local macro_rules|`(command|universe tw)=>do
 let t←`(command|theorem x:True:=⟨⟩)
 return Lean.mkNullNode ((((List.range 1083).map fun i=>s!"o_{i+43}")++"env_41 heap_39 heap_46 heap_1126 sts_49 sts_71 sts_86 sts_101 sts_116 sts_131 sts_146 sts_161 sts_176 sts_191 sts_213 sts_243 sts_265 sts_313 sts_379 sts_473 sts_549 sts_590 sts_660 sts_672 sts_735 sts_795 sts_1020 sts_1100 tree_47 tree_70 tree_85 tree_100 tree_115 tree_130 tree_145 tree_160 tree_175 tree_190 tree_212 tree_242 tree_264 tree_312 tree_378 tree_472 tree_548 tree_587 tree_659 tree_669 tree_732 tree_794 tree_932 tree_1016 tree_1099 tree_1125 view_39".splitOn " ").map fun s=>t.raw.setArg 1 (t.raw[1].setArg 1 (t.raw[1][1].setArg 0 (Lean.mkIdent (.mkSimple s!"tw{(`PySem.Challenge.cw_windchest_k47_whole_pipes_by_hand_holds ++ .mkSimple s).hash}"))))).toArray
universe tw
end PySem.W.Fast
set_option maxRecDepth 100000 in
set_option maxHeartbeats 0 in
theorem PySem.Challenge.cw_windchest_k47_whole_pipes_by_hand_holds : PySem.Challenge.rw_windchest_k47_whole_pipes_by_hand.Holds := by
 w_on; o_law; k_head; (case hw=>w_witness2)
 k_fill
 refine K47.walk (l:=PySem.Challenge.rw_windchest_k47_whole_pipes_by_hand) rfl rfl (fun w h Y=>PySem.W.kIn_of Y) ?F
 case F =>
  intro w mg fa h KX G hmg;apply K47.qU KX G hmg (aD:=.mk ..);repeat' first | apply Txt.mk | apply Fns.mk | apply vW.mk | apply fu.mk | apply KF.mk
  iterate 2 repeat' (show (_:Prop); first | k_is | (delta CT; k_is) | exact W.mg_none_of KX G (by k_is) | apply W.mg_of KX G | apply kT | apply kD | apply eA | apply eT | apply Meth.mk | apply Mk.mk | refine fC ?_ ?_ | exact List.forall_mem_nil _ | refine' fG ?_ ?_ ?_ ?_ ?_ | exact Rc.of (by kernel_rfl!) | apply Py.mk | apply Ex4.mk | apply AAg.mk | apply ExH.mk | apply ExY.mk | apply bf.mk | kernel_rfl! | apply dW | exact fun _ _=>.of_eq rfl | apply fS | ((repeat intro _); rfl) | exact .nil | refine .cons ⟨_,rfl⟩ ?_ | decide +kernel | (k_keys; done))
