import PyProof.Rows.All
import Wide.All
import OpenK.AllK
import Lean
import PySem.Challenge.RW_patchsquare_k24_first_block_refused
set_option bootstrap.genMatcherCode false
set_option genSizeOf false
set_option genSizeOfSpec false
set_option genInjectivity false
set_option compiler.extract_closed false
set_option Elab.async false
set_option linter.all false
set_option maxRecDepth 100000
set_option maxHeartbeats 0
open Array renaming getElem?_eq_some_iff->IR,getElem?_setIfInBounds_ne->ñ,getElem?_toList->ē,length_toList->ĩ,toList->ű
open Bool renaming and_eq_true->ai,and_eq_true_iff->Ĭ,and_self->Z9,and_true->ų,eq_false_iff->Ň,eq_iff_iff->fm,false->ε,false_and->ť,false_eq_true->c9,false_ne_true->ay,not_eq_true->ý,not_eq_true'->fk,not_false->Ñ,or_eq_true->gm,or_true->ð,true->ζ,true_and->iy,true_or->c_
open Classical renaming byContradiction->þ,not_not->wp,propDecidable->WP
open Decidable renaming byContradiction->gi
open False renaming elim->Φ
open ForInStep renaming yield->ZD
open Int renaming ediv_le_self->Ś,ediv_nonneg->Ŧ,eq_ofNat_of_zero_le->ę,fdiv_eq_ediv_of_nonneg->Ó,le_trans->ģ,natCast_ediv->ŝ,natCast_nonneg->i5,toNat->Ŝ,toNat_natCast->ey,zero_add->f?
open List renaming Nodup->Ļ,all_cons->iw,all_eq_true->bz,all_map->ĕ,all_nil->Ė,any_cons->jc,append_assoc->fi,append_nil->aw,contains_cons->dk,contains_iff_mem->u8,contains_nil->í,drop_eq_getElem_cons->gb,drop_length->û,drop_of_length_le->ė,drop_take->ū,drop_zero->Ŭ,eq_nil_of_length_eq_zero->jd,eq_of_mem_replicate->Ĉ,eraseIdxIfInBounds_toArray->ô,ext_getElem->cy,ext_getElem?->ì,filterMap_cons->iu,filter_congr->ï,filter_cons_of_neg->Ď,filter_cons_of_pos->ď,filter_eq_self->Z4,filter_filter->â,find?_cons->ř,flatten_cons->dw,flatten_nil->Ŏ,foldl->Ķ,getD_cons_succ->ı,getD_eq_getElem?_getD->ι,getElem?_append_left->Ν,getElem?_append_right->Τ,getElem?_cons_succ->Č,getElem?_eq_getElem->υ,getElem?_eq_none->Ps,getElem?_eq_some_iff->χ,getElem?_map->π,getElem?_mapIdx->am,getElem?_range->sw,getElem?_replicate->bv,getElem?_set->ň,getElem?_set_ne->ο,getElem?_set_self->ω,getElem?_take->á,getElem?_toArray->ZK,getElem_map->eh,getElem_mem->iq,getElem_range->fw,length->AC,length_append->ba,length_cons->br,length_drop->gv,length_eq_zero_iff->č,length_eraseIdx_le->Đ,length_filter_le->il,length_map->aj,length_mapIdx->ļ,length_nil->jf,length_range->bq,length_replicate->bu,length_set->aq,length_singleton->Ġ,length_take->dn,lookup_append->i4,lookup_cons->de,map->Ò,mapIdx_eq_iff->ĺ,map_append->gj,map_congr_left->du,map_cons->bo,map_drop->ŵ,map_id->h_,map_map->bh,map_nil->è,mem_append->ig,mem_append_left->ax,mem_append_right->ao,mem_cons->dm,mem_cons_of_mem->aa,mem_cons_self->ag,mem_filter->ie,mem_filterMap->KM,mem_iff_getElem->Ī,mem_map->Δ,mem_of_getElem->a9,mem_of_getElem?->Κ,mem_of_mem_drop->ZT,mem_of_mem_take->ZU,mem_or_eq_of_mem_set->jo,mem_range->pi,mem_range'_1->ņ,mem_singleton->jm,nil_append->Ä,nodup_append->fh,nodup_cons->jy,nodup_nil->bc,nodup_range->Ő,not_mem_nil->cx,of_mem_zip->je,pairwise_cons->wT,pairwise_map->jq,pairwise_singleton->ju,perm_append_comm->Ģ,range->ρ,range'->ZS,range'_succ->ŏ,range_eq_range'->ZV,range_succ->Æ,range_succ_eq_map->Ĕ,replicate->ξ,replicate_succ->dq,size_toArray->ak,sublist_append_right->Ö,sum_append->Ş,sum_cons->ą,take->o!,take_append_drop->ĥ,take_length->Ō,take_of_length_le->i9,zip->ZH
open List.Pairwise renaming imp_of_mem->ç,nil->Ð
open List.Perm renaming append_left->z_,append_right->z!,trans->z?
open List.Sublist renaming append->j_,refl->Ø
open Nat renaming add_comm->õ,add_le_add_left->Ŀ,add_sub_cancel_left->Ę,ble->ő,div_add_mod->Ì,le_of_ble_eq_true->cv,le_of_eq->d?,le_of_lt->ó,le_of_not_lt->jb,le_of_succ_le->ö,le_refl->au,le_succ->ZX,le_succ_of_le->Ŋ,le_trans->bp,le_zero->k_,lt_irrefl->fe,lt_of_le_of_lt->ji,lt_of_lt_of_le->av,lt_succ_of_lt->i8,lt_succ_self->ja,min_eq_left->Í,min_eq_right->ś,min_le_right->š,min_self->e!,mod_lt->jx,mod_two_eq_zero_or_one->eu,mul_comm->e_,mul_le_mul->ŷ,mul_succ->h!,ne_of_gt->Ĝ,ne_of_lt->a8,not_lt_zero->iz,pow_one->j?,pow_succ->Ĥ,pow_zero->h?,shiftRight_eq_div_pow->ir,shiftRight_xor_distrib->Ú,sub_self->jw,succ_mul->d!,xor_assoc->bj,xor_comm->ø,xor_mod_two_pow->Ĺ,xor_self->gq,xor_zero->gx,zero_add->gn,zero_le->dh,zero_xor->cg
open Nat.succ renaming inj->jv
open Ne renaming symm->bw
open Option renaming bind_eq_some_iff->ah,getD_none->ĵ,getD_some->î,map->c?,map_eq_some_iff->ae,map_some->cq,none->η,some->θ
open Option.some renaming inj->dz,injEq->cz
open Or renaming inr->a?
open Prod.mk renaming injEq->ij
open PyProof.Rows renaming AllBare->Tk,Call_->m?,IntsAre->É,boot_isinstance->Os,boot_list->g_,callWith_builtin1->i!,callWith_kw->j!,callWith_type1->el,call_isinstance_of->Â,envOfC->bi,isTrue_plain->w?,seen->y?,subscriptTail->q_,subscriptTail_builtinR->ZW
open PySem renaming Around->Ρ,BindsTo->ł,Builtin->ë,CmpOp->Z2,Drawn->Ă,Env->ù,FuncData->io,GenState->Tl,Keyword->Ń,Model->Ě,Operator->At,OsState->Î,OwnTail->KB,Paired->Ů,Params->Ł,PassesOwn->ZN,Pos->No,Result->Ô,Sem->o?,Shared->μ,Slot->g?,Tok->Þ,Walks->B!,World->Ξ,arm_exec_Raise->o_,assign->ä,assignEach->FS,attributeBase->ú,backTo->Pi,behindInMarks->xz,binaryOp->IN,bindArgs->NE,bindC->Ĵ,bindL->Ą,bootBuiltins->FM,builtinLookup_eq_fast->Œ,builtinsNs->Ű,call->Į,call_isinstance->jp,call_list_seq->v!,call_meets->ZE,call_range_1->y!,callerA->é,cellsFrom->ii,checkBuiltinCall->SZ,closureFor->Ŵ,codeAny->On,codeAny_builtin->WF,codeAny_call_builtin->Ev,codeAny_call_function->Re,codeAny_func->È,codeAny_handlers_test->Ŕ,codeAny_mono->ZA,compEnvC->n!,compareOp->Da,evalPart_none->p?,execs->Ż,fitsIndex_both->m_,foldedSetIterable->Do,getItem->x!,holding->Ç,inplaceOp->ĳ,intBits_le_64->p!,interactive->ŗ,isInstance->Ŷ,isinstance_false_bool->ŋ,isinstance_false_int->æ,isinstance_false_list->Z8,isinstance_false_tuple->ZY,letOwnedTupleGo->Z3,lookupAlong->Š,lookupAlong_cons->i_,mainGlobals->dL,mem_of_lookup->cj,methodCallPos->w!,model->Ζ,name_of_addr->x_,newFunctionEnv->ġ,noteFrame->ê,onTheHeap->ľ,plainId_quiet->ü,pushCells->ZO,pushCells_keeps->Ċ,pyIter->ĝ,raiseStmt->ŀ,rangeSize_one->v?,rawInt->À,refuseLoop_ref->n?,relabel->b?,richCompare->C_,seqIndex?->Õ,seqIndex_neg->ń,seqIndex_of->Ř,seqItems?->g!,setFlight->Ü,sizeLine_eq->Uf,sliceBounds->UF,slot_list_getitem->a_,spliced->ź,standAt->ż,starEach->Ι,storeName->d_,subscripted->A!,swappedStores->p_,swapsWith->ZC,swapsWithSole->ĭ,sysModules->ů,truthy->l?,typeIs_bool->ĸ,typeIs_int->Ğ,typeLookup->GE,typeLookup_eq->w_,typeLookup_type->k?,typeOf->Ņ,unbindBehindTheSuite->ş,valueAt->ZB,wpAny->Β,wpAny_Call_Name_kw->wP,wpAny_Compare1->l!,wpAny_Expr_any->ě,wpAny_Name->ÿ,wpAny_Return_some->Ž,wpAny_Try_except->Ù,wpAny_assign_Name->ž,wpAny_bind->ν,wpAny_call->SC,wpAny_comprehension_free->į,wpAny_execs_cons->ww,wpAny_execs_nil->Db,wpAny_field->UV,wpAny_handleBy_cons->ŭ,wpAny_holding->xL,wpAny_isSubtype_exc->ge,wpAny_letGo->Ć,wpAny_loadName_cell->Ť,wpAny_loadName_local->TD,wpAny_loadPart_at->Ε,wpAny_mono->Θ,wpAny_mroOf_exc->k!,wpAny_newFunctionEnv_cells->KE,wpAny_newObj_type->Ê,wpAny_of_eq->C!,wpAny_passesOwn->Ix,wpAny_pure->Μ,wpAny_pyIter_enum->b!,wpAny_pyIter_list->ZJ,wpAny_pyIter_zip->f_,wpAny_seqItems->ZF,wpAny_setField->ħ,wpAny_standAt->EQ,wpAny_truthy_bool->wS,wpAny_tryCatch->ZG,wpAny_updateSeq->ċ
open PySem.Around renaming frames_deeper->Ē,under_plainId->ZL
open PySem.AutoListH renaming list___mul___list_int_3->y_
open PySem.AutoSeq1 renaming list_extend_list_list_0->B?
open PySem.Bind renaming checkArgs->Ũ
open PySem.Builtin renaming bitAnd->Go,bitOr->ō,bitXor->SB,iter->ul
open PySem.Builtin.Builtins renaming bindParams->ZP
open PySem.Builtin.List renaming listTooLong->GM
open PySem.Builtin.ObjectAttr renaming newKeyGuard->œ,storeInDict->ZI
open PySem.Builtin.Range renaming rangeFitsLong->e?,rangeSize->im,small->Å
open PySem.Calls renaming Constant_str->Z6,Name_function_global->TW,callWith_builtin->ĉ,evalArgs_plain->ğ,loadGlobal_global->ă,spliced_cons->KF,spliced_nil->XV
open PySem.Challenge renaming pw_patchsquare_k24_first_block_refused->Η,rw_patchsquare_k24_first_block_refused->sK
open PySem.Code renaming quiet_builtin->ã
open PySem.Data renaming dict->l_
open PySem.EntryCells renaming newEntry->Û
open PySem.F renaming attrBase_ValueError->Ο,entry_bexc_ga->c!,entry_list_pop->Ų,entry_max_loop->Ë,excBase_ValueError->Ã,plainAttrs_list->cw,plain_max_loop->Fa,slot_gs_get->Ħ,slot_int_rmul->b_,slot_list_append->jr,slot_list_index->jt,slot_list_pop->ć,store_ValueError->Ţ,typeOf_object_class->ZZ
open PySem.Heap renaming FlyingW->wn,HeldW->Ľ,SameBut->đ,get?_none_of_le->PP,get?_push_of_some->τ,get?_push_size->Υ,get?_some_iff->à,get?_update_ne->Ĳ,get?_update_other->Λ,get?_update_self->Ω,lt_size->Α,push->n_,size_push->Op
open PySem.Heap.IsSliceOf renaming new->ſ
open PySem.Heap.Ns1 renaming of_empty->D_
open PySem.IsL renaming update->x?
open PySem.IsRange renaming new->ŧ
open PySem.Manifest renaming signature?->C?
open PySem.MeetsSeq renaming list_pop_at->B_,list_pop_last->A?
open PySem.NameKind renaming cell->zn,free->Χ
open PySem.Obj renaming data_mapFields->KT,isFreed_of_fields->ZQ,mapFields->kw,mapSeq->å
open PySem.Paired renaming length->Ŗ
open PySem.PassesOwn renaming leaving->A_,never->ī
open PySem.SeqAt renaming EqAt->Z7
open PySem.SeqAt.EqAt renaming bool_bool->s_,bool_int->s?,bool_none->r?,bool_str->t_,int_bool->t?,int_int->u_,int_none->t!,int_str->Ā,none_bool->q?,none_int->r_,none_str->r!,same->q!,str_bool->u?,str_int->ā,str_none->u!,str_str->v_
open PySem.Str renaming ofString->rc
open PySem.Value renaming bool->Ch,builtin->na,int->Ψ,isInt->Ź,none->bn,ref->Γ,str->ò,type->GT
open PySem.W renaming Frag->ψ,OpenLaw->ķ,WalkO->ŉ,callWith_K->i3,cellsFrom_some->i7,codeIn->SL,codeRec_of->jh,fnOf->wf,funFrames_hide->Ý,hideAll->pc,hideAll_get->ZM,isNs_of_in->Ĩ,keepIn->kt,methodObj->Z5,mg_of->eo,nsIn->li,nsMap_none_of_in->Ï,nsOkIn->Á,of_hideAll->i0,openGood->ŕ
open PySem.W.Hook renaming obs->ZR,val->ţ
open PySem.W.RowW renaming records->Ÿ
open PySem.W.WData renaming int->i?
open PySem.W.WShape renaming has->a!
open PySem.Walks renaming list->İ
open Std renaming Associative->ũ,Commutative->Ū
open Sum renaming inl->Z0,inr->Z1
abbrev az:=@of_decide_eq_true
abbrev cm:=@decide_eq_false
abbrev cu:=@decide_eq_true
abbrev df:=@decide_eq_true_eq
abbrev dg:=@congrArg
abbrev ek:=@if_true
abbrev fu:=@if_false
abbrev fv:=@of_decide_eq_false
abbrev gu:=@beq_self_eq_true
abbrev ip:=@or_false
abbrev jg:=@beq_iff_eq
section
namespace L2
open PySem PySem.Spec PyProof.Rows
noncomputable def dW (s:Stmt):Arguments:=match s with
 |.FunctionDef _ a _ _ _ _ _ _ _ _=>a
 |_=>{ posonlyargs:=[],args:=[],vararg:=η,kwonlyargs:=[],kw_defaults:=[],kwarg:=η,defaults:=[] }
noncomputable def aV (s:Stmt):List Stmt:=match s with
 |.FunctionDef _ _ b _ _ _ _ _ _ _=>b
 |_=>[]
noncomputable def aB (s:Stmt):Scope:=match s with
 |.FunctionDef _ _ _ _ _ _ sc _ _ _=>sc
 |_=>{ kind:=.function,names:=[],isGenerator:=ε,isCoroutine:=ε }
end L2
end
section
namespace Pc.Hd
open PySem PySem.W L2
noncomputable def sv (x:String)(t:Þ):Value:=.str (rc x) t
noncomputable def kv (P:Ł)(x:String)(t:Þ)(v:Value):DictEntry:=⟨PyData.keyHash P (rc x),sv x t,v⟩
noncomputable def AS:Stmt->Str
 |.FunctionDef n ..=>n
 |_=>rc ""
noncomputable def fo (a:Addr)(s:Stmt)(m c:Value):Addr×Obj:=(a,⟨.type "function",η,.func { name:=AS s,qualname:=AS s,params:=dW s,body:=.stmts (aV s),scope:=aB s,globals:=dL,closure:=[],defaults:=.none,kwdefaults:=.none,pyModule:=m,code:=c },#[]⟩)
noncomputable def co (a:Addr)(vs:Array Value):Addr×Obj:=(a,⟨.type "code",η,.fields vs,#[]⟩)
noncomputable def tu (a:Addr)(vs:Array Value):Addr×Obj:=(a,⟨.type "tuple",η,.seq vs 0,#[]⟩)
noncomputable def di (a:Addr)(es:Array DictEntry)(n:Nat):Addr×Obj:=(a,⟨.type "dict",η,.dict es n,#[]⟩)
noncomputable def cq (a:Addr)(n q:String)(t1 t2 t3:Þ)(l k:Int)(r s:Addr)(x y:Value)(u:Addr)(c:Int)(v:Þ):Addr×Obj:=co a #[sv n t1,sv q t2,sv "/claim/cut.py" t3,.int l 0,.int k 0,.int 0 0,.int 0 0,.int 3 0,.ref r,.bool ζ,.int 181 0,.ref s,.none,x,y,.ref u,.int c 0,.int l 0,sv "/claim/cut.py" v]
noncomputable def ec (a:Addr)(n:String)(m u:Addr)(t v:Þ):Addr×Obj:=(a,{ cls:=.type "type",data:=.cls { name:=rc n,bases:=[.ref 43],mro:=[.ref a,.ref 43,.type "ValueError",.type "Exception",.type "BaseException",.type "object"],ns:=m,qualname:=rc n },slots:=#[θ (.ref u),η,θ (sv n t),θ (sv n v),θ (.builtin "ValueError.__new__"),θ (.bool ζ)] })
noncomputable def mt (s:Stmt)(i:Nat):Stmt:=match s with
 |.ClassDef _ _ _ b ..=>b.getD i (.Pass ⟨0,0,0,0⟩)
 |s=>s
noncomputable def fm (a:Addr)(s:Stmt)(n q:String)(m c:Value):Addr×Obj:=(a,⟨.type "function",η,.func { name:=rc n,qualname:=rc q,params:=dW s,body:=.stmts (aV s),scope:=aB s,globals:=dL,closure:=[],defaults:=.none,kwdefaults:=.none,pyModule:=m,code:=c },#[]⟩)
noncomputable def kd (P:Ł)(a:Addr)(t1 t2 t3:Þ)(l:Int)(t4 t5:Þ)(r:Addr)(t6:Þ):Addr×Obj:=di a #[kv P "__module__" t1 (sv "patchsquare.errors" t2),kv P "__firstlineno__" t3 (.int l t4),kv P "__static_attributes__" t5 (.ref r),kv P "__doc__" t6 .none] 2
end Pc.Hd
end
section
namespace K24
open PySem PySem.Spec PyProof.Rows L2
noncomputable abbrev st (i:Nat):Stmt:=Η.main.body.getD i (.Pass ⟨0,0,0,0⟩)
end K24
namespace K24
open PySem PySem.W Pc.Hd
noncomputable def K (P:Ł):Frag:=[(2,{ cls:=bn,data:=l_ #[] }),
 di 3 #[kv P "__name__" 165 (sv "law_patchsquare_k24_first_block_refused" 649),kv P "__doc__" 166 .none,kv P "__package__" 167 .none,kv P "__loader__" 168 (.builtin "__main__.__loader__#opaque"),kv P "__spec__" 169 .none,kv P "__annotations__" 170 (.ref 6),kv P "__builtins__" 171 (.ref 4),kv P "__file__" 173 (sv "/claim/cut.py" 172),kv P "__cached__" 174 .none,kv P "ROOMS" 204 (.ref 15),kv P "BLOCK_COUNTS" 220 (.ref 16),kv P "block_shapes" 235 (.ref 23),kv P "dealt_rows" 241 (.ref 28),kv P "parted_rows" 247 (.ref 33),kv P "SquareError" 267 (.ref 43),kv P "NoText" 283 (.ref 56),kv P "TooLong" 299 (.ref 68),kv P "NoInverse" 315 (.ref 80),kv P "NoLabel" 331 (.ref 92),kv P "NoMarks" 347 (.ref 104),kv P "NoSquare" 363 (.ref 116),kv P "NoSign" 388 (.ref 135),kv P "NoMend" 413 (.ref 154),kv P "NoPicture" 438 (.ref 173),kv P "GRAINS" 442 (.int 64 441),kv P "FOLD" 444 (.int 67 443),kv P "times_of" 455 (.ref 182),kv P "inverse_of" 462 (.ref 189),kv P "power_of" 473 (.ref 196),kv P "worth_at" 483 (.ref 203),kv P "row_product" 498 (.ref 210),kv P "row_with_noughts" 507 (.ref 217),kv P "code_noughts" 515 (.ref 222),kv P "checks_for" 529 (.ref 229),kv P "is_code" 535 (.ref 234),kv P "mended_row" 543 (.ref 239),kv P "locator_of" 551 (.ref 246),kv P "suspect_places" 557 (.ref 251),kv P "shortest_rule" 571 (.ref 258),kv P "gap_of_rule" 583 (.ref 265),kv P "scaled_row" 589 (.ref 270),kv P "added_rows" 600 (.ref 277),kv P "changed_row" 606 (.ref 282),kv P "distances_product" 616 (.ref 289),kv P "wrapped_grains" 632 (.ref 296),kv P "unwrapped_grains" 638 (.ref 301),kv P "mended_block" 648 (.ref 308),kv P "_law_whole" 657 (.ref 315),kv P "_law_cell" 665 (.ref 322),kv P "_law_mixed" 674 (.ref 329),kv P "_law_row" 680 (.ref 334),kv P "_law_shape" 686 (.ref 339),kv P "_law_spots" 696 (.ref 346),kv P "_law_blocks" 702 (.ref 351),kv P "_law_places" 716 (.ref 358),kv P "_law_refused" 731 (.ref 365),kv P "law" 737 (.ref 370)] 57,
 di 6 #[] 0,
 di 15 #[{ hash:=15,key:=Ψ 15 189,val:=Ψ 16 190 },{ hash:=19,key:=Ψ 19 191,val:=Ψ 37 192 },{ hash:=23,key:=Ψ 23 193,val:=Ψ 64 194 },{ hash:=27,key:=Ψ 27 195,val:=Ψ 96 196 },{ hash:=31,key:=Ψ 31 197,val:=Ψ 133 198 }] 5,
 di 16 #[{ hash:=15,key:=Ψ 15 205,val:=Ψ 1 206 },{ hash:=19,key:=Ψ 19 207,val:=Ψ 1 208 },{ hash:=23,key:=Ψ 23 209,val:=Ψ 2 210 },{ hash:=27,key:=Ψ 27 211,val:=Ψ 2 212 },{ hash:=31,key:=Ψ 31 213,val:=Ψ 3 214 }] 5,
 cq 22 "block_shapes" "block_shapes" 221 222 223 4 2 17 18 (.ref 19) (.ref 20) 21 233 234,
 fo 23 (st 3) (sv "patchsquare.blocks" 187) (.ref 22),
 cq 27 "dealt_rows" "dealt_rows" 236 237 238 14 1 24 25 .none .none 26 239 240,
 fo 28 (st 4) (sv "patchsquare.blocks" 187) (.ref 27),
 cq 32 "parted_rows" "parted_rows" 242 243 244 21 2 29 30 .none .none 31 245 246,
 fo 33 (st 5) (sv "patchsquare.blocks" 187) (.ref 32),
 tu 34 #[(.type "ValueError")],
 tu 41 #[],
 di 42 #[kv P "__module__" 257 (sv "patchsquare.errors" 248),kv P "__firstlineno__" 261 (.int 31 260),kv P "__static_attributes__" 262 (.ref 41),kv P "__weakref__" 264 (.ref 44),kv P "__doc__" 265 .none] 3,
 (43,{ cls:=GT "type",data:=Data.cls { name:=rc "SquareError",bases:=[GT "ValueError"],mro:=[Γ 43,GT "ValueError",GT "Exception",GT "BaseException",GT "object"],ns:=42,qualname:=rc "SquareError",subclasses:=[Γ 56,Γ 68,Γ 80,Γ 92,Γ 104,Γ 116,Γ 135,Γ 154,Γ 173] },slots:=#[θ (Γ 34),η,θ (ò (rc "SquareError") 250),θ (ò (rc "SquareError") 258),θ (na "ValueError.__new__"),θ (Ch ζ)] }),
 (44,{ cls:=GT "getset_descriptor",data:=Data.fields #[ò (rc "__weakref__") 263,Γ 43,na "ExceptionGroup.__weakref__",bn] }),
 tu 47 #[(.ref 43)],
 tu 54 #[],
 kd P 55 275 248 279 33 278 280 54 281,
 ec 56 "NoText" 55 47 268 276,
 tu 59 #[(.ref 43)],
 tu 66 #[],
 kd P 67 291 248 295 35 294 296 66 297,
 ec 68 "TooLong" 67 59 284 292,
 tu 71 #[(.ref 43)],
 tu 78 #[],
 kd P 79 307 248 311 37 310 312 78 313,
 ec 80 "NoInverse" 79 71 300 308,
 tu 83 #[(.ref 43)],
 tu 90 #[],
 kd P 91 323 248 327 39 326 328 90 329,
 ec 92 "NoLabel" 91 83 316 324,
 tu 95 #[(.ref 43)],
 tu 102 #[],
 kd P 103 339 248 343 41 342 344 102 345,
 ec 104 "NoMarks" 103 95 332 340,
 tu 107 #[(.ref 43)],
 tu 114 #[],
 kd P 115 355 248 359 43 358 360 114 361,
 ec 116 "NoSquare" 115 107 348 356,
 tu 119 #[(.ref 43)],
 cq 131 "__init__" "NoSign.__init__" 376 377 378 47 2 126 127 (.ref 128) (.ref 129) 130 381 382,
 fm 132 (mt (st 14) 0) "__init__" "NoSign.__init__" (sv "patchsquare.errors" 248) (.ref 131),
 tu 133 #[(sv "place" 384)],
 di 134 #[kv P "__module__" 371 (sv "patchsquare.errors" 248),kv P "__firstlineno__" 375 (.int 45 374),kv P "__init__" 383 (.ref 132),kv P "__static_attributes__" 385 (.ref 133),kv P "__doc__" 386 .none] 2,
 ec 135 "NoSign" 134 119 364 372,
 tu 138 #[(.ref 43)],
 cq 150 "__init__" "NoMend.__init__" 401 402 403 52 2 145 146 (.ref 147) (.ref 148) 149 406 407,
 fm 151 (mt (st 15) 0) "__init__" "NoMend.__init__" (sv "patchsquare.errors" 248) (.ref 150),
 tu 152 #[(sv "block" 409)],
 di 153 #[kv P "__module__" 396 (sv "patchsquare.errors" 248),kv P "__firstlineno__" 400 (.int 50 399),kv P "__init__" 408 (.ref 151),kv P "__static_attributes__" 410 (.ref 152),kv P "__doc__" 411 .none] 2,
 ec 154 "NoMend" 153 138 389 397,
 tu 157 #[(.ref 43)],
 cq 169 "__init__" "NoPicture.__init__" 426 427 428 57 2 164 165 (.ref 166) (.ref 167) 168 431 432,
 fm 170 (mt (st 16) 0) "__init__" "NoPicture.__init__" (sv "patchsquare.errors" 248) (.ref 169),
 tu 171 #[(sv "row" 434)],
 di 172 #[kv P "__module__" 421 (sv "patchsquare.errors" 248),kv P "__firstlineno__" 425 (.int 55 424),kv P "__init__" 433 (.ref 170),kv P "__static_attributes__" 435 (.ref 171),kv P "__doc__" 436 .none] 2,
 ec 173 "NoPicture" 172 157 414 422,
 cq 181 "times_of" "times_of" 445 446 447 63 2 176 177 (.ref 178) (.ref 179) 180 453 454,
 fo 182 (st 20) (sv "patchsquare.field" 439) (.ref 181),
 cq 188 "inverse_of" "inverse_of" 456 457 458 75 1 183 184 (.ref 185) (.ref 186) 187 460 461,
 fo 189 (st 21) (sv "patchsquare.field" 439) (.ref 188),
 cq 195 "power_of" "power_of" 463 464 465 79 2 190 191 (.ref 192) (.ref 193) 194 471 472,
 fo 196 (st 22) (sv "patchsquare.field" 439) (.ref 195),
 cq 202 "worth_at" "worth_at" 474 475 476 89 2 197 198 (.ref 199) (.ref 200) 201 481 482,
 fo 203 (st 23) (sv "patchsquare.field" 439) (.ref 202),
 cq 209 "row_product" "row_product" 486 487 488 95 2 204 205 (.ref 206) (.ref 207) 208 496 497,
 fo 210 (st 25) (sv "patchsquare.rows" 484) (.ref 209),
 cq 216 "row_with_noughts" "row_with_noughts" 499 500 501 101 1 211 212 (.ref 213) (.ref 214) 215 505 506,
 fo 217 (st 26) (sv "patchsquare.rows" 484) (.ref 216),
 cq 221 "code_noughts" "code_noughts" 510 511 512 107 1 218 219 .none .none 220 513 514,
 fo 222 (st 28) (sv "patchsquare.checks" 508) (.ref 221),
 cq 228 "checks_for" "checks_for" 516 517 518 109 2 223 224 (.ref 225) (.ref 226) 227 527 528,
 fo 229 (st 29) (sv "patchsquare.checks" 508) (.ref 228),
 cq 233 "is_code" "is_code" 530 531 532 117 2 230 231 .none .none 232 533 534,
 fo 234 (st 30) (sv "patchsquare.checks" 508) (.ref 233),
 cq 238 "mended_row" "mended_row" 538 539 540 120 3 235 236 .none .none 237 541 542,
 fo 239 (st 32) (sv "patchsquare.mending" 536) (.ref 238),
 cq 245 "locator_of" "locator_of" 544 545 546 130 2 240 241 (.ref 242) (.ref 243) 244 549 550,
 fo 246 (st 33) (sv "patchsquare.mending" 536) (.ref 245),
 cq 250 "suspect_places" "suspect_places" 552 553 554 132 3 247 248 .none .none 249 555 556,
 fo 251 (st 34) (sv "patchsquare.mending" 536) (.ref 250),
 cq 257 "shortest_rule" "shortest_rule" 558 559 560 138 1 252 253 (.ref 254) (.ref 255) 256 569 570,
 fo 258 (st 35) (sv "patchsquare.mending" 536) (.ref 257),
 cq 264 "gap_of_rule" "gap_of_rule" 572 573 574 155 3 259 260 (.ref 261) (.ref 262) 263 581 582,
 fo 265 (st 36) (sv "patchsquare.mending" 536) (.ref 264),
 cq 269 "scaled_row" "scaled_row" 584 585 586 160 2 266 267 .none .none 268 587 588,
 fo 270 (st 37) (sv "patchsquare.mending" 536) (.ref 269),
 cq 276 "added_rows" "added_rows" 590 591 592 162 2 271 272 (.ref 273) (.ref 274) 275 598 599,
 fo 277 (st 38) (sv "patchsquare.mending" 536) (.ref 276),
 cq 281 "changed_row" "changed_row" 601 602 603 167 3 278 279 .none .none 280 604 605,
 fo 282 (st 39) (sv "patchsquare.mending" 536) (.ref 281),
 cq 288 "distances_product" "distances_product" 607 608 609 175 2 283 284 (.ref 285) (.ref 286) 287 614 615,
 fo 289 (st 40) (sv "patchsquare.mending" 536) (.ref 288),
 cq 295 "wrapped_grains" "wrapped_grains" 619 620 621 182 3 290 291 (.ref 292) (.ref 293) 294 630 631,
 fo 296 (st 42) (sv "patchsquare.wrapping" 617) (.ref 295),
 cq 300 "unwrapped_grains" "unwrapped_grains" 633 634 635 190 4 297 298 .none .none 299 636 637,
 fo 301 (st 43) (sv "patchsquare.wrapping" 617) (.ref 300),
 cq 307 "mended_block" "mended_block" 639 640 641 203 4 302 303 (.ref 304) (.ref 305) 306 646 647,
 fo 308 (st 44) (sv "patchsquare.wrapping" 617) (.ref 307),
 cq 314 "_law_whole" "_law_whole" 651 652 653 209 1 309 310 (.ref 311) (.ref 312) 313 655 656,
 fo 315 (st 46) (sv "law_patchsquare_k24_first_block_refused" 649) (.ref 314),
 cq 321 "_law_cell" "_law_cell" 658 659 660 211 2 316 317 (.ref 318) (.ref 319) 320 663 664,
 fo 322 (st 47) (sv "law_patchsquare_k24_first_block_refused" 649) (.ref 321),
 cq 328 "_law_mixed" "_law_mixed" 666 667 668 215 2 323 324 (.ref 325) (.ref 326) 327 672 673,
 fo 329 (st 48) (sv "law_patchsquare_k24_first_block_refused" 649) (.ref 328),
 cq 333 "_law_row" "_law_row" 675 676 677 218 2 330 331 .none .none 332 678 679,
 fo 334 (st 49) (sv "law_patchsquare_k24_first_block_refused" 649) (.ref 333),
 cq 338 "_law_shape" "_law_shape" 681 682 683 223 1 335 336 .none .none 337 684 685,
 fo 339 (st 50) (sv "law_patchsquare_k24_first_block_refused" 649) (.ref 338),
 cq 345 "_law_spots" "_law_spots" 687 688 689 234 1 340 341 (.ref 342) (.ref 343) 344 694 695,
 fo 346 (st 51) (sv "law_patchsquare_k24_first_block_refused" 649) (.ref 345),
 cq 350 "_law_blocks" "_law_blocks" 697 698 699 241 2 347 348 .none .none 349 700 701,
 fo 351 (st 52) (sv "law_patchsquare_k24_first_block_refused" 649) (.ref 350),
 cq 357 "_law_places" "_law_places" 703 704 705 247 4 352 353 (.ref 354) (.ref 355) 356 714 715,
 fo 358 (st 53) (sv "law_patchsquare_k24_first_block_refused" 649) (.ref 357),
 cq 364 "_law_refused" "_law_refused" 717 718 719 254 5 359 360 (.ref 361) (.ref 362) 363 729 730,
 fo 365 (st 54) (sv "law_patchsquare_k24_first_block_refused" 649) (.ref 364),
 cq 369 "law" "law" 732 733 734 265 1 366 367 .none .none 368 735 736,
 fo 370 (st 55) (sv "law_patchsquare_k24_first_block_refused" 649) (.ref 369)]
noncomputable def as:List Addr:=[2,3,6,15,16,22,23,27,28,32,33,34,41,42,43,44,47,54,55,56,59,66,67,68,71,78,79,80,83,90,91,92,95,102,103,104,107,114,115,116,119,131,132,133,134,135,138,150,151,152,153,154,157,169,170,171,172,173,181,182,188,189,195,196,202,203,209,210,216,217,221,222,228,229,233,234,238,239,245,246,250,251,257,258,264,265,269,270,276,277,281,282,288,289,295,296,300,301,307,308,314,315,321,322,328,329,333,334,338,339,345,346,350,351,357,358,364,365,369,370]
noncomputable def Q:Program:={ Η with main:={ Η.main with body:=[st 1,st 2,st 3,st 4,st 5,st 7,st 8,st 9,st 10,st 11,st 12,st 13,st 14,st 15,st 16,st 18,st 19,st 20,st 21,st 22,st 23,st 25,st 26,st 28,st 29,st 30,st 32,st 33,st 34,st 35,st 36,st 37,st 38,st 39,st 40,st 42,st 43,st 44,st 46,st 47,st 48,st 49,st 50,st 51,st 52,st 53,st 54,st 55] } }
noncomputable def H:Hook:=kHook K as (λ_=>rfl)
open PyProof.Rows
theorem Yn {α β γ:Type}{o:Option α}{f:α->β×γ}{a:β×γ}(h:o.map (λs=>(f s).1)=θ a.1)(h':o.map (λs=>(f s).2)=θ a.2):o.map f=θ a:=by
 cases o with
 |none=>cases h
 |some s=>exact congrArg θ (Prod.ext (dz h) (dz h'))
theorem Tq {α β γ δ:Type}{o:Option δ}{t:δ->Option α}{f:α->β×γ}{a:β×γ}(h:o.map (λx=>(t x).map (λs=>(f s).1))=θ (θ a.1))(h':o.map (λx=>(t x).map (λs=>(f s).2))=θ (θ a.2)):o.map (λx=>(t x).map f)=θ (θ a):=by
 cases o with
 |none=>cases h
 |some s=>exact congrArg θ (Yn (dz h) (dz h'))
abbrev QY (w:Ξ):=fencedOpening treeTable Η w 7068
abbrev PH (b:Bool) (w:Ξ):=topFrom treeTable Η (w.withFollow "special-get-raises" b) 7068
noncomputable abbrev PM (s:μ):=openSeen Q ["ROOMS","BLOCK_COUNTS"] (importedModules Η.main.body) (λs=>xlAt K24.Q [] s&&recOk (Ÿ sK.row.toRowW) s) ζ s
theorem leA (w:Ξ):(QY w).map (λx=>(PH ε w x).map (λs=>(PM s).1))=θ (θ (ŕ Q ["ROOMS","BLOCK_COUNTS"]).1):=by kernel_rfl
theorem leB (w:Ξ):(QY w).map (λx=>(PH ε w x).map (λs=>(PM s).2))=θ (θ (ŕ Q ["ROOMS","BLOCK_COUNTS"]).2):=by kernel_rfl
theorem leC (w:Ξ):(QY w).map (λx=>(PH ε w x).map (ZR H))=θ (θ (ţ H (w.withFollow "special-get-raises" ε))):=by kernel_rfl
theorem leE (w:Ξ):(QY w).map (λx=>(PH ζ w x).map (λs=>(PM s).1))=θ (θ (ŕ Q ["ROOMS","BLOCK_COUNTS"]).1):=by kernel_rfl
theorem leF (w:Ξ):(QY w).map (λx=>(PH ζ w x).map (λs=>(PM s).2))=θ (θ (ŕ Q ["ROOMS","BLOCK_COUNTS"]).2):=by kernel_rfl
theorem leG (w:Ξ):(QY w).map (λx=>(PH ζ w x).map (ZR H))=θ (θ (ţ H (w.withFollow "special-get-raises" ζ))):=by kernel_rfl
theorem left:LeftO Η Q ["ROOMS","BLOCK_COUNTS"] (λs=>xlAt K24.Q [] s&&recOk (Ÿ sK.row.toRowW) s) (ZR H) (ţ H) 7068:=LeftO.of_split "special-get-raises" λw=>Yn (f:=λx=>((PH ε w x).map (λs=>(PM s,ZR H s)),(PH ζ w x).map (λs=>(PM s,ZR H s)))) (Tq (f:=λs=>(PM s,ZR H s)) (Tq (leA w) (leB w)) (leC w)) (Tq (f:=λs=>(PM s,ZR H s)) (Tq (leE w) (leF w)) (leG w))
end K24
end
section
namespace L2
open PySem PySem.Spec PyProof.Rows
noncomputable abbrev Key:=Sum Int Str
noncomputable def yf:Key->Value->Bool
 |.inl k,v=>Ź k v
 |.inr x,v=>Value.isStrOf x v
noncomputable def U2 (w:Ξ):Key->Int
 |.inl k=>hashInt k
 |.inr x=>hashStr w x
theorem bO:∀{k:Key}{v:Value},yf k v=ζ->(∃i t,k=Z0 i/\v=Ψ i t)\/(∃x t,k=Z1 x/\v=ò x t)
 |.inl i,v,h=>by
  obtain⟨t,e⟩:=Value.isInt_shape (k:=i) (v:=v) h;exact .inl ⟨i,t,rfl,e⟩
 |.inr x,v,h=>by
  obtain⟨t,e⟩:=Value.isStrOf_shape (x:=x) (v:=v) h;exact .inr ⟨x,t,rfl,e⟩
theorem zQ (i:Int)(t:Þ):yf (.inl i) (.int i t)=ζ:=by simp[yf,Ź]
theorem Gk (a b:Int):decide ((Z0 a:Key)=Z0 b)=(a==b):=by
 by_cases e:a=b
 .subst e;simp
 .have h:¬ (Z0 a:Key)=Z0 b:=λq=>e (Sum.inl.inj q)
  rw[cm h];exact (beq_eq_false_iff_ne.mpr e).symm
theorem Hz (a b:Str):decide ((Z1 a:Key)=Z1 b)=decide (a=b):=by
 by_cases e:a=b
 .subst e;simp
 .have h:¬ (Z1 a:Key)=Z1 b:=λq=>e (Sum.inr.inj q)
  rw[cm h,cm e]
theorem G5 (a:Int)(b:Str):decide ((Z0 a:Key)=Z1 b)=ε:=cm (λq=>nomatch q)
theorem HM (a:Str)(b:Int):decide ((Z1 a:Key)=Z0 b)=ε:=cm (λq=>nomatch q)
noncomputable def bX (prog:Program)(w:Ξ):PySem.KeyKind prog w Key where
 is:=yf
 hash:=U2 w
 inj:=λv a b ha hb=>by
  rcases bO ha with ⟨i,t,rfl,rfl⟩|⟨x,t,rfl,rfl⟩
  .rcases bO hb with ⟨j,u,rfl,e⟩|⟨y,u,rfl,e⟩
   .injection e with e1 _;rw[e1]
   .exact nomatch e
  .rcases bO hb with ⟨j,u,rfl,e⟩|⟨y,u,rfl,e⟩
   .exact nomatch e
   .injection e with e1 _;rw[e1]
 byValue:=λk v h=>by
  rcases bO h with ⟨i,t,rfl,rfl⟩|⟨x,t,rfl,rfl⟩<;>rfl
 pyHash:=λhv h=>by
  rcases bO hv with ⟨i,t,rfl,rfl⟩|⟨x,t,rfl,rfl⟩
  .exact wpAny_pyHash_int h
  .exact wpAny_pyHash_str h
 eqBool:=λhu hv h=>by
  rcases bO hu with ⟨i,t,rfl,rfl⟩|⟨x,t,rfl,rfl⟩
  .rcases bO hv with ⟨j,u,rfl,rfl⟩|⟨y,u,rfl,rfl⟩
   .rw[Gk] at h;exact wpAny_eqBool_int h
   .rw[G5] at h;exact Ā i t y u _ _ _ _ h
  .rcases bO hv with ⟨j,u,rfl,rfl⟩|⟨y,u,rfl,rfl⟩
   .rw[HM] at h;exact ā x t j u _ _ _ _ h
   .rw[Hz] at h;exact wpAny_eqBool_str h
 «strs»:=λk x t v h=>by
  rcases bO h with ⟨i,u,rfl,e⟩|⟨y,u,rfl,e⟩
  .exact nomatch e
  .injection e with e1 _
   subst e1;cases v<;>rfl
theorem m7 (prog:Program)(w:Ξ)(i:Int)(t:Þ):(bX prog w).is (.inl i) (.int i t)=ζ:=zQ i t
end L2
namespace L2
open PySem PySem.Spec PyProof.Rows
inductive V where
 |Mh|bl (b:Bool)|int (i:Int)|str (x:Str)|SM (b:Array UInt8)|Wu (b:UInt64)|ref (a:Addr)|ty (n:String)
 deriving DecidableEq
noncomputable def RelV:V->Value->Prop
 |.Mh,u=>u=bn
 |.bl b,u=>u=Ch b
 |.int i,u=>∃t,u=Ψ i t
 |.str x,u=>∃t,u=ò x t
 |.SM b,u=>∃t,u=Value.bytes b t
 |.Wu b,u=>∃t,u=Value.float b t
 |.ref a,u=>u=Γ a
 |.ty n,u=>u=GT n
noncomputable abbrev aK:List V->List Value->Prop:=Ů RelV
theorem aK.length {xs:List V}{us:List Value}(r:aK xs us):xs.length=us.length:=Ŗ r
theorem aK.get:∀{xs:List V}{us:List Value}{i:Nat}{x:V},aK xs us->xs[i]? = θ x->∃u,us[i]? = θ u/\RelV x u
 |_,_,_,_,.nil,e=>by simp at e
 |_,_,0,_,.cons r _,e=>by simp at e;subst e;exact⟨_,rfl,r⟩
 |_,_,i+1,x,.cons _ t,e=>by
  obtain⟨u,h1,h2⟩:=aK.get (i:=i) (x:=x) t (by simpa using e);exact⟨u,by simpa using h1,h2⟩
theorem aK.set {x:V}{u:Value}(r:RelV x u):∀{xs:List V}{us:List Value}(i:Nat),aK xs us->aK (xs.set i x) (us.set i u)
 |_,_,_,.nil=>.nil
 |_,_,0,.cons _ t=>.cons r t
 |_,_,i+1,.cons q t=>.cons q (aK.set r i t)
theorem aK.append:∀{xs ys:List V}{us ws:List Value},aK xs us->aK ys ws->aK (xs++ys) (us++ws)
 |_,_,_,_,.nil,s=>s
 |_,_,_,_,.cons r t,s=>.cons r (aK.append t s)
theorem aK.take:∀{xs:List V}{us:List Value}(n:Nat),aK xs us->aK (xs.take n) (us.take n)
 |_,_,0,_=>.nil
 |_,_,_+1,.nil=>.nil
 |_,_,n+1,.cons r t=>.cons r (aK.take n t)
theorem aK.drop:∀{xs:List V}{us:List Value}(n:Nat),aK xs us->aK (xs.drop n) (us.drop n)
 |_,_,0,r=>r
 |_,_,_+1,.nil=>.nil
 |_,_,n+1,.cons _ t=>aK.drop n t
noncomputable def KH:Option V->Option Value->Prop
 |some v,θ u=>RelV v u
 |none,η=>True
 |_,_=>False
def KV {κ:Type}:List (κ×V)->List (κ×Value)->Prop:=Ů λ(p:κ×V) (q:κ×Value)=>p.1=q.1/\RelV p.2 q.2
noncomputable def kV:Key->V
 |.inl i=>.int i
 |.inr x=>.str x
inductive HO where
 |lst (xs:List V)
 |tup (xs:List V)
 |dK (kvs:List (Key×V))|dT (kvs:List (List Key×V))
 |set (S:Int->Bool) (n:Nat)
 |ins (C dx:Addr) (fs:List (Str×V))
 |own (x:Addr)
 |xd (fs:List (Str×V))
 |met (f x:Addr)
 |Td (lo hi:Int)
 |Om (o:Obj) (u:HO)
 |PJ (ps:Array Value)
 |ext (φ:Heap->Prop)
noncomputable abbrev Hp:=Addr->Option HO
noncomputable def upd (H:Hp)(a:Addr)(o:HO):Hp:=λb=>if b=a then θ o else H b
variable {H:Hp}{a:Addr}{o:HO}
theorem aZ:upd H a o a=θ o:=by unfold upd;rw[if_pos rfl]
variable {b:Addr}
theorem aL (h:b≠a):upd H a o b=H b:=by unfold upd;rw[if_neg h]
theorem bS (h:H a=θ o)(h':H b=η):a≠b:=by
 intro e;subst e;rw[h] at h';cases h'
section
variable (P:Program)(w:Ξ)
noncomputable def dN (H:Hp)(h:Heap)(a:Addr):HO->Prop
 |.lst xs=>xs.length<=sizeLine/\∃(aH:List Value) (n:Nat),aK xs aH/\h.get? a=θ { cls:=.type "list",data:=.seq aH.toArray n }
 |.tup xs=>xs.length<=sizeLine/\∃aH:List Value,aK xs aH/\IsTup h a aH.toArray
 |.dK kvs=>kvs.length<=sizeLine/\(a==ů)=ε/\∃vs,KV kvs vs/\h.DictOf (bX P w) a vs
 |.dT kvs=>kvs.length<=sizeLine/\(a==ů)=ε/\∃xs:List (List Key×Addr×Value),
   Ů (λ(p:List Key×V) (q:List Key×Addr×Value)=>p.1=q.1/\H q.2.1=θ (.tup (p.1.map kV))/\RelV p.2 q.2.2) kvs xs /\
   ∃o es ep,h.get? a=θ o/\o.ExactDict/\o.data=.dict es ep/\es.toList=xs.map (entryOfKey (tupleKind (bX P w)))/\(xs.map (·.1)).Nodup
 |.set S n=>h.SetOf (intKind P w) a S n
 |.ins C dx fs=>H dx=θ (.own a)/\fs.length<=1000/\dx≠a/\h.get? a=θ (PySem.W.instObj C dx) /\
   ∃mA,h.Ns1 dx mA/\(∀f,KH (fs.lookup f) (mA f))/\PySem.Within mA (fs.map (·.1))
 |.own _=>∃o,h.get? a=θ o
 |.xd fs=>∃mA,h.Ns1 a mA/\∀f,KH (fs.lookup f) (mA f)
 |.Td lo hi=>∃t u v,h.get? a=θ { cls:=.type "range",data:=.fields #[.int lo t,.int hi u,.int 1 v] }
 |.Om o u=>h.get? a=θ o/\dN H h a u
 |.PJ ps=>h.get? a=θ { cls:=.none,data:=.fields ps }
 |.met f x=>h.get? a=θ (Z5 (.ref f) (.ref x))
 |.ext φ=>φ h/\(∃o,h.get? a=θ o)/\∀h1 h2:Heap,φ h1->(∀o,h1.get? a=θ o->h2.get? a=θ o)->φ h2
def lR (H:Hp)(h:Heap):Prop:=∀a o,H a=θ o->dN P w H h a o
end
section
variable {P:Program}{w:Ξ}{H H':Hp}{h h':Heap}{a:Addr}{o:HO}
theorem dN.lt (x:dN P w H h a o):a<h.objs.size:=by
 cases o with
 |lst xs=>obtain⟨_,_,_,_,e⟩:=x;exact Α e
 |tup xs=>obtain⟨_,_,_,p⟩:=x;exact p.lt
 |dK kvs=>obtain⟨_,_,_,_,o,_,_,e,_⟩:=x;exact Α e
 |dT kvs=>obtain⟨_,_,_,_,o,_,_,e,_⟩:=x;exact Α e
 |set S n=>obtain⟨o,_,_,_,e,_⟩:=x;exact Α e
 |ins C dx fs=>obtain⟨_,_,_,e,_⟩:=x;exact Α e
 |own y=>obtain⟨_,e⟩:=x;exact Α e
 |xd fs=>obtain⟨_,⟨_,_,_,e,_⟩,_⟩:=x;exact Α e
 |Td lo hi=>obtain⟨_,_,_,e⟩:=x;exact Α e
 |Om ob u=>obtain⟨e,_⟩:=x;exact Α e
 |PJ ps=>exact Α (show h.get? a=θ _ from x)
 |met f y=>exact Α (show h.get? a=θ _ from x)
 |ext φ=>obtain⟨_,⟨_,e⟩,_⟩:=x;exact Α e
theorem Paired.RN {α β:Type}{F G:α->β->Prop}:∀{l₁:List α}{l₂:List β},Ů F l₁ l₂->(∀a b,F a b->G a b)->Ů G l₁ l₂
 |_,_,.nil,_=>.nil
 |_,_,.cons r t,f=>.cons (f _ _ r) (Paired.RN t f)
theorem dN.MK (x:dN P w H h a o)(k:∀b u,(b=a\/H b=θ (.own a))->h.get? b=θ u->h'.get? b=θ u)
  (ho:∀b,H b=θ (.own a)->H' b=θ (.own a)) (ht:∀b xs,H b=θ (.tup xs)->H' b=θ (.tup xs)):dN P w H' h' a o:=by
 induction o with
 |lst xs=>obtain⟨z,aH,n,r,e⟩:=x;exact⟨z,aH,n,r,k _ _ (.inl rfl) e⟩
 |tup xs=>obtain⟨z,aH,r,ob,e,c⟩:=x;exact⟨z,aH,r,ob,k _ _ (.inl rfl) e,c⟩
 |dK kvs=>obtain⟨z,y,vs,r,ob,es,ep,e,c⟩:=x;exact⟨z,y,vs,r,ob,es,ep,k _ _ (.inl rfl) e,c⟩
 |dT kvs=>
  obtain⟨z,y,xs,r,ob,es,ep,e,c⟩:=x;exact⟨z,y,xs,Paired.RN r λp q z=>⟨z.1,ht _ _ z.2.1,z.2.2⟩,ob,es,ep,k _ _ (.inl rfl) e,c⟩
 |set S n=>obtain⟨ob,es,ep,t,e,c⟩:=x;exact⟨ob,es,ep,t,k _ _ (.inl rfl) e,c⟩
 |ins C dx fs=>
  obtain⟨d,z,ne,e,mA,⟨od,es,ep,e2,c⟩,r⟩:=x;exact⟨ho _ d,z,ne,k _ _ (.inl rfl) e,mA,⟨od,es,ep,k _ _ (.inr d) e2,c⟩,r⟩
 |own y=>obtain⟨ob,e⟩:=x;exact⟨ob,k _ _ (.inl rfl) e⟩
 |xd fs=>obtain⟨mA,⟨od,es,ep,e,c⟩,r⟩:=x;exact⟨mA,⟨od,es,ep,k _ _ (.inl rfl) e,c⟩,r⟩
 |Td lo hi=>obtain⟨t,u,v,e⟩:=x;exact⟨t,u,v,k _ _ (.inl rfl) e⟩
 |Om ob u ih=>obtain⟨e,q⟩:=x;exact⟨k _ _ (.inl rfl) e,ih q⟩
 |PJ ps=>
  have e:h.get? a=θ { cls:=.none,data:=.fields ps }:=x;show h'.get? a=θ { cls:=.none,data:=.fields ps };exact k a _ (.inl rfl) e
 |met f y=>
  have e:h.get? a=θ (Z5 (.ref f) (.ref y)):=x;show h'.get? a=θ (Z5 (.ref f) (.ref y));exact k a _ (.inl rfl) e
 |ext φ=>obtain⟨p,⟨o,e⟩,st⟩:=x;exact⟨st _ _ p λo q=>k _ _ (.inl rfl) q,⟨o,k _ _ (.inl rfl) e⟩,st⟩
theorem lR.lt (x:lR P w H h)(e:H a=θ o):a<h.objs.size:=(x a o e).lt
theorem lR.fresh (x:lR P w H h)(e:h.objs.size<=a):H a=η:=by
 cases q:H a with
 |none=>rfl
 |some u=>exact absurd (av (x.lt q) e) (fe _)
theorem lR.kept (x:lR P w H h)(k:∀b u,h.get? b=θ u->h'.get? b=θ u):lR P w H h':=λa o e=>
 (x a o e).MK (λb u _ q=>k b u q) (λ_ q=>q) λ_ _ q=>q
theorem lR.laid (x:lR P w H h)(k:∀b u,h.get? b=θ u->h'.get? b=θ u)(hp:h.objs.size<=a)(new:dN P w (upd H a o) h' a o):lR P w (upd H a o) h':=λb u e=>by
 have hn:=x.fresh hp;by_cases hb:b=a
 .subst hb;rw[aZ] at e;cases e;exact new
 .rw[aL hb] at e;exact (x b u e).MK (λc v _ q=>k c v q) (λc q=>by rw[aL (bS q hn)];exact q) λc xs q=>by rw[aL (bS q hn)];exact q
end
def Rd (H:Hp)(a:Addr)(u:HO):Prop:=H a=θ u\/∃o,H a=θ (.Om o u)
variable {h:Heap}
theorem Rd.ok {P:Program}{w:Ξ}{u:HO}(r:Rd H a u)(x:lR P w H h):dN P w H h a u:=by
 rcases r with r|⟨o,r⟩
 .exact x a u r
 .obtain⟨_,q⟩:=x a _ r;exact q
noncomputable def vo:Option HO->Prop
 |some (.lst _)=>True
 |some (.dK _)=>True
 |some (.dT _)=>True
 |some (.set _ _)=>True
 |some (.ins _ _ _)=>True
 |some (.ext _)=>True
 |_=>False
section
variable {P:Program}{w:Ξ}{H:Hp}{h h':Heap}{x e:Addr}{o':HO}
theorem lR.write (ok:lR P w H h)(mu:vo (H x))(he:e=x\/H e=θ (.own x))(k:∀b u,b≠e->h.get? b=θ u->h'.get? b=θ u)(Q5:∃u,h'.get? e=θ u)
  (new:dN P w (upd H x o') h' x o'):lR P w (upd H x o') h':=λb u q=>by
 have RA:∀c y,H c=θ (.own y)->c≠x:=λc y r z=>by subst z;rw[r] at mu;exact mu
 have UM:∀c xs,H c=θ (.tup xs)->c≠x:=λc xs r z=>by subst z;rw[r] at mu;exact mu
 by_cases hb:b=x
 .subst hb;rw[aZ] at q;cases q;exact new
 .rw[aL hb] at q;by_cases Pd:b=e
  .have q':H b=θ (.own x):=by
    rcases he with z|z
    .exact absurd (Pd.trans z) hb
    .rw[Pd];exact z
   rw[q] at q';cases q';obtain⟨v,hv⟩:=Q5;exact⟨v,by rw[Pd];exact hv⟩
  .refine (ok b u q).MK (λc v hc r=>k c v ?_ r) (λc r=>by rw[aL (RA c b r)];exact r) λc xs r=>by rw[aL (UM c xs r)];exact r
   rcases hc with rfl|hc
   .exact Pd
   .rintro rfl;rcases he with z|z
    .exact RA c b hc z
    .rw[hc] at z;cases z;exact hb rfl
end
structure Un (fs ex:List Addr)(H H':Hp)(h h':Heap):Prop where
 keep:∀b o,h.get? b=θ o->H b=η->b∉fs->b∉ex->h'.get? b=θ o
 slot:∀b o,h.get? b=θ o->H b=η->b∈fs->b∉ex->∃sl,h'.get? b=θ { o with slots:=sl }
 free:∀b o,h.get? b=θ o->H b=η->b∉ex->H' b=η
 there:∀b o,h.get? b=θ o->b∉ex->∃o',h'.get? b=θ o'
 MY:∀b xs,H b=θ (.tup xs)->H' b=θ (.tup xs)
 MV:∀b o u,H b=θ (.Om o u)->H' b=θ (.Om o u)
 MZ:∀b ps,H b=θ (.PJ ps)->∃more,H' b=θ (.PJ (ps++more))
section
variable {fs SD ex ex':List Addr}{H H1 H2:Hp}{h h1 h2 h':Heap}{a x e:Addr}{o:HO}
theorem Un.any (u:Un fs ex H H1 h h1){ob:Obj}(q:h.get? b=θ ob)(n:H b=η)(hx:b∉ex):∃sl,h1.get? b=θ { ob with slots:=sl }:=by
 by_cases hb:b∈fs
 .exact u.slot b ob q n hb hx
 .exact⟨ob.slots,u.keep b ob q n hb hx⟩
theorem Un.kept (k:∀b u,h.get? b=θ u->h'.get? b=θ u):Un fs ex H H h h' :=
 ⟨λb ob q _ _ _=>k b ob q,λb ob q _ _ _=>⟨ob.slots,k b ob q⟩,λ_ _ _ n _=>n,λb ob q _=>⟨ob,k b ob q⟩,λ_ _ q=>q,λ_ _ _ q=>q,λ_ ps q=>⟨#[],by rw[q];simp⟩⟩
theorem Un.refl:Un fs ex H H h h:=Un.kept λ_ _ q=>q
theorem Un.laid (k:∀b u,h.get? b=θ u->h'.get? b=θ u)(hp:h.objs.size<=a)(hn:H a=η):Un fs ex H (upd H a o) h h' where
 keep:=λb u q _ _ _=>k b u q
 slot:=λb u q _ _ _=>⟨u.slots,k b u q⟩
 free:=λb u q n _=>by rw[aL (a8 (av (Α q) hp))];exact n
 there:=λb u q _=>⟨u,k b u q⟩
 MY:=λb xs q=>by rw[aL (bS q hn)];exact q
 MV:=λb u xs q=>by rw[aL (bS q hn)];exact q
 MZ:=λb ps q=>⟨#[],by rw[aL (bS q hn),q];simp⟩
theorem Un.write (mu:vo (H x))(he:e=x\/H e=θ (.own x))(k:∀b u,b≠e->h.get? b=θ u->h'.get? b=θ u)(Q5:∃u,h'.get? e=θ u):Un fs ex H (upd H x o) h h':=by
 have hx:∀b,H b=η->b≠x:=λb n z=>by subst z;rw[n] at mu;exact mu
 have hb:∀b,H b=η->b≠e:=λb n z=>by
  subst z;rcases he with r|r
  .exact hx b n r
  .rw[n] at r;cases r
 have hm:∀b u,H b=θ u->¬ vo (θ u)->b≠x:=λb u q nm z=>by subst z;rw[q] at mu;exact nm mu
 refine⟨λb u q n _ _=>k b u (hb b n) q,λb u q n _ _=>⟨u.slots,k b u (hb b n) q⟩,λb u q n _=>by rw[aL (hx b n)];exact n,λb u q _=>?_,
  λb xs q=>by rw[aL (hm b _ q λz=>z)];exact q,λb u xs q=>by rw[aL (hm b _ q λz=>z)];exact q,λb ps q=>⟨#[],by rw[aL (hm b _ q λz=>z),q];simp⟩⟩
 by_cases Pd:b=e
 .subst Pd;exact Q5
 .exact⟨u,k b u Pd q⟩
end
noncomputable def S4 (h:Heap)(H:Hp):List Addr:=(ρ h.objs.size).filter λa=>(H a).isSome
noncomputable def rH (h:Heap)(H:Hp):Heap:=pc h (S4 h H)
theorem zd (h:Heap)(H:Hp):(rH h H).objs.size=h.objs.size:=PySem.W.hideAll_size _ _
theorem Cg {o:Obj}(e:h.get? b=θ o)(n:H b=η):(rH h H).get? b=θ o :=
 ZM _ e λhm=>by
  have q:(H b).isSome=ζ:=(ie.mp hm).2;rw[n] at q;simp at q
theorem EJ {o:Obj}(e:(rH h H).get? b=θ o):h.get? b=θ o/\H b=η:=by
 have e':h.get? b=θ o:=i0 (S4 h H) e;refine⟨e',?_⟩;cases q:H b with
 |none=>rfl
 |some x=>
  have hm:b∈S4 h H:=ie.mpr ⟨pi.mpr (Α e'),by simp[q]⟩;have z:(rH h H).get? b=η:=PySem.W.hideAll_none (S4 h H) hm;rw[z] at e;cases e
end L2
namespace L2
open PySem PySem.Spec PyProof.Rows
structure Mod (K:ψ)(mg:Str->Option Value)(base:Heap):Prop where
 Mm:K.In base
 glob:base.Ns dL mg
 blt:∃mb,base.Ns Ű mb/\∀x:Str,x≠"__name__"->mb x=FM x
 nolimit:base.NoLimit
structure Cx where
 prog:Program
 w:Ξ
 K:ψ
 mg:Str->Option Value
 base:Heap
 A:Ρ
 N:List Str
 s₀:μ
 H₀:Hp
 env:ù
 outer:List ù
 stack:List ù
 ex:List Addr
 fn:Str->Bool
 calm:Bool
 pn:List (Addr×Obj)
 xe:Value->μ->Prop
noncomputable def dR (l:List ù):List Addr:=l.filterMap (·.frame)
noncomputable abbrev Cx.fs (X:Cx):List Addr:=dR X.outer
def yj (sc:Scope)(x:Str):Prop:=sc.names.lookup x=θ .local\/sc.names.lookup x=θ .cell\/sc.names.lookup x=θ .free
def Loc (sc:Scope)(x:Str):Prop:=sc.names.lookup x=θ .local\/sc.names.lookup x=θ .cell
noncomputable def Look (env:ù)(h:Heap)(m:Str->Option Value)(x:Str)(u:Value):Prop :=
 (env.kindOf x=θ .local/\m x=θ u)\/((env.kindOf x=θ .cell\/env.kindOf x=θ .free)/\∃c,env.cells.lookup x=θ c/\h.IsCell c (θ u))
structure Cx.Ok (X:Cx):Prop where
 mod:Mod X.K X.mg X.base
 kind:X.env.scope.kind=.function
 glob:X.env.globals=dL
 blt:X.env.builtins=Ű
 above:X.s₀.heap.objs.size<=X.env.locals
 inj:∀x y c,X.env.cells.lookup x=θ c->X.env.cells.lookup y=θ c->x=y
 has:∀x,(X.env.kindOf x=θ .cell\/X.env.kindOf x=θ .free)->∃c,X.env.cells.lookup x=θ c
 O1:∀x c,X.fn x=ζ->X.env.cells.lookup x=θ c->X.s₀.heap.objs.size<=c
 hd:X.calm=ζ->X.A.handled=η
 frames:X.A.frames=θ X.stack
 PL:X.stack=X.outer\/(X.stack=X.env::X.outer/\X.env.frame=θ X.env.locals)
 QO:∀b∈X.ex,b≠X.env.locals/\∀x c,X.env.cells.lookup x=θ c->c≠b
 bs:∀b o,X.base.get? b=θ o->X.s₀.heap.get? b=θ o/\X.H₀ b=η
 Oo:X.base.objs.size<=X.s₀.heap.objs.size
 Nf:∀b o,X.base.get? b=θ o->b∉X.ex
 Nj:∀b∈X.ex,b∉X.fs
 MJ:X.s₀.heap.FunFrames X.base X.outer
 OV:∀b∈X.fs,X.H₀ b=η
structure Inv (X:Cx)(pins:List (Addr×Obj))(σ:List (Option V))(H:Hp)(s:μ):Prop where
 ok:X.Ok
 os:s.os=X.s₀.os
 bare:Tk s.gens
 base:Un X.fs X.ex X.H₀ H X.s₀.heap s.heap
 loc:∃m,s.heap.Ns X.env.locals m/\∀(i:Nat) (x:Str) (v:V),X.N[i]? = θ x->σ[i]? = θ (θ v)->yj X.env.scope x->∃u,RelV v u/\Look X.env s.heap m x u
 cell:∀x c,X.env.cells.lookup x=θ c->∃v,s.heap.IsCell c v
 free:H X.env.locals=η
 Mn:∀x c,X.env.cells.lookup x=θ c->H c=η
 pin:∀p∈X.pn++pins,s.heap.get? p.1=θ p.2/\H p.1=η/\p.1≠X.env.locals/\p.1∉X.fs/\∀v,p.2.data≠.cell v
 Mc:lR X.prog X.w H s.heap
 len:σ.length=X.N.length
variable {A:Ρ}{M:Ě}{i t':Nat}{u:Value}{x:Str}
section
variable {X:Cx}{pins:List (Addr×Obj)}{σ:List (Option V)}{H H':Hp}{s:μ}{h':Heap}
theorem Cx.Ok.ME (ok:X.Ok){b:Addr}{o:Obj}(e:X.base.get? b=θ o):b∉X.fs:=λhb=>by
 have:=(ok.MJ.mem hb).1;rw[e] at this;cases this
theorem Inv.bs (I:Inv X pins σ H s):∀b o,X.base.get? b=θ o->s.heap.get? b=θ o/\H b=η:=λb o e=>
 ⟨I.base.keep b o (I.ok.bs b o e).1 (I.ok.bs b o e).2 (I.ok.ME e) (I.ok.Nf b o e),I.base.free b o (I.ok.bs b o e).1 (I.ok.bs b o e).2 (I.ok.Nf b o e)⟩
theorem Inv.bk (I:Inv X pins σ H s):∀b o,X.base.get? b=θ o->s.heap.get? b=θ o:=λb o e=>(I.bs b o e).1
theorem Inv.mod (I:Inv X pins σ H s):Mod X.K X.mg X.base:=I.ok.mod
theorem Inv.MX (I:Inv X pins σ H s):X.K.In s.heap:=I.ok.mod.Mm.keeps I.bk
theorem Inv.lt (I:Inv X pins σ H s):X.env.locals<s.heap.objs.size:=let ⟨_,hn,_⟩:=I.loc;hn.lt
theorem Inv.sz (I:Inv X pins σ H s):X.s₀.heap.objs.size<=s.heap.objs.size:=bp I.ok.above (ó I.lt)
theorem Inv.RD (I:Inv X pins σ H s){a:Addr}(h:s.heap.objs.size<=a):a∉X.fs:=λhb=>by
 obtain⟨_,o,ho,_⟩:=I.ok.MJ.mem hb;exact absurd (av (Α ho) (bp I.sz h)) (fe _)
theorem Inv.O0 (I:Inv X pins σ H s):∀x c,X.env.cells.lookup x=θ c->c≠X.env.locals:=λx c e z=>by
 obtain⟨v,o,ho,hd⟩:=I.cell x c e;obtain⟨m,⟨o',es,ep,QF,NB,_⟩,_⟩:=I.loc;rw[z,QF] at ho;cases ho;rw[NB] at hd;cases hd
theorem Inv.MJ (I:Inv X pins σ H s):s.heap.FunFrames X.base X.outer:=by
 have all:∀(l:List ù),(∀b∈dR l,b∈X.fs)->X.s₀.heap.FunFrames X.base l->s.heap.FunFrames X.base l:=by
  intro l
  induction l with
  |nil=>intro _ _;trivial
  |cons env r ih=>
   intro hs hl;obtain⟨hk,⟨L,o,hf,hn,ho,hd⟩,hr⟩:=hl;have hL:L∈X.fs:=hs L (by unfold dR;rw[iu,hf];exact ag);obtain⟨sl,e⟩:=I.base.slot L o ho (I.ok.OV L hL) hL λz=>I.ok.Nj L z hL
   exact⟨hk,⟨L,_,hf,hn,e,hd⟩,ih (λb hb=>hs b (by unfold dR;rw[iu,hf];exact aa _ hb)) hr⟩
 exact all X.outer (λ_ hb=>hb) I.ok.MJ
theorem Inv.stack (I:Inv X pins σ H s):s.heap.FunFrames X.base X.stack:=by
 rcases I.ok.PL with e|⟨e,hf⟩
 .rw[e];exact I.MJ
 .rw[e];obtain⟨m,hn,_⟩:=I.loc;refine .cons (by rw[I.ok.kind];decide) hf hn ?_ I.MJ;exact PP (bp I.ok.Oo I.ok.above)
theorem Inv.NN (I:Inv X pins σ H s):∀b∈dR X.stack,b∈X.env.locals::X.fs:=λb hb=>by
 rcases I.ok.PL with e|⟨e,hf⟩
 .rw[e] at hb;exact aa _ hb
 .rw[e] at hb;unfold dR at hb;rw[iu,hf] at hb;exact hb
theorem Inv.MW (I:Inv X pins σ H s):∀b∈dR X.stack,H b=η:=λb hb=>by
 rcases dm.mp (I.NN b hb) with e|hb
 .rw[e];exact I.free
 .obtain⟨_,o,ho,_⟩:=I.ok.MJ.mem hb;exact I.base.free b o ho (I.ok.OV b hb) λz=>I.ok.Nj b z hb
theorem Inv.step {g':Array Tl}{d':Ă}{ch:List Addr}(I:Inv X pins σ H s)
  (NL:∀b∈ch,(b∈X.ex\/X.s₀.heap.objs.size<=b)/\b≠X.env.locals/\(∀x c,X.env.cells.lookup x=θ c->c≠b)/\∀p∈X.pn++pins,p.1≠b)
  (keep:∀b o,b≠X.env.locals->b∉X.fs->b∉ch->s.heap.get? b=θ o->H b=η->h'.get? b=θ o)
  (slot:∀b o,b≠X.env.locals->b∈X.fs->b∉ch->s.heap.get? b=θ o->H b=η->∃sl,h'.get? b=θ { o with slots:=sl }) (free:∀b o,b∉ch->s.heap.get? b=θ o->H b=η->H' b=η)
  (there:∀b o,b∉ch->s.heap.get? b=θ o->∃o',h'.get? b=θ o')
  (MY:∀b xs,H b=θ (.tup xs)->H' b=θ (.tup xs)) (MV:∀b o u,H b=θ (.Om o u)->H' b=θ (.Om o u)) (MZ:∀b ps,H b=θ (.PJ ps)->∃more,H' b=θ (.PJ (ps++more)))
  (ns:∀m,s.heap.Ns X.env.locals m->h'.Ns X.env.locals m) (Mc:lR X.prog X.w H' h') (hg:Tk g') :
  Inv X pins σ H' { s with heap:=h',gens:=g',drawn:=d',toks:=t' }:=by
 have Yh:∀b o,X.s₀.heap.get? b=θ o->b≠X.env.locals:=λb o e=>a8 (av (Α e) I.ok.above)
 have RI:∀b o,X.s₀.heap.get? b=θ o->b∉X.ex->b∉ch:=λb o e hx hb=>by
  rcases (NL b hb).1 with z|z
  .exact hx z
  .exact absurd (av (Α e) z) (fe _)
 have cellK:∀x c,X.env.cells.lookup x=θ c->∀v,s.heap.IsCell c v->h'.IsCell c v:=λx c e v ⟨o,ho,hd⟩=>by
  have RJ:c∉ch:=λz=>(NL c z).2.2.1 x c e rfl
  by_cases hc:c∈X.fs
  .obtain⟨sl,q⟩:=slot c o (I.O0 x c e) hc RJ ho (I.Mn x c e);exact⟨_,q,hd⟩
  .exact⟨o,keep c o (I.O0 x c e) hc RJ ho (I.Mn x c e),hd⟩
 refine⟨I.ok,I.os,hg,⟨λb o e n hb hx=>?_,λb o e n hb hx=>?_,λb o e n hx=>?_,λb o e hx=>?_,λb xs e=>MY b xs (I.base.MY b xs e),λb o xs e=>MV b o xs (I.base.MV b o xs e),λb ps e=>?_⟩,?_,λx c e=>?_,?_,λx c e=>?_,λp hp=>?_,Mc,I.len⟩
 .exact keep b o (Yh b o e) hb (RI b o e hx) (I.base.keep b o e n hb hx) (I.base.free b o e n hx)
 .obtain⟨sl,e1⟩:=I.base.slot b o e n hb hx;obtain⟨Qi,e2⟩:=slot b _ (Yh b o e) hb (RI b o e hx) e1 (I.base.free b o e n hx);exact⟨Qi,e2⟩
 .obtain⟨o',e1⟩:=I.base.there b o e hx;exact free b o' (RI b o e hx) e1 (I.base.free b o e n hx)
 .obtain⟨o',e1⟩:=I.base.there b o e hx;exact there b o' (RI b o e hx) e1
 .obtain⟨m1,e1⟩:=I.base.MZ b ps e;obtain⟨m2,e2⟩:=MZ b _ e1;exact⟨m1++m2,by rw[e2,Array.append_assoc]⟩
 .obtain⟨m,hn,hl⟩:=I.loc;refine⟨m,ns m hn,λi x v e1 e2 e3=>?_⟩;obtain⟨u,r,l⟩:=hl i x v e1 e2 e3;refine⟨u,r,?_⟩;rcases l with l|⟨k,c,e,z⟩
  .exact .inl l
  .exact .inr ⟨k,c,e,cellK x c e _ z⟩
 .obtain⟨v,z⟩:=I.cell x c e;exact⟨v,cellK x c e v z⟩
 .obtain⟨m,⟨o,_,_,ho,_⟩,_⟩:=I.loc;exact free _ o (λz=>(NL _ z).2.1 rfl) ho I.free
 .obtain⟨v,o,ho,hd⟩:=I.cell x c e;exact free c o (λz=>(NL c z).2.2.1 x c e rfl) ho (I.Mn x c e)
 .obtain⟨e,n,ne,nf,d⟩:=I.pin p hp;have RJ:p.1∉ch:=λz=>(NL p.1 z).2.2.2 p hp rfl
  exact⟨keep p.1 p.2 ne nf RJ e n,free p.1 p.2 RJ e n,ne,nf,d⟩
theorem Inv.un {t':Nat}(I:Inv X pins σ H s)(u:Un X.fs [] H H' s.heap h')(Mc:lR X.prog X.w H' h'):Inv X pins σ H' { s with heap:=h',toks:=t' }:=by
 obtain⟨m,⟨o,es,ep,ho,r⟩,_⟩:=id I.loc;obtain⟨sl,hL⟩:=u.any ho I.free (by simp);exact I.step (g':=s.gens) (d':=s.drawn) (ch:=[]) (λ_ z=>nomatch z) (λb o _ hb _ e n=>u.keep b o e n hb (by simp)) (λb o _ hb _ e n=>u.slot b o e n hb (by simp)) (λb o _ e n=>u.free b o e n (by simp)) (λb o _ e=>u.there b o e (by simp)) u.MY u.MV u.MZ (λm' hm=>by
  obtain⟨o',Pe,TM,QF,r'⟩:=hm;rw[ho] at QF;cases QF;exact⟨_,Pe,TM,hL,r'⟩) Mc I.bare
theorem Inv.call {g':Array Tl}{t':Nat}{d':Ă}{ch:List Addr}(I:Inv X pins σ H s)(u:Un (dR X.stack) ch H H' s.heap h')(Mc:lR X.prog X.w H' h')(hg:Tk g')
  (NL:∀b∈ch,(b∈X.ex\/X.s₀.heap.objs.size<=b)/\b≠X.env.locals/\(∀x c,X.env.cells.lookup x=θ c->c≠b)/\∀p∈X.pn++pins,p.1≠b) :
  Inv X pins σ H' { s with heap:=h',gens:=g',drawn:=d',toks:=t' }:=by
 obtain⟨m,⟨o,es,ep,ho,r⟩,_⟩:=id I.loc;obtain⟨sl,hL⟩:=u.any ho I.free λz=>(NL _ z).2.1 rfl
 exact I.step (ch:=ch) NL (λb o hL hb hc e n=>u.keep b o e n (λz=>(dm.mp (I.NN b z)).elim hL hb) hc) (λb o _ _ hc e n=>u.any e n hc) (λb o hc e n=>u.free b o e n hc) (λb o hc e=>u.there b o e hc) u.MY u.MV u.MZ (λm' hm=>by
  obtain⟨o',Pe,TM,QF,r'⟩:=hm;rw[ho] at QF;cases QF;exact⟨_,Pe,TM,hL,r'⟩) Mc hg
theorem Inv.turned {t':Nat}{it:Addr}(I:Inv X pins σ H s)(k:∀b o,b≠it->s.heap.get? b=θ o->h'.get? b=θ o)(hn:H it=η)(hL:it≠X.env.locals)
  (h1:it∈X.ex\/X.s₀.heap.objs.size<=it) (h2:∀x c,X.env.cells.lookup x=θ c->c≠it) (h3:∀p∈X.pn++pins,p.1≠it):Inv X pins σ H { s with heap:=h',toks:=t' }:=by
 have RG:∀b u,H b=θ u->b≠it:=λb u e z=>by rw[z,hn] at e;cases e
 refine I.step (g':=s.gens) (d':=s.drawn) (ch:=[it]) (λb hb=>?_) (λb o _ _ hc e _=>k b o (λz=>hc (by simp[z])) e) (λb o _ _ hc e _=>⟨o.slots,k b o (λz=>hc (by simp[z])) e⟩) (λ_ _ _ _ n=>n)
  (λb o hc e=>⟨o,k b o (λz=>hc (by simp[z])) e⟩) (λ_ _ e=>e) (λ_ _ _ e=>e) (λb ps e=>⟨#[],by rw[e];simp⟩) (λm hm=>?_) (λb u e=>?_) I.bare
 .have e:b=it:=by simpa using hb
  subst e;exact⟨h1,hL,h2,h3⟩
 .obtain⟨o,es,ep,ho,r⟩:=hm;exact⟨o,es,ep,k _ o (bw hL) ho,r⟩
 .refine (I.Mc b u e).MK (λc v hc q=>k c v ?_ q) (λ_ q=>q) λ_ _ q=>q
  rcases hc with z|z
  .rw[z];exact RG b u e
  .exact RG c _ z
theorem Inv.tok (I:Inv X pins σ H s)(t:Nat):Inv X pins σ H { s with toks:=t }:=I.un (h':=s.heap) (t':=t) Un.refl I.Mc
theorem Inv.kept {t':Nat}(I:Inv X pins σ H s)(k:∀b u,s.heap.get? b=θ u->h'.get? b=θ u):Inv X pins σ H { s with heap:=h',toks:=t' }:=I.un (Un.kept k) (I.Mc.kept k)
theorem Inv.laid {a:Addr}{o:HO}{t':Nat}(I:Inv X pins σ H s)(k:∀b u,s.heap.get? b=θ u->h'.get? b=θ u)(hp:s.heap.objs.size<=a)(new:dN X.prog X.w (upd H a o) h' a o) :
  Inv X pins σ (upd H a o) { s with heap:=h',toks:=t' }:=I.un (Un.laid k hp (I.Mc.fresh hp)) (I.Mc.laid k hp new)
theorem Inv.write {x e:Addr}{o:HO}(I:Inv X pins σ H s)(mu:vo (H x))(he:e=x\/H e=θ (.own x))(k:∀b u,b≠e->s.heap.get? b=θ u->h'.get? b=θ u)(Q5:∃u,h'.get? e=θ u)
  (new:dN X.prog X.w (upd H x o) h' x o):Inv X pins σ (upd H x o) { s with heap:=h',toks:=t' }:=I.un (Un.write mu he k Q5) (I.Mc.write mu he k Q5 new)
theorem Inv.weak {σ':List (Option V)}(I:Inv X pins σ H s)(hl:σ'.length=σ.length)(w:∀(i:Nat) v,σ'[i]? = θ (θ v)->σ[i]? = θ (θ v)):Inv X pins σ' H s :=
 ⟨I.ok,I.os,I.bare,I.base,let ⟨m,hn,Sj⟩:=I.loc;⟨m,hn,λi x v e1 e2 e3=>Sj i x v e1 (w i v e2) e3⟩,I.cell,I.free,I.Mn,I.pin,I.Mc,hl.trans I.len⟩
theorem Inv.NY {PU:List (Addr×Obj)}(I:Inv X pins σ H s)(h:∀p∈PU,s.heap.get? p.1=θ p.2/\H p.1=η/\p.1≠X.env.locals/\p.1∉X.fs/\∀v,p.2.data≠.cell v):Inv X PU σ H s :=
 ⟨I.ok,I.os,I.bare,I.base,I.loc,I.cell,I.free,I.Mn,λp hp=>(ig.mp hp).elim (λz=>I.pin p (ax _ z)) (h p),I.Mc,I.len⟩
theorem oX {N:List Str}(hN:N.Nodup){j:Nat}(a:N[i]? = θ x)(b:N[j]? = θ x):i=j:=by
 obtain⟨h1,e1⟩:=χ.mp a;obtain⟨h2,e2⟩:=χ.mp b;exact (List.getElem_inj hN).mp (e1.trans e2.symm)
theorem zu {E:Value->μ->Prop}{v:V}{Q:Unit->μ->Prop}(I:Inv X pins σ H s)(hN:X.N.Nodup)(hi:X.N[i]? = θ x)(hx:Loc X.env.scope x)(r:RelV v u)
  (h:∀s',Inv X pins (σ.set i (θ v)) H s'->(∃a,đ a s.heap s'.heap/\(a=X.env.locals\/X.env.cells.lookup x=θ a))->Q () s') (hf:X.fn x=ζ\/X.env.scope.names.lookup x=θ .local:=by first|exact .inl rfl|exact .inr rfl|assumption):Β M A (d_ X.env x u) Q E s:=by
 obtain⟨m,hn,hl⟩:=id I.loc;have OR:(X.env.scope.kind == .class || (X.env.scope.kind == .module&&X.env.locals != X.env.globals))=ε:=by rw[I.ok.kind];rfl
 have TC:i<σ.length:=by rw[I.len];exact (χ.mp hi).1
 have O0:=I.O0;have tracked:∀{a:Addr}{h':Heap},(∃o,s.heap.get? a=θ o/\H a=η)->đ a s.heap h'->lR X.prog X.w H h':=λ{a h'} ha hs b ob e=>by
  obtain⟨_,_,Mu⟩:=ha;refine (I.Mc b ob e).MK (λc w' hc q=>(hs.2 c ?_).trans q) (λ_ q=>q) λ_ _ q=>q
  rintro rfl;rcases hc with rfl|hc
  .rw[Mu] at e;cases e
  .rw[Mu] at hc;cases hc
 rcases hx with hk|hk
 .refine wpAny_storeName_local hk hn (λh' M9 hs=>?_) OR;obtain⟨oL,_,_,Vy,_⟩:=id hn;refine h _ ⟨I.ok,I.os,I.bare,⟨λb o e n hb hx=>?_,λb o e n hb hx=>?_,I.base.free,λb o e hx=>?_,I.base.MY,I.base.MV,I.base.MZ⟩,⟨_,M9,λj y v' e1 e2 e3=>?_⟩,λy c e=>?_,I.free,I.Mn,λp hp=>?_,tracked ⟨oL,Vy,I.free⟩ hs,by simpa using I.len⟩ ⟨_,hs,.inl rfl⟩
  .exact (hs.2 b (a8 (av (Α e) I.ok.above))).trans (I.base.keep b o e n hb hx)
  .obtain⟨sl,e1⟩:=I.base.slot b o e n hb hx;exact⟨sl,(hs.2 b (a8 (av (Α e) I.ok.above))).trans e1⟩
  .obtain⟨o',e1⟩:=I.base.there b o e hx;exact⟨o',(hs.2 b (a8 (av (Α e) I.ok.above))).trans e1⟩
  .by_cases hj:j=i
   .subst hj;rw[hi] at e1;cases e1;rw[ω TC] at e2;cases e2;exact⟨u,r,.inl ⟨hk,by simp⟩⟩
   .rw[ο (bw hj)] at e2;obtain⟨u',r',q⟩:=hl j y v' e1 e2 e3;refine⟨u',r',?_⟩;rcases q with ⟨k,e⟩|⟨k,c,e,z⟩
    .refine .inl ⟨k,?_⟩;have:y≠x:=λe=>hj (oX hN e1 (e ▸ hi))
     simp[this,e]
    .exact .inr ⟨k,c,e,z.sameBut hs (O0 y c e)⟩
  .obtain⟨w',z⟩:=I.cell y c e;exact⟨w',z.sameBut hs (O0 y c e)⟩
  .obtain⟨e,n,ne,nf,d⟩:=I.pin p hp;exact⟨(hs.2 p.1 ne).trans e,n,ne,nf,d⟩
 .have VS:X.fn x=ζ:=by
   rcases hf with z|z
   .exact z
   .rw[z] at hk;cases hk
  obtain⟨c,hc⟩:=I.ok.has x (.inl hk);obtain⟨w',z⟩:=I.cell x c hc;refine wpAny_storeName_cell I.ok.kind hk hc z (λh' OT hs=>?_);obtain⟨oc,Yw,Vx⟩:=id z;refine h { s with heap:=h' } ⟨I.ok,I.os,I.bare,⟨λb o e n hb hx=>?_,λb o e n hb hx=>?_,I.base.free,λb o e hx=>?_,I.base.MY,I.base.MV,I.base.MZ⟩,⟨m,hn.sameBut hs (bw (O0 x c hc)),λj y v' e1 e2 e3=>?_⟩,λy c' e=>?_,I.free,I.Mn,λp hp=>?_,tracked ⟨oc,Yw,I.Mn x c hc⟩ hs,by simpa using I.len⟩ ⟨c,hs,.inr hc⟩
  .exact (hs.2 b (a8 (av (Α e) (I.ok.O1 x c VS hc)))).trans (I.base.keep b o e n hb hx)
  .obtain⟨sl,e1⟩:=I.base.slot b o e n hb hx;exact⟨sl,(hs.2 b (a8 (av (Α e) (I.ok.O1 x c VS hc)))).trans e1⟩
  .obtain⟨o',e1⟩:=I.base.there b o e hx;exact⟨o',(hs.2 b (a8 (av (Α e) (I.ok.O1 x c VS hc)))).trans e1⟩
  .by_cases hj:j=i
   .subst hj;rw[hi] at e1;cases e1;rw[ω TC] at e2;cases e2;exact⟨u,r,.inr ⟨.inl hk,c,hc,OT⟩⟩
   .rw[ο (bw hj)] at e2;obtain⟨u',r',q⟩:=hl j y v' e1 e2 e3;refine⟨u',r',?_⟩;rcases q with q|⟨k,c',e,z'⟩
    .exact .inl q
    .refine .inr ⟨k,c',e,z'.sameBut hs ?_⟩;rintro rfl;exact hj (oX hN e1 (I.ok.inj _ _ _ e hc ▸ hi))
  .by_cases YJ:c'=c
   .subst YJ;exact⟨_,OT⟩
   .obtain⟨w2,z2⟩:=I.cell y c' e;exact⟨w2,z2.sameBut hs YJ⟩
  .obtain⟨e,n,ne,nf,d⟩:=I.pin p hp;refine⟨(hs.2 p.1 ?_).trans e,n,ne,nf,d⟩;intro q;rw[q,Yw] at e;have q':oc=p.2:=dz e;exact d w' (by rw[<-q'];exact Vx)
theorem iO {E:Value->μ->Prop}{v:V}{Q:Unit->μ->Prop}(I:Inv X pins σ H s)(hN:X.N.Nodup)(hi:X.N[i]? = θ x)(hx:Loc X.env.scope x)(r:RelV v u)
  (h:∀s',Inv X pins (σ.set i (θ v)) H s'->Q () s') (hf:X.fn x=ζ\/X.env.scope.names.lookup x=θ .local:=by first|exact .inl rfl|exact .inr rfl|assumption):Β M A (d_ X.env x u) Q E s :=
 zu I hN hi hx r (λs' I' _=>h s' I') hf
theorem Inv.SK {s':μ}{ch:List Addr}(I:Inv X pins σ H s)(ho:s'.os=s.os)(u:Un (dR X.stack) ch H H' s.heap s'.heap)(Mc:lR X.prog X.w H' s'.heap)(hg:Tk s'.gens)
  (NL:∀b∈ch,(b∈X.ex\/X.s₀.heap.objs.size<=b)/\b≠X.env.locals/\(∀x c,X.env.cells.lookup x=θ c->c≠b)/\∀p∈X.pn++pins,p.1≠b):Inv X pins σ H' s':=by
 obtain⟨h',g',d',t',o'⟩:=s';have e:o'=s.os:=ho;subst e;exact I.call (g':=g') (t':=t') (d':=d') u Mc hg NL
end
noncomputable abbrev XK:=Value->Option Addr->Hp->Prop
noncomputable abbrev St:=List (Option V)
noncomputable abbrev VK:=V->Hp->Prop
noncomputable abbrev TE:=St->Hp->VK->Prop
noncomputable abbrev TT:=St->Hp->(Bool->Hp->Prop)->Prop
noncomputable abbrev TA:=St->Hp->(List V->Hp->Prop)->Prop
structure Ends where
 nx:St->Hp->Prop
 rt:VK
 bk:St->Hp->Prop:=λ_ _=>False
 ct:St->Hp->Prop:=λ_ _=>False
noncomputable abbrev TS:=Ends->St->Hp->Prop
def EP (X:Cx)(pins:List (Addr×Obj))(σ:St)(Q:VK)(u:Value)(s':μ):Prop:=∃v H',Inv X pins σ H' s'/\RelV v u/\Q v H'
def TP (X:Cx)(pins:List (Addr×Obj))(σ:St)(Q:Bool->Hp->Prop)(b:Bool)(s':μ):Prop:=∃H',Inv X pins σ H' s'/\Q b H'
def AP (X:Cx)(pins:List (Addr×Obj))(σ:St)(Q:List V->Hp->Prop)(us:List Value)(s':μ):Prop:=∃vs H',Inv X pins σ H' s'/\aK vs us/\Q vs H'
noncomputable def SP (X:Cx)(pins:List (Addr×Obj))(D:Ends)(f:Flow)(s':μ):Prop :=
 match f with
 |.next=>∃σ' H',Inv X pins σ' H' s'/\D.nx σ' H'
 |.brk=>∃σ' H',Inv X pins σ' H' s'/\D.bk σ' H'
 |.cont=>∃σ' H',Inv X pins σ' H' s'/\D.ct σ' H'
 |.ret u=>∃v σ' H',Inv X pins σ' H' s'/\RelV v u/\D.rt v H'
noncomputable def PE (X:Cx)(e:Expr)(t:TE):Prop :=
 ∀(pins:List (Addr×Obj)) (s:μ) (σ:St) (H:Hp) (Q:VK),Inv X pins σ H s->t σ H Q->Β (Ζ X.prog X.w) X.A (eval e X.env) (EP X pins σ Q) X.xe s
noncomputable def PT (X:Cx)(e:Expr)(t:TT):Prop :=
 ∀(pins:List (Addr×Obj)) (s:μ) (σ:St) (H:Hp) (Q:Bool->Hp->Prop),Inv X pins σ H s->t σ H Q->Β (Ζ X.prog X.w) X.A (isTrue e X.env (eval e X.env)) (TP X pins σ Q) X.xe s
noncomputable def PW (X:Cx)(e:Expr)(t:TT):Prop :=
 ∀(whole:o? Value) (pins:List (Addr×Obj)) (s:μ) (σ:St) (H:Hp) (Q:Bool->Hp->Prop),Inv X pins σ H s->t σ H Q->Β (Ζ X.prog X.w) X.A (isTrue e X.env whole) (TP X pins σ Q) X.xe s
theorem PW.pt {X:Cx}{e:Expr}{t:TT}(h:PW X e t):PT X e t:=h _
noncomputable def PA (X:Cx)(es:List Expr)(t:TA):Prop :=
 ∀(pos:No) (pins:List (Addr×Obj)) (s:μ) (σ:St) (H:Hp) (Q:List V->Hp->Prop),Inv X pins σ H s->t σ H Q->Β (Ζ X.prog X.w) X.A (ź (Pi pos (Ι es X.env))) (AP X pins σ Q) X.xe s
noncomputable def PS (X:Cx)(st:Stmt)(t:TS):Prop :=
 ∀(pins:List (Addr×Obj)) (s:μ) (σ:St) (H:Hp) (D:Ends),Inv X pins σ H s->t D σ H->Β (Ζ X.prog X.w) X.A (exec st X.env) (SP X pins D) X.xe s
noncomputable def hU (X:Cx)(st:List Stmt)(t:TS):Prop :=
 ∀(pins:List (Addr×Obj)) (s:μ) (σ:St) (H:Hp) (D:Ends),Inv X pins σ H s->t D σ H->Β (Ζ X.prog X.w) X.A (Ż st X.env) (SP X pins D) X.xe s
theorem cI {α:Type}{t:o? α}{Q Q':α->μ->Prop}{E:Value->μ->Prop}{s:μ}(h:Β M A t Q E s)(hQ:∀a s,Q a s->Q' a s):Β M A t Q' E s:=Θ h hQ λ_ _ x=>x
end L2
namespace L2
open PySem PySem.Spec PyProof.Rows
variable {H:Hp}{op:Z2}{pins:List (Addr×Obj)}{pos:No}{s:μ}{t:TE}{u:Value}{x:Str}
section
variable {X:Cx}
theorem bin {a b:Expr}{ta tb:TE}(ha:PE X a ta)(hb:PE X b tb){σ:St}{R:V->V->Hp->Prop}(I:Inv X pins σ H s)(h:ta σ H λx H1=>tb σ H1 λy H2=>R x y H2)
  {α:Type}{Q:α->μ->Prop}{f:Value->Value->o? α}
  (hf:∀v u s2 x y H2,Inv X pins σ H2 s2->RelV x v->RelV y u->R x y H2->Β (Ζ X.prog X.w) X.A (f v u) Q X.xe s2) :
  Β (Ζ X.prog X.w) X.A (eval a X.env) (λv s₁=>Β (Ζ X.prog X.w) X.A (eval b X.env) (λu s₂=>Β (Ζ X.prog X.w) X.A (f v u) Q X.xe s₂) X.xe s₁) X.xe s:=by
 refine cI (ha pins s σ H _ I h) λv s1 ⟨x,H1,I1,r1,q1⟩=>?_
 refine cI (hb pins s1 σ H1 _ I1 q1) λu s2 ⟨y,H2,I2,r2,q2⟩=>?_
 exact hf v u s2 x y H2 I2 r1 r2 q2
def qd (i:Nat):TE:=λσ H Q=>∃v,σ[i]? = θ (θ v)/\Q v H
def tC (v:V):TE:=λ_ H Q=>Q v H
theorem sH {i:Nat}(hN:X.N[i]? = θ x)(hv:yj X.env.scope x)(hd:(x==("__debug__" : Str))=ε:=by decide) (MT:(x==("__classdict__" : Str))=ε:=by decide):PE X (.Name x pos) (qd i):=by
 intro pins s σ H Q I h;obtain⟨v,e,h⟩:=h;obtain⟨m,hn,hl⟩:=I.loc;obtain⟨u,r,l⟩:=hl i x v hN e hv;have fin:EP X pins σ Q u s:=⟨v,H,I,r,h⟩;rcases l with ⟨hk,hm⟩|⟨hk,c,hc,Nc⟩
 .exact ÿ (TD I.ok.kind hk hn hm fin) hd
 .rcases hk with hk|hk
  .exact ÿ (Ť I.ok.kind hk hc Nc fin) hd
  .exact ÿ (wpAny_loadName_free I.ok.kind hk hc Nc fin MT) hd
theorem wN {i j pos}:PE X (.Constant (.int i) j pos) (tC (.int i)):=λ_ _ _ H _ I h=>wpAny_Constant_int ⟨.int i,H,I.tok _,⟨_,rfl⟩,h⟩
theorem FQ {b j pos}:PE X (.Constant (.bool b) j pos) (tC (.bl b)):=λ_ _ _ H _ I h=>Constant_bool ⟨.bl b,H,I,rfl,h⟩
theorem AD {j pos}:PE X (.Constant .none j pos) (tC .Mh):=λ_ _ _ H _ I h=>Constant_none ⟨.Mh,H,I,rfl,h⟩
def Gl (X:Cx)(x:Str):Prop:=X.env.kindOf x=θ .globalImplicit
theorem fN {E:Value->μ->Prop}{σ:St}{Q:Value->μ->Prop}(I:Inv X pins σ H s)(hg:Gl X x)(hm:X.mg x=θ u)(h:Q u s)
  (hd:(x==("__debug__" : Str))=ε:=by decide):Β (Ζ X.prog X.w) X.A (eval (.Name x pos) X.env) Q E s :=
 TW I.ok.kind hg (ă (by rw[I.ok.glob];exact I.mod.glob.keeps I.bk) hm h) hd
theorem jL {E:Value->μ->Prop}{σ:St}{Q:Value->μ->Prop}(I:Inv X pins σ H s)(hg:Gl X x)(hm:X.mg x=η)(hv:FM x=θ u)(h:Q u s)
  (hn:x≠"__name__":=by decide) (hd:(x==("__debug__" : Str))=ε:=by decide):Β (Ζ X.prog X.w) X.A (eval (.Name x pos) X.env) Q E s:=by
 obtain⟨mb,h1,h2⟩:=I.mod.blt;exact TW I.ok.kind hg (Calls.loadGlobal_builtin (by rw[I.ok.glob];exact I.mod.glob.keeps I.bk) hm (by rw[I.ok.blt];exact h1.keeps I.bk) ((h2 x hn).trans hv) h) hd
theorem fD {v:V}{pos:No}(hg:Gl X x)(hm:X.mg x=θ u)(r:RelV v u)(hd:(x==("__debug__" : Str))=ε:=by decide):PE X (.Name x pos) (tC v) :=
 λ_ _ _ H _ I h=>fN I hg hm ⟨v,H,I,r,h⟩ hd
theorem nR {v:V}(hg:Gl X x)(hm:X.mg x=η)(hv:FM x=θ u)(r:RelV v u)(hn:x≠"__name__":=by decide) (hd:(x==("__debug__" : Str))=ε:=by decide):PE X (.Name x pos) (tC v) :=
 λ_ _ _ H _ I h=>jL I hg hm hv ⟨v,H,I,r,h⟩ hn hd
def t2I (ta tb:TE)(k:Int->Int->Hp->Prop):St->Hp->Prop:=λσ H=>ta σ H λx H1=>tb σ H1 λy H2=>∃i j,x=.int i/\y=.int j/\k i j H2
variable {a b:Expr}{ta tb:TE}{pos:No}
noncomputable def PC (X:Cx)(op:Z2)(a b:Expr)(t:TE):Prop :=
 ∀(pins:List (Addr×Obj)) (s:μ) (σ:St) (H:Hp) (Q:VK),Inv X pins σ H s->t σ H Q ->
  Β (Ζ X.prog X.w) X.A (eval a X.env) (λv s₁=>Β (Ζ X.prog X.w) X.A (eval b X.env) (λu s₂=>Β (Ζ X.prog X.w) X.A (Da op v u) (EP X pins σ Q) X.xe s₂) X.xe s₁) X.xe s
theorem By (b:Expr)(h:op≠.In)(h2:op≠.NotIn):xz op b=ε:=by
 have e1:(op==CmpOp.In)=ε:=by cases op<;>first|rfl|exact absurd rfl h
 have e2:(op==CmpOp.NotIn)=ε:=by cases op<;>first|rfl|exact absurd rfl h2
 cases b<;>simp[xz,e1,e2]
def JC (p:Int->Int->Bool)(ta tb:TE):TE:=λσ H Q=>t2I ta tb (λi j H2=>Q (.bl (p i j)) H2) σ H
noncomputable abbrev JK:TE->TE->TE:=JC λi j=>decide (i=j)
theorem GF {p:Int->Int->Bool}(ha:PE X a ta)(hb:PE X b tb)
  (rule:∀(i j:Int) (t u:Þ) (Q:Value->μ->Prop) (s:μ),Q (.bool (p i j)) s->Β (Ζ X.prog X.w) X.A (Da op (.int i t) (.int j u)) Q X.xe s):PC X op a b (JC p ta tb):=by
 intro pins s σ H Q I h;refine bin ha hb I h λv u s2 x y H2 I2 rx ry q=>?_
 obtain⟨i,j,rfl,rfl,q⟩:=q;obtain⟨t,rfl⟩:=rx;obtain⟨t',rfl⟩:=ry;exact rule i j t t' _ s2 ⟨.bl _,H2,I2,rfl,q⟩
theorem HQ (ha:PE X a ta)(hb:PE X b tb):PC X .Eq a b (JK ta tb):=GF ha hb λ_ _ _ _ _ _ h=>eq_int (by rw[Bool.beq_eq_decide_eq];exact h)
def tB (t:TE):TT:=λσ H Q=>t σ H λx H1=>∃c,x=.bl c/\Q c H1
theorem HI (h:PC X op a b t)(h1:xz op b=ε:=by first|exact By _ (by decide) (by decide)|rfl):PE X (.Compare a [op] [b] pos) t:=λpins s σ H Q I hw=>l! (h pins s σ H Q I hw) h1
theorem IK {e:Expr}(h:PE X e t)(he:∀whole,isTrue e X.env whole=(do let v <- whole;ż e.pos;Ç [v] (l? v)):=by intro _;rfl):PT X e (tB t):=by
 intro pins s σ H Q I hw;refine w? (cI (h pins s σ H _ I hw) λv s1 ⟨x,H1,I1,r1,q1⟩=>?_) (he _);obtain⟨d,rfl,q⟩:=q1;cases r1;exact wS ⟨H1,I1,q⟩
variable {tA S9:TT}{rest:List Expr}
def Uo (t u:TT):TT:=λσ H Q=>t σ H λc H1=>if c=ζ then u σ H1 Q else Q ε H1
def tOr (t u:TT):TT:=λσ H Q=>t σ H λc H1=>if c=ζ then Q ζ H1 else u σ H1 Q
def Ui (t:TT):TT:=λσ H Q=>t σ H λc H1=>Q (!c) H1
theorem D9 (ha:PT X a tA):PW X (.BoolOp .And [a] pos) tA:=by
 intro wh pins s σ H Q I h;refine isTrue_and (cI (ha pins s σ H Q I h) λc s1 e=>?_);cases c with
 |true=>exact isTrue_and_nil e
 |false=>exact e
theorem G7 (ha:PT X a tA):PW X (.BoolOp .Or [a] pos) tA:=by
 intro wh pins s σ H Q I h;refine isTrue_or (cI (ha pins s σ H Q I h) λc s1 e=>?_);cases c with
 |false=>exact isTrue_or_nil e
 |true=>exact e
theorem Ho (ha:PT X a tA)(hb:PW X (.BoolOp .And (b::rest) pos) S9):PW X (.BoolOp .And (a::b::rest) pos) (Uo tA S9):=by
 intro wh pins s σ H Q I h;refine isTrue_and (cI (ha pins s σ H _ I h) λc s1 ⟨H1,I1,q1⟩=>?_);cases c with
 |true=>exact hb wh pins s1 σ H1 Q I1 q1
 |false=>exact⟨H1,I1,q1⟩
theorem Jv (ha:PT X a tA)(hb:PW X (.BoolOp .Or (b::rest) pos) S9):PW X (.BoolOp .Or (a::b::rest) pos) (tOr tA S9):=by
 intro wh pins s σ H Q I h;refine isTrue_or (cI (ha pins s σ H _ I h) λc s1 ⟨H1,I1,q1⟩=>?_);cases c with
 |true=>exact⟨H1,I1,q1⟩
 |false=>exact hb wh pins s1 σ H1 Q I1 q1
theorem IG (ha:PT X a tA):PT X (.UnaryOp .Not a pos) (Ui tA):=by
 intro pins s σ H Q I h;exact isTrue_not (ha pins s σ H (λc H1=>Q (!c) H1) I h)
def xp (ta tb:TE):TE:=λσ H Q=>ta σ H λx H1=>∃c,x=.bl c/\if c=ζ then tb σ H1 Q else Q (.bl ε) H1
def Uh (ta tb:TE):TE:=λσ H Q=>ta σ H λx H1=>∃c,x=.bl c/\if c=ζ then Q (.bl ζ) H1 else tb σ H1 Q
def FU (ta:TE):TE:=λσ H Q=>ta σ H λx H1=>∃c,x=.bl c/\Q (.bl (!c)) H1
theorem rJ {op}(h:PE X a t):PE X (.BoolOp op [a] pos) t:=λpins s σ H Q I hw=>BoolOp_one (h pins s σ H Q I hw)
theorem pC (ha:PE X a ta)(hb:PE X (.BoolOp .And (b::rest) pos) tb):PE X (.BoolOp .And (a::b::rest) pos) (xp ta tb):=by
 intro pins s σ H Q I h;refine BoolOp_and (cI (ha pins s σ H _ I h) λv s1 ⟨x,H1,I1,r1,q1⟩=>?_);obtain⟨c,rfl,q1⟩:=q1;cases r1;refine wS ?_;cases c with
 |true=>exact hb pins s1 σ H1 Q I1 q1
 |false=>exact⟨.bl ε,H1,I1,rfl,q1⟩
theorem JR (ha:PE X a ta)(hb:PE X (.BoolOp .Or (b::rest) pos) tb):PE X (.BoolOp .Or (a::b::rest) pos) (Uh ta tb):=by
 intro pins s σ H Q I h;refine BoolOp_or (cI (ha pins s σ H _ I h) λv s1 ⟨x,H1,I1,r1,q1⟩=>?_);obtain⟨c,rfl,q1⟩:=q1;cases r1;refine wS ?_;cases c with
 |false=>exact hb pins s1 σ H1 Q I1 q1
 |true=>exact⟨.bl ζ,H1,I1,rfl,q1⟩
theorem wJ (ha:PE X a ta):PE X (.UnaryOp .Not a pos) (FU ta):=by
 intro pins s σ H Q I h;refine UnaryOp_ (cI (ha pins s σ H _ I h) λv s1 ⟨x,H1,I1,r1,q1⟩=>?_);obtain⟨c,rfl,q1⟩:=q1;cases r1;exact not_of (wS ⟨.bl (!c),H1,I1,rfl,q1⟩)
def tIf (t:TT)(ta tb:TE):TE:=λσ H Q=>t σ H λc H1=>if c=ζ then ta σ H1 Q else tb σ H1 Q
theorem BU {c:Expr}(hc:PT X c tA)(ha:PE X a ta)(hb:PE X b tb):PE X (.IfExp c a b pos) (tIf tA ta tb):=by
 intro pins s σ H Q I h;refine wpAny_IfExp (cI (hc pins s σ H _ I h) λd s1 ⟨H1,I1,q1⟩=>?_);cases d with
 |true=>exact ha pins s1 σ H1 Q I1 q1
 |false=>exact hb pins s1 σ H1 Q I1 q1
end
end L2
namespace L2
open PySem PySem.Spec PyProof.Rows
noncomputable def mh (K:ψ)(H:Hp)(a:Addr)(xs:List V):Prop :=
 Rd H a (.lst xs) \/
  ∃(o:Obj) (aH:Array Value) (n:Nat),K.lookup a=θ o/\o.cls=.type "list"/\o.dict=η/\o.data=.seq aH n/\aH.size<=sizeLine/\aK xs aH.toList
noncomputable def qJ (K:ψ)(H:Hp)(a:Addr)(xs:List V):Prop :=
 Rd H a (.tup xs) \/
  ∃(o:Obj) (aH:Array Value) (n:Nat),K.lookup a=θ o/\o.cls=.type "tuple"/\o.data=.seq aH n/\aH.size<=sizeLine/\aK xs aH.toList
noncomputable def Xy:Value->Option V
 |.none=>θ .Mh
 |.bool b=>θ (.bl b)
 |.int i _=>θ (.int i)
 |.str x _=>θ (.str x)
 |.bytes b _=>θ (.SM b)
 |.float b _=>θ (.Wu b)
 |.ref a=>θ (.ref a)
 |.type n=>θ (.ty n)
 |_=>η
variable {u:Value}
theorem RelV.abs {x:V}(r:RelV x u):Xy u=θ x:=by
 cases x with
 |Mh=>cases r;rfl
 |bl _=>cases r;rfl
 |int _=>obtain⟨t,rfl⟩:=r;rfl
 |str _=>obtain⟨t,rfl⟩:=r;rfl
 |SM _=>obtain⟨t,rfl⟩:=r;rfl
 |Wu _=>obtain⟨t,rfl⟩:=r;rfl
 |ref _=>cases r;rfl
 |ty _=>cases r;rfl
theorem RelV.inj {x y:V}{u:Value}(r:RelV x u)(q:RelV y u):x=y:=dz (r.abs.symm.trans q.abs)
theorem aK.inj:∀{xs ys:List V}{us:List Value},aK xs us->aK ys us->xs=ys
 |_,_,_,.nil,.nil=>rfl
 |_,_,_,.cons r t,.cons r' t'=>by rw[r.inj r',aK.inj t t']
section
variable {X:Cx}{pins:List (Addr×Obj)}{σ:St}{H:Hp}{s:μ}{a:Addr}{xs ys:List V}
theorem Inv.list (I:Inv X pins σ H s)(h:mh X.K H a xs):∃aH:List Value,aK xs aH/\PlainL s.heap a aH.toArray/\xs.length<=sizeLine:=by
 rcases h with h|⟨o,aH,n,hk,hc,hd,hs,hz,r⟩
 .obtain⟨z,aH,n,r,e⟩:=h.ok I.Mc;exact⟨aH,r,⟨_,n,e,rfl,rfl,rfl⟩,z⟩
 .refine⟨aH.toList,r,⟨o,n,I.MX a o hk,hc,hd,by simpa using hs⟩,?_⟩;have e:=r.length;simp only[ĩ] at e;omega
theorem Inv.tuple (I:Inv X pins σ H s)(h:qJ X.K H a xs):∃aH:List Value,aK xs aH/\IsTup s.heap a aH.toArray/\xs.length<=sizeLine:=by
 rcases h with h|⟨o,aH,n,hk,hc,hs,hz,r⟩
 .obtain⟨z,aH,r,p⟩:=h.ok I.Mc;exact⟨aH,r,p,z⟩
 .refine⟨aH.toList,r,⟨o,I.MX a o hk,hc,n,by simpa using hs⟩,?_⟩;have e:=r.length;simp only[ĩ] at e;omega
theorem Inv.Mt (I:Inv X pins σ H s)(h:mh X.K H a xs)(h':mh X.K H a ys):xs=ys:=by
 obtain⟨aH,r,⟨o,n,e,_,_,d⟩,_⟩:=I.list h;obtain⟨its',r',⟨o',n',e',_,_,d'⟩,_⟩:=I.list h';rw[e] at e';cases e';rw[d] at d';injection d' with d1 _
 have:aH=its':=by simpa using congrArg ű d1
 subst this;exact r.inj r'
theorem Inv.MQ (I:Inv X pins σ H s)(h:qJ X.K H a xs)(h':qJ X.K H a ys):xs=ys:=by
 obtain⟨aH,r,⟨o,e,_,n,d⟩,_⟩:=I.tuple h;obtain⟨its',r',⟨o',e',_,n',d'⟩,_⟩:=I.tuple h';rw[e] at e';cases e';rw[d] at d';injection d' with d1 _
 have:aH=its':=by simpa using congrArg ű d1
 subst this;exact r.inj r'
end
noncomputable abbrev Cx.MI (X:Cx)(E:Value->μ->Prop):Cx:={ X with xe:=E }
noncomputable abbrev Cx.MH (X:Cx):Cx:=X.MI λ_ _=>False
variable {X:Cx}
theorem Cx.Ok.MI (ok:X.Ok)(E:Value->μ->Prop):(X.MI E).Ok :=
 ⟨ok.mod,ok.kind,ok.glob,ok.blt,ok.above,ok.inj,ok.has,ok.O1,ok.hd,ok.frames,ok.PL,ok.QO,ok.bs,ok.Oo,ok.Nf,ok.Nj,ok.MJ,ok.OV⟩
theorem Cx.Ok.Mf {E:Value->μ->Prop}(ok:(X.MI E).Ok):X.Ok :=
 ⟨ok.mod,ok.kind,ok.glob,ok.blt,ok.above,ok.inj,ok.has,ok.O1,ok.hd,ok.frames,ok.PL,ok.QO,ok.bs,ok.Oo,ok.Nf,ok.Nj,ok.MJ,ok.OV⟩
variable {e:Expr}
section
variable {X:Cx}{pins:List (Addr×Obj)}{σ:St}{H:Hp}{s:μ}{E:Value->μ->Prop}
theorem Inv.MI (I:Inv X pins σ H s)(E:Value->μ->Prop):Inv (X.MI E) pins σ H s:=⟨I.ok.MI E,I.os,I.bare,I.base,I.loc,I.cell,I.free,I.Mn,I.pin,I.Mc,I.len⟩
theorem Inv.Mf (I:Inv (X.MI E) pins σ H s):Inv X pins σ H s:=⟨I.ok.Mf,I.os,I.bare,I.base,I.loc,I.cell,I.free,I.Mn,I.pin,I.Mc,I.len⟩
theorem SP.Mf {D:Ends}{f:Flow}{s':μ}(h:SP (X.MI E) pins D f s'):SP X pins D f s':=by
 cases f with
 |next=>obtain⟨σ',H',I,q⟩:=h;exact⟨σ',H',I.Mf,q⟩
 |brk=>obtain⟨σ',H',I,q⟩:=h;exact⟨σ',H',I.Mf,q⟩
 |cont=>obtain⟨σ',H',I,q⟩:=h;exact⟨σ',H',I.Mf,q⟩
 |ret u=>obtain⟨v,σ',H',I,r,q⟩:=h;exact⟨v,σ',H',I.Mf,r,q⟩
theorem PT.MH {t:TT}(h:PT X.MH e t):PT X e t:=λpins s σ H Q I hw=>
 Θ (h pins s σ H Q (I.MI _) hw) (λ_ _ ⟨H',I',q⟩=>⟨H',I'.Mf,q⟩) λ_ _ z=>Φ z
theorem hU.MH {st:List Stmt}{t:TS}(h:hU X.MH st t):hU X st t:=λpins s σ H D I hw=>
 Θ (h pins s σ H D (I.MI _) hw) (λ_ _ q=>q.Mf) λ_ _ z=>Φ z
end
variable {H:Hp}{c:Expr}{pins:List (Addr×Obj)}{s:μ}{tc:TT}
section
variable {X:Cx}{st:Stmt}{rest:List Stmt}{t u:TS}{e:Expr}{te:TE}{pos:No}
def AX:TS:=λD σ H=>D.nx σ H
def IL (t u:TS):TS:=λD σ H=>t { D with nx:=u D } σ H
theorem nX:hU X [] AX:=λ_ _ σ H _ I h=>Db ⟨σ,H,I,h⟩
theorem eN (h1:PS X st t)(h2:hU X rest u):hU X (st::rest) (IL t u):=by
 intro pins s σ H D I h;refine ww (cI (h1 pins s σ H { D with nx:=u D } I h) λf s1 q=>?_);cases f with
 |next=>
  obtain⟨σ',H',I',q⟩:=q;exact h2 pins s1 σ' H' D I' q
 |ret v=>exact q
 |brk=>exact q
 |cont=>exact q
theorem lG (h1:PS X st t):hU X [st] t:=by
 intro pins s σ H D I h;refine ww (cI (h1 pins s σ H D I h) λf s1 q=>?_);cases f with
 |next=>exact Db q
 |ret v=>exact q
 |brk=>exact q
 |cont=>exact q
def Lq:TS:=λD σ H=>D.ct σ H
theorem Ey:PS X (.Pass pos) AX:=λ_ _ σ H _ I h=>wpAny_Pass ⟨σ,H,I,h⟩
theorem tW:PS X (.Continue pos) Lq:=λ_ _ σ H _ I h=>wpAny_Continue ⟨σ,H,I,h⟩
theorem Inv.quiet {σ:St}(I:Inv X pins σ H s):ŗ X.env=ε:=by simp[ŗ,I.ok.kind]
theorem IM {x j pos pos'}:PS X (.Expr (.Constant (.str x) j pos) pos') AX:=λ_ s σ H _ I h=>wpAny_Expr (Z6 (show SP X _ _ .next { s with toks:=s.toks+1 } from ⟨σ,H,I.tok _,h⟩)) I.quiet
def uP (te:TE):TS:=λD σ H=>te σ H λ_ H1=>D.nx σ H1
theorem kz (he:PE X e te)(hs:ZC e η pos.line X.env=pure ε:=by rfl):PS X (.Expr e pos) (uP te):=by
 intro pins s σ H D I h;exact ě (cI (he pins s σ H _ I h) λv s1 ⟨x,H1,I1,r1,q1⟩=>⟨σ,H1,I1,q1⟩) I.quiet hs
def Ug (te:TE):TS:=λD σ H=>te σ H D.rt
theorem wW (he:PE X e te):PS X (.Return (θ e) pos) (Ug te):=by
 intro pins s σ H D I h;exact Ž (cI (he pins s σ H _ I h) λv s1 ⟨x,H1,I1,r1,q1⟩=>⟨x,σ,H1,I1,r1,q1⟩)
def KW:TS:=λD _ H=>D.rt .Mh H
theorem Du:PS X (.Return η pos) KW:=λ_ _ σ H _ I h=>wpAny_Return_none ⟨.Mh,σ,H,I,rfl,h⟩
def Ls (c:TT)(t u:TS):TS:=λD σ H=>c σ H λb H1=>if b=ζ then t D σ H1 else u D σ H1
theorem Bu {a b:List Stmt}(hc:PT X c tc)(ha:hU X a t)(hb:hU X b u):PS X (.If c a b pos) (Ls tc t u):=by
 intro pins s σ H D I h;refine wpAny_If (cI (hc pins s σ H _ I h) λd s1 ⟨H1,I1,q1⟩=>?_);cases d with
 |true=>exact ha pins s1 σ H1 D I1 q1
 |false=>exact hb pins s1 σ H1 D I1 q1
end
noncomputable abbrev TG:=V->St->Hp->(St->Hp->Prop)->Prop
noncomputable abbrev Fj:=List V->St->Hp->(St->Hp->Prop)->Prop
noncomputable def PG (X:Cx)(target:Expr)(t:TG):Prop :=
 ∀(pins:List (Addr×Obj)) (s:μ) (σ:St) (H:Hp) (v:V) (u:Value) (Q:St->Hp->Prop),Inv X pins σ H s->RelV v u->t v σ H Q ->
  Β (Ζ X.prog X.w) X.A (ä target X.env u) (λ_ s'=>∃σ' H',Inv X pins σ' H' s'/\Q σ' H') X.xe s
noncomputable def Kh (X:Cx)(ts:List Expr)(t:Fj):Prop :=
 ∀(pins:List (Addr×Obj)) (s:μ) (σ:St) (H:Hp) (vs:List V) (us:List Value) (Q:St->Hp->Prop),Inv X pins σ H s->aK vs us->t vs σ H Q ->
  Β (Ζ X.prog X.w) X.A (assignInOrder ((FS ts X.env).map (·.2)) us) (λ_ s'=>∃σ' H',Inv X pins σ' H' s'/\Q σ' H') X.xe s
noncomputable abbrev Hn:=V->V->V->Hp->(Hp->Prop)->Prop
noncomputable def K2 (X:Cx)(t:Hn):Prop :=
 ∀(pins:List (Addr×Obj)) (s:μ) (σ:St) (H:Hp) (o i v:V) (ov iv u:Value) (Q:Hp->Prop),Inv X pins σ H s->RelV o ov->RelV i iv->RelV v u->t o i v H Q ->
  Β (Ζ X.prog X.w) X.A (setItem ov iv u) (λ_ s'=>∃H',Inv X pins σ H' s'/\Q H') X.xe s
noncomputable abbrev XB:=V->V->Hp->VK->Prop
noncomputable def Zv (X:Cx)(op:At)(t:XB):Prop :=
 ∀(pins:List (Addr×Obj)) (s:μ) (σ:St) (H:Hp) (x y:V) (v u:Value) (Q:VK),Inv X pins σ H s->RelV x v->RelV y u->t x y H Q ->
  Β (Ζ X.prog X.w) X.A (ĳ op v u) (EP X pins σ Q) X.xe s
variable {es:List Expr}{i:Nat}{pos':No}{te:TE}{tg:Expr}{x:Str}
section
variable {X:Cx}{pos:No}
noncomputable def jZ (i:Nat):TG:=λv σ H Q=>Q (σ.set i (θ v)) H
theorem xm (hN:X.N.Nodup)(hi:X.N[i]? = θ x)(hx:Loc X.env.scope x)(hf:X.fn x=ζ\/X.env.scope.names.lookup x=θ .local:=by first|exact .inl rfl|exact .inr rfl|assumption):PG X (.Name x pos) (jZ i):=by
 intro pins s σ H v u Q I r h;exact ž (iO I hN hi hx r (λs' I'=>⟨_,H,I',h⟩) hf)
noncomputable def Ku:Fj:=λvs σ H Q=>vs=[]/\Q σ H
noncomputable def Fg (t:TG)(u:Fj):Fj:=λvs σ H Q=>∃v r,vs=v::r/\t v σ H λσ' H'=>u r σ' H' Q
theorem Di:Kh X [] Ku:=by
 intro pins s σ H vs us Q I r h;obtain⟨e,h⟩:=h;subst e;cases r;exact assignInOrder_nil ⟨σ,H,I,h⟩
theorem CO {t:TG}{u:Fj}(h1:PG X e t)(h2:Kh X es u)
  (hs:(FS (e::es) X.env).map (·.2)=ä e X.env::(FS es X.env).map (·.2):=by rfl):Kh X (e::es) (Fg t u):=by
 intro pins s σ H vs us Q I r h;obtain⟨v,vr,e1,h⟩:=h;subst e1;cases r with
 |cons r rr=>
  rw[hs];refine assignInOrder_cons (cI (h1 pins s σ H _ _ _ I r h) λ_ s1 ⟨σ1,H1,I1,q1⟩=>?_);exact h2 pins s1 σ1 H1 _ _ Q I1 rr q1
noncomputable def Bw (K:ψ)(n:Nat)(t:Fj):TG:=λv σ H Q=>∃a xs,v=.ref a/\qJ K H a xs/\xs.length=n/\t xs σ H Q
theorem Ax {k:Nat}{t:Fj}{n:Nat}(hc:X.calm=ζ)(h:Kh X es t)
  (hn:(FS es X.env).length=n:=by rfl) (OK:(FS es X.env).findIdx? (·.1)=η:=by rfl):PG X (.Tuple es k pos) (Bw X.K n t):=by
 intro pins s σ H v u Q I r hw;obtain⟨a,xs,e1,hq,hl,hw⟩:=hw;subst e1;cases r;obtain⟨aH,rv,ht,hz⟩:=I.tuple hq;refine assign_Tuple_tuple (I.ok.hd hc) ht (by simp[hn,<-hl,rv.length]) OK λh' hx=>?_
 have I1:Inv X pins σ H { s with heap:=h' }:=I.kept (t':=s.toks) λb o e=>hx b o (a8 (Α e)) e
 exact h pins _ σ H xs _ Q I1 (by simpa using rv) hw
noncomputable def K6 (to ti:TE)(t:Hn):TG:=λv σ H Q=>to σ H λo H1=>ti σ H1 λi H2=>t o i v H2 λH3=>Q σ H3
theorem Hy {o i:Expr}{to ti:TE}{t:Hn}(ho:PE X o to)(hi:PE X i ti)(hs:K2 X t)
  (ha:∀v,ä (.Subscript o i pos) X.env v=(do
   let ov <- Ç [v] (eval o X.env);let iv <- Ç [v,ov] (eval i X.env)
   ż pos
   Ç [v,ov,iv] (setItem ov iv v)
   release [v,ov,iv] []):=by intro _;rfl):PG X (.Subscript o i pos) (K6 to ti t):=by
 intro pins s σ H v u Q I r h;rw[ha];refine ν (xL (cI (ho pins s σ H _ I h) λov s1 ⟨x,H1,I1,r1,q1⟩=>?_));refine ν (xL (cI (hi pins s1 σ H1 _ I1 q1) λiv s2 ⟨y,H2,I2,r2,q2⟩=>?_));refine ν (EQ (ν (xL (cI (hs pins s2 σ H2 x y v ov iv u _ I2 r1 r2 r q2) λ_ s3 ⟨H3,I3,q3⟩=>?_))));exact wpAny_release ⟨σ,H3,I3,q3⟩
def r9 (te:TE)(g:TG):TS:=λD σ H=>te σ H λx H1=>g x σ H1 D.nx
theorem BQ {g:TG}(he:PE X e te)(hg:PG X tg g)(hs:ĭ [tg] e pos.line X.env=pure ε:=by rfl)(hw:p_ [tg] e X.env=pure η:=by rfl)
  (h1:(FS [tg] X.env).map (·.2)=[ä tg X.env]:=by rfl):PS X (.Assign [tg] e pos) (r9 te g):=by
 intro pins s σ H D I h;refine wpAny_Assign_stores (cI (he pins s σ H _ I h) λv s1 ⟨x,H1,I1,r1,q1⟩=>?_) hs hw;rw[h1];exact cI (hg pins s1 σ H1 x v _ I1 r1 q1) λ_ s2 q=>q
theorem pQ {i:Nat}(hN:X.N.Nodup)(hi:X.N[i]? = θ x)(hx:Loc X.env.scope x)(he:PE X e te)(hs:ZC e (θ (.Name x pos')) pos.line X.env=pure ε:=by rfl)(hf:X.fn x=ζ\/X.env.scope.names.lookup x=θ .local:=by first|exact .inl rfl|exact .inr rfl|assumption) :
  PS X (.Assign [.Name x pos'] e pos) (r9 te (jZ i)):=by
 intro pins s σ H D I h;refine wpAny_Assign_Name (cI (he pins s σ H _ I h) λv s1 ⟨y,H1,I1,r1,q1⟩=>?_) hs;exact iO I1 hN hi hx r1 (λs2 I2=>⟨_,H1,I2,q1⟩) hf
def Um (i:Nat)(te:TE)(ti:XB):TS:=λD σ H=>∃x,σ[i]? = θ (θ x)/\te σ H λy H1=>ti x y H1 λz H2=>D.nx (σ.set i (θ z)) H2
theorem HU {op:At}{ti:XB}(hN:X.N.Nodup)(hi:X.N[i]? = θ x)(hx:Loc X.env.scope x)(he:PE X e te)(ho:Zv X op ti)(hf:X.fn x=ζ\/X.env.scope.names.lookup x=θ .local:=by first|exact .inl rfl|exact .inr rfl|assumption) :
  PS X (.AugAssign (.Name x pos') op e pos) (Um i te ti):=by
 intro pins s σ H D I h;obtain⟨v,e1,h⟩:=h;obtain⟨m,hn,hl⟩:=I.loc;have Qe:yj X.env.scope x:=by rcases hx with k|k;exact .inl k;exact .inr (.inl k)
 obtain⟨u,r,l⟩:=hl i x v hi e1 Qe;refine wpAny_AugAssign_Name ?_;have go:Β (Ζ X.prog X.w) X.A (eval e X.env) (λw s₂=>Β (Ζ X.prog X.w) X.A (ĳ op u w) (λr s₃=>Β (Ζ X.prog X.w) X.A (d_ X.env x r) (λ_=>SP X pins D .next) X.xe s₃) X.xe s₂) X.xe s:=by
  refine cI (he pins s σ H _ I h) λw s1 ⟨y,H1,I1,r1,q1⟩=>?_
  refine cI (ho pins s1 σ H1 v y u w _ I1 r r1 q1) λz s2 ⟨zv,H2,I2,r2,q2⟩=>?_
  exact iO I2 hN hi hx r2 (λs3 I3=>⟨_,H2,I3,q2⟩) hf
 rcases l with ⟨hk,hm⟩|⟨hk,c,hc,Nc⟩
 .exact TD I.ok.kind hk hn hm go
 .rcases hk with hk|hk
  .exact Ť I.ok.kind hk hc Nc go
  .rcases hx with k|k
   .have:X.env.scope.names.lookup x=θ .free:=hk;rw[k] at this;cases this
   .have:X.env.scope.names.lookup x=θ .free:=hk;rw[k] at this;cases this
end
section
variable {X:Cx}{pos:No}
def IZ (c:TT)(tb:TS):TS:=λD σ H=>∃W:Nat->St->Hp->Prop,(∃m,W m σ H)/\∀m σ H,W m σ H ->
 c σ H λb H1=>if b=ζ then ∃N:St->Hp->Prop,(∀σ' H',N σ' H'->∃m',m'<m/\W m' σ' H')/\tb { D with nx:=N,ct:=N,bk:=D.nx } σ H1 else D.nx σ H1
theorem A9 {body:List Stmt}{tb:TS}(hp:ZN (Ζ X.prog X.w) X.A X.env X.xe)(hc:PT X c tc)(hb:hU X body tb):PS X (.While c body [] pos) (IZ tc tb):=by
 intro pins s σ H D I h;obtain⟨W,⟨m0,w0⟩,turn⟩:=h;refine wpAny_While (codeAny_whileLoop (λn s'=>∃σ' H',Inv X pins σ' H' s'/\W n σ' H') ?_ m0 ⟨σ,H,I,w0⟩);rintro n s1 ⟨σ1,H1,I1,w1⟩;refine Ix hp (cI (hc pins s1 σ1 H1 _ I1 (turn n σ1 H1 w1)) λb s2 ⟨H2,I2,q2⟩=>?_);cases b with
 |true=>
  obtain⟨N,hN,q2⟩:=q2;rw[if_pos rfl];refine Ix hp (cI (hb pins s2 σ1 H2 _ I2 q2) λf s3 q3=>?_);cases f with
  |next=>
   obtain⟨σ3,H3,I3,n3⟩:=q3;obtain⟨m',hm,w3⟩:=hN σ3 H3 n3;exact⟨m',hm,σ3,H3,I3,w3⟩
  |cont=>
   obtain⟨σ3,H3,I3,n3⟩:=q3;obtain⟨m',hm,w3⟩:=hN σ3 H3 n3;exact⟨m',hm,σ3,H3,I3,w3⟩
  |brk=>exact q3
  |ret v=>exact q3
 |false=>
  rw[if_neg ay];exact Db ⟨σ1,H2,I2,q2⟩
end
structure It where
 go:Nat->Hp->Prop
 Q9:Nat->Hp->V->Hp->Prop
 stop:Nat->Hp->Prop
noncomputable def kF (X:Cx)(pins:List (Addr×Obj))(H:Hp)(b:Addr):Prop :=
 H b=η/\b≠X.env.locals/\b∉X.fs/\(b∈X.ex\/X.s₀.heap.objs.size<=b)/\(∀x c,X.env.cells.lookup x=θ c->c≠b)/\∀p∈X.pn++pins,p.1≠b
theorem Inv.ND {σ:St}{H':Hp}{b:Addr}(I:Inv X pins σ H s)(hb:s.heap.objs.size<=b)(hn:H' b=η):kF X pins H' b:=by
 refine⟨hn,Ĝ (av I.lt hb),I.RD hb,.inr (bp I.sz hb),λx c e z=>?_,λp hp z=>?_⟩
 .obtain⟨v,q⟩:=I.cell x c e;exact absurd (av q.lt (by rw[z];exact hb)) (fe _)
 .exact absurd (av (Α (I.pin p hp).1) (by rw[z];exact hb)) (fe _)
structure Turn (P:Program)(w:Ξ)(K:ψ)(tg:Expr)(J:It)(fp:List Addr)(it:Addr)(tn:Nat->Heap->Prop):Prop where
 mem:it∈fp
 obj:∀i h,tn i h->∀b∈fp,∃o,h.get? b=θ o/\∀v,o.data≠.cell v
 keep:∀i h h',tn i h->(∀b∈fp,∀o,h.get? b=θ o->h'.get? b=θ o)->tn i h'
 item:∀(X:Cx),X.prog=P->X.w=w->X.K=K->X.calm=ζ->∀(i:Nat) (pins:List (Addr×Obj)) (s:μ) (σ:St) (H:Hp) (E:Value->μ->Prop),Inv X pins σ H s->(∀b∈fp,kF X pins H b)->tn i s.heap->J.go i H ->
  Β (Ζ P w) X.A (pyNext (.ref it)) (λr s1=>∃u,r=θ u /\
   Β (Ζ P w) X.A (Z3 tg (.ref it) u) (λ_ s2=>∃x H',Inv X pins σ H' s2/\RelV x u/\J.Q9 i H x H'/\tn (i+1) s2.heap/\∀b∈fp,H' b=η) E s1) E s
 done:∀(X:Cx),X.prog=P->X.w=w->X.K=K->X.calm=ζ->∀(i:Nat) (pins:List (Addr×Obj)) (s:μ) (σ:St) (H:Hp) (E:Value->μ->Prop),Inv X pins σ H s->(∀b∈fp,kF X pins H b)->tn i s.heap->J.stop i H ->
  Β (Ζ P w) X.A (pyNext (.ref it)) (λr s1=>r=η/\Inv X pins σ H s1) E s
 self:∀(A:Ρ) (i:Nat) (s:μ) (Q:Value->μ->Prop) (E:Value->μ->Prop),tn i s.heap->Q (.ref it) s->Β (Ζ P w) A (ĝ (.ref it)) Q E s
noncomputable abbrev TI:=St->Hp->(It->Hp->Prop)->Prop
noncomputable def TX (X:Cx)(pins:List (Addr×Obj))(σ:St)(tg:Expr)(R:It->Hp->Prop)(RU:Value)(s2:μ):Prop :=
 ∃(it:Addr) (fp:List Addr) (tn:Nat->Heap->Prop) (J:It) (H':Hp),RU=.ref it/\Inv X pins σ H' s2/\Turn X.prog X.w X.K tg J fp it tn/\tn 0 s2.heap/\(∀b∈fp,kF X pins H' b)/\R J H'
noncomputable def PI (X:Cx)(tg ul:Expr)(wi:TI):Prop :=
 ∀(pins:List (Addr×Obj)) (s:μ) (σ:St) (H:Hp) (R:It->Hp->Prop),Inv X pins σ H s->wi σ H R ->
  Β (Ζ X.prog X.w) X.A (eval ul X.env) (λv s1=>Β (Ζ X.prog X.w) X.A (ĝ v) (TX X pins σ tg R) X.xe s1) X.xe s
theorem Ak {M:Ě}{A:Ρ}{E:Value->μ->Prop}{s:μ}{it:Addr}{o:Obj}{n:String}{vs:Array Value}{Q:Unit->μ->Prop}(ho:s.heap.get? it=θ o)(hc:o.cls=.type n)(hd:o.data=.fields vs)
  (hn:["enumerate","zip","dict_itemiterator","dict_reverseitemiterator","odict_iterator","itertools.zip_longest","itertools.pairwise"].contains n=ε) (hQ:Q () s):Β M A (Z3 tg (.ref it) u) Q E s:=by
 unfold Z3;cases tg<;>first
  |exact Μ hQ
  | (cases u<;>first
    |exact Μ hQ
    | (refine ν (wpAny_load ho ?_)
       rw[hc,hd];show Β M A (if (["enumerate","zip","dict_itemiterator","dict_reverseitemiterator","odict_iterator","itertools.zip_longest","itertools.pairwise"].contains n&&vs[0]?==θ (À _))=ζ then _ else _) Q E s;rw[if_neg (by intro h;rw[hn,ť] at h;cases h)];exact Μ hQ))
noncomputable def XE (K:ψ)(a:Addr):It :=
 ⟨λi H=>∃xs x,mh K H a xs/\xs[i]? = θ x,λi H x H'=>H'=H/\∀xs,mh K H a xs->xs[i]? = θ x,λi H=>∃xs,mh K H a xs/\xs.length<=i⟩
noncomputable def XD (K:ψ)(a:Addr):It :=
 ⟨λi H=>∃xs x,qJ K H a xs/\xs[i]? = θ x,λi H x H'=>H'=H/\∀xs,qJ K H a xs->xs[i]? = θ x,λi H=>∃xs,qJ K H a xs/\xs.length<=i⟩
variable {P:Program}{w:Ξ}
theorem y8 {K:ψ}(a it:Addr):Turn P w K tg (XE K a) [it] it (λi h=>h.IsListIter it a i) where
 mem:=by simp
 obj:=λi h st b hb=>by
  have e:b=it:=by simpa using hb
  subst e;obtain⟨o,e,c,d⟩:=st;exact⟨o,e,λv z=>by rw[d] at z;cases z⟩
 keep:=λi h h' st k=>st.at λo e=>k it (by simp) o e
 item:=by
  intro X hP hw hK hc i pins s σ H E I hf st hg;subst hP hw hK;obtain⟨xs,x,hq,hx⟩:=hg;obtain⟨aH,rv,p,hz⟩:=I.list hq;obtain⟨u,hu,ru⟩:=rv.get hx;obtain⟨f0,f1,f2,f3,f4,f5⟩:=hf it (by simp);refine wpAny_pyNext_list_item st p.isList (x:=u) (by simpa using hu) λh' NP sb=>?_
  have I1:Inv X pins σ H { s with heap:=h' }:=I.turned (t':=s.toks) (λb o hb e=>(sb.2 b hb).trans e) f0 f1 f3 f4 f5;obtain⟨o,e,c,d⟩:=id NP;exact⟨u,rfl,Ak (s:={ s with heap:=h' }) e c d (by decide) ⟨x,H,I1,ru,⟨rfl,λys hy=>by rw[I.Mt hy hq];exact hx⟩,NP,λb hb=>(hf b hb).1⟩⟩
 done:=by
  intro X hP hw hK hc i pins s σ H E I hf st hg;subst hP hw hK;obtain⟨xs,hq,hx⟩:=hg;obtain⟨aH,rv,p,hz⟩:=I.list hq;obtain⟨f0,f1,f2,f3,f4,f5⟩:=hf it (by simp);have hl:=rv.length;exact wpAny_pyNext_list_end (I.ok.hd hc) st p.isList (by simp;omega) λh' eb=>⟨rfl,I.turned (t':=s.toks) (λb o hb e=>eb b o hb e) f0 f1 f3 f4 f5⟩
 self:=λ_ _ _ _ _ st h=>wpAny_pyIter_listiter st h
theorem wm {K:ψ}(a it:Addr):Turn P w K tg (XD K a) [it] it (λi h=>h.IsTupleIter it a i) where
 mem:=by simp
 obj:=λi h st b hb=>by
  have e:b=it:=by simpa using hb
  subst e;obtain⟨o,e,c,d⟩:=st;exact⟨o,e,λv z=>by rw[d] at z;cases z⟩
 keep:=λi h h' st k=>st.at λo e=>k it (by simp) o e
 item:=by
  intro X hP hw hK hc i pins s σ H E I hf st hg;subst hP hw hK;obtain⟨xs,x,hq,hx⟩:=hg;obtain⟨aH,rv,p,hz⟩:=I.tuple hq;obtain⟨u,hu,ru⟩:=rv.get hx;obtain⟨f0,f1,f2,f3,f4,f5⟩:=hf it (by simp);refine wpAny_pyNext_tuple_item st (show s.heap.IsTuple a aH.toArray from p) (x:=u) (by simpa using hu) λh' NP sb=>?_
  have I1:Inv X pins σ H { s with heap:=h' }:=I.turned (t':=s.toks) (λb o hb e=>(sb.2 b hb).trans e) f0 f1 f3 f4 f5;obtain⟨o,e,c,d⟩:=id NP;exact⟨u,rfl,Ak (s:={ s with heap:=h' }) e c d (by decide) ⟨x,H,I1,ru,⟨rfl,λys hy=>by rw[I.MQ hy hq];exact hx⟩,NP,λb hb=>(hf b hb).1⟩⟩
 done:=by
  intro X hP hw hK hc i pins s σ H E I hf st hg;subst hP hw hK;obtain⟨xs,hq,hx⟩:=hg;obtain⟨aH,rv,p,hz⟩:=I.tuple hq;obtain⟨f0,f1,f2,f3,f4,f5⟩:=hf it (by simp);have hl:=rv.length;exact wpAny_pyNext_tuple_end (I.ok.hd hc) st (show s.heap.IsTuple a aH.toArray from p) (by simp;omega) λh' eb=>⟨rfl,I.turned (t':=s.toks) (λb o hb e=>eb b o hb e) f0 f1 f3 f4 f5⟩
 self:=λ_ _ _ _ _ st h=>wpAny_pyIter_tupleiter st h
end L2
namespace L2
open PySem PySem.Spec PyProof.Rows
variable {H:Hp}{fp:List Addr}{h:Heap}{pins:List (Addr×Obj)}{s:μ}
section
variable {X:Cx}{tg:Expr}
def Ul (wi:TI)(g:TG)(tb:TS):TS:=λD σ H=>wi σ H λJ H1=>∃W:Nat->Nat->St->Hp->Prop,(∃m,W 0 m σ H1)/\∀i m σ H,W i m σ H ->
 (J.stop i H/\D.nx σ H)\/(J.go i H/\∃N:St->Hp->Prop,(∀σ' H',N σ' H'->∃m',m'<m/\W (i+1) m' σ' H')/\∀x H',J.Q9 i H x H'->g x σ H' λσ2 H2=>tb { D with nx:=N,ct:=N,bk:=D.nx } σ2 H2)
noncomputable def pf (fp:List Addr)(h:Heap):List (Addr×Obj):=fp.filterMap λb=>(h.get? b).map λo=>(b,o)
theorem fX {b:Addr}{o:Obj}(hb:b∈fp)(e:h.get? b=θ o):(b,o)∈pf fp h:=KM.mpr ⟨b,hb,by rw[e];rfl⟩
theorem za {p:Addr×Obj}(hp:p∈pf fp h):p.1∈fp/\h.get? p.1=θ p.2:=by
 obtain⟨b,hb,e⟩:=KM.mp hp;cases q:h.get? b with
 |none=>rw[q] at e;cases e
 |some o=>
  rw[q] at e;have e':(b,o)=p:=dz e;subst e';exact⟨hb,q⟩
theorem Inv.pinned {σ:St}{fp:List Addr}(I:Inv X pins σ H s)(hf:∀b∈fp,kF X pins H b)(ho:∀b∈fp,∃o,s.heap.get? b=θ o/\∀v,o.data≠.cell v):Inv X (pins++pf fp s.heap) σ H s :=
 I.NY λp hp=>(ig.mp hp).elim (λz=>I.pin p (ao _ z)) λz=>by
  obtain⟨hb,e⟩:=za z;obtain⟨f0,f1,f2,_⟩:=hf p.1 hb;obtain⟨o,e',d⟩:=ho p.1 hb;rw[e] at e';cases e';exact⟨e,f0,f1,f2,d⟩
theorem Inv.MC {pl:List (Addr×Obj)}{σ:St}(I:Inv X (pins++pl) σ H s):Inv X pins σ H s:=I.NY λp hp=>I.pin p (ao _ (ax _ hp))
theorem Br {ul:Expr}{body:List Stmt}{wi:TI}{g:TG}{tb:TS}{pos:No}(hp:ZN (Ζ X.prog X.w) X.A X.env X.xe)(hc:X.calm=ζ)(hi:PI X tg ul wi)(hg:PG X tg g)(hb:hU X body tb)
  (hs:∀x,Do ul X.env x=pure x:=by intro _;rfl):PS X (.For tg ul body [] pos) (Ul wi g tb):=by
 intro pins s σ H D I h;refine wpAny_For (cI (hi pins s σ H _ I h) λv s1 h1=>cI h1 λRU s2 h2=>?_) hs;obtain⟨it,fp,tn,J,H2,e,I2,T,Ri,f2,W,⟨m0,w0⟩,turn⟩:=h2;subst e;have NO:∀{H':Hp},(∀b∈fp,H' b=η)->∀b∈fp,kF X pins H' b:=λhn b hb=>⟨hn b hb,(f2 b hb).2⟩
 refine codeAny_forLoop_any (λn s'=>∃i σ' H',Inv X pins σ' H' s'/\tn i s'.heap/\(∀b∈fp,H' b=η)/\W i n σ' H') ?_ m0 ⟨0,σ,H2,I2,Ri,λb hb=>(f2 b hb).1,w0⟩;rintro n s3 ⟨i,σ3,H3,I3,XU,YY,w3⟩;rcases turn i n σ3 H3 w3 with ⟨stop,qn⟩|⟨go,N,hN,step⟩
 .refine Ix hp (cI (T.done X rfl rfl rfl hc i pins s3 σ3 H3 X.xe I3 (NO YY) XU stop) λr s4 ⟨hr,I4⟩=>?_);subst hr;exact Db ⟨σ3,H3,I4,qn⟩
 .refine Ix hp (cI (T.item X rfl rfl rfl hc i pins s3 σ3 H3 X.xe I3 (NO YY) XU go) λr s4 ⟨u,hr,h4⟩=>?_);subst hr;refine Ix hp (cI h4 λ_ s5 ⟨x,H5,I5,r5,y5,QX,TL⟩=>?_);have I5':=I5.pinned (NO TL) (T.obj _ _ QX);refine Ix hp (cI (hg _ s5 σ3 H5 x u _ I5' r5 (step x H5 y5)) λ_ s6 ⟨σ6,H6,I6,q6⟩=>?_);refine Ix hp (cI (hb _ s6 σ6 H6 _ I6 q6) λf s7 q7=>?_);have again:∀{σ7:St}{H7:Hp},Inv X (pins++pf fp s5.heap) σ7 H7 s7->N σ7 H7->∃m,m<n/\∃i σ' H',Inv X pins σ' H' s7/\tn i s7.heap/\(∀b∈fp,H' b=η)/\W i m σ' H':=λ{σ7 H7} I7 n7=>by
   obtain⟨m',hm,w7⟩:=hN σ7 H7 n7;refine⟨m',hm,i+1,σ7,H7,I7.MC,T.keep _ _ _ QX λb hb o e=>(I7.pin (b,o) (ao _ (ao _ (fX hb e)))).1,λb hb=>?_,w7⟩;obtain⟨o,e,d⟩:=T.obj _ _ QX b hb;exact (I7.pin (b,o) (ao _ (ao _ (fX hb e)))).2.1
  cases f with
  |next=>obtain⟨σ7,H7,I7,n7⟩:=q7;exact again I7 n7
  |cont=>obtain⟨σ7,H7,I7,n7⟩:=q7;exact again I7 n7
  |brk=>obtain⟨σ7,H7,I7,q7⟩:=q7;exact⟨σ7,H7,I7.MC,q7⟩
  |ret v=>obtain⟨x7,σ7,H7,I7,r7,q7⟩:=q7;exact⟨x7,σ7,H7,I7.MC,r7,q7⟩
end
end L2
namespace L2
open PySem PySem.Spec PyProof.Rows
noncomputable abbrev R2:=V->V->Hp->VK->Prop
noncomputable def lh (X:Cx)(f:Value->Value->o? Value)(r:R2):Prop :=
 ∀(pins:List (Addr×Obj)) (s:μ) (σ:St) (H:Hp) (x y:V) (v u:Value) (Q:VK),Inv X pins σ H s->RelV x v->RelV y u->r x y H Q ->
  Β (Ζ X.prog X.w) X.A (f v u) (EP X pins σ Q) X.xe s
noncomputable def Xz (X:Cx)(f:Value->o? Value)(r:V->Hp->VK->Prop):Prop :=
 ∀(pins:List (Addr×Obj)) (s:μ) (σ:St) (H:Hp) (x:V) (v:Value) (Q:VK),Inv X pins σ H s->RelV x v->r x H Q ->
  Β (Ζ X.prog X.w) X.A (f v) (EP X pins σ Q) X.xe s
noncomputable def gY (X:Cx)(f:Value)(r:List V->Hp->VK->Prop):Prop :=
 ∀(pins:List (Addr×Obj)) (s:μ) (σ:St) (H:Hp) (xs:List V) (us:List Value) (Q:VK),Inv X pins σ H s->aK xs us->r xs H Q ->
  Β (Ζ X.prog X.w) X.A (call f us) (EP X pins σ Q) X.xe s
noncomputable def XA (X:Cx)(r:V->Hp->(Bool->Hp->Prop)->Prop):Prop :=
 ∀(pins:List (Addr×Obj)) (s:μ) (σ:St) (H:Hp) (x:V) (v:Value) (Q:Bool->Hp->Prop),Inv X pins σ H s->RelV x v->r x H Q ->
  Β (Ζ X.prog X.w) X.A (l? v) (TP X pins σ Q) X.xe s
def JB (r:R2)(ta tb:TE):TE:=λσ H Q=>ta σ H λx H1=>tb σ H1 λy H2=>r x y H2 Q
def tUn (r:V->Hp->VK->Prop)(ta:TE):TE:=λσ H Q=>ta σ H λx H1=>r x H1 Q
noncomputable def rI (C:Int->Int->Prop)(g:Int->Int->V):R2:=λx y H Q=>∃i j,x=.int i/\y=.int j/\C i j/\Q (g i j) H
noncomputable def yQ (g:Int->Int->V):R2:=λx y H Q=>∃i j,x=.int i/\y=.int j/\Q (g i j) H
def rU (g:Int->V):V->Hp->VK->Prop:=λx H Q=>∃i,x=.int i/\Q (g i) H
variable {f:Value->Value->o? Value}{g:Int->Int->Int}{r:R2}
section
variable {X:Cx}{a b c:Expr}{ta tb tc:TE}{pos:No}
theorem GB (ha:PE X a ta)(hb:PE X b tb){pins:List (Addr×Obj)}{s:μ}{σ:St}{H:Hp}{R:V->V->Hp->Prop}(I:Inv X pins σ H s)
  (h:ta σ H λx H1=>tb σ H1 λy H2=>R x y H2) {Q:Value->μ->Prop}
  (hf:∀v u s2 x y H2,Inv X pins σ H2 s2->RelV x v->RelV y u->R x y H2->Β (Ζ X.prog X.w) X.A (f v u) Q X.xe s2) :
  Β (Ζ X.prog X.w) X.A (eval a X.env) (λv s₁=>Β (Ζ X.prog X.w) X.A (eval b X.env) (λu s₂=>Β (Ζ X.prog X.w) X.A (f v u) Q X.xe s₂) X.xe s₁) X.xe s:=by
 refine cI (ha pins s σ H _ I h) λv s1 ⟨x,H1,I1,r1,q1⟩=>?_
 refine cI (hb pins s1 σ H1 _ I1 q1) λu s2 ⟨y,H2,I2,r2,q2⟩=>?_
 exact hf v u s2 x y H2 I2 r1 r2 q2
theorem JX {op:At}(ho:lh X (IN op) r)(ha:PE X a ta)(hb:PE X b tb):PE X (.BinOp a op b pos) (JB r ta tb):=by
 intro pins s σ H Q I h;exact wpAny_BinOp (GB ha hb I h λv u s2 x y H2 I2 rx ry q=>ho pins s2 σ H2 x y v u Q I2 rx ry q)
theorem JJ {op:UnaryOp}{r:V->Hp->VK->Prop}(ho:Xz X (unaryOp op) r)(ha:PE X a ta):PE X (.UnaryOp op a pos) (tUn r ta):=by
 intro pins s σ H Q I h;exact UnaryOp_ (cI (ha pins s σ H _ I h) λv s1 ⟨x,H1,I1,r1,q1⟩=>ho pins s1 σ H1 x v Q I1 r1 q1)
theorem Tf {C:Int->Int->Prop}
  (rule:∀(i j:Int) (t u:Þ) (s:μ) (Q:Value->μ->Prop) (E:Value->μ->Prop),C i j->Q (.int (g i j) s.toks) { s with toks:=s.toks+1 }->Β (Ζ X.prog X.w) X.A (f (.int i t) (.int j u)) Q E s) :
  lh X f (rI C λi j=>.int (g i j)):=by
 intro pins s σ H x y v u Q I rx ry h;obtain⟨i,j,rfl,rfl,hc,q⟩:=h;obtain⟨t,rfl⟩:=rx;obtain⟨t',rfl⟩:=ry;exact rule i j t t' s _ _ hc ⟨.int (g i j),H,I.tok _,⟨_,rfl⟩,q⟩
theorem zP 
  (rule:∀(i j:Int) (t u:Þ) (s:μ) (Q:Value->μ->Prop) (E:Value->μ->Prop),Q (.int (g i j) s.toks) { s with toks:=s.toks+1 }->Β (Ζ X.prog X.w) X.A (f (.int i t) (.int j u)) Q E s) :
  lh X f (yQ λi j=>.int (g i j)):=by
 intro pins s σ H x y v u Q I rx ry h;obtain⟨i,j,rfl,rfl,q⟩:=h;obtain⟨t,rfl⟩:=rx;obtain⟨t',rfl⟩:=ry;exact rule i j t t' s _ _ ⟨.int (g i j),H,I.tok _,⟨_,rfl⟩,q⟩
theorem DQ {g:Int->Int->Bool}
  (rule:∀(i j:Int) (t u:Þ) (s:μ) (Q:Value->μ->Prop) (E:Value->μ->Prop),Q (.bool (g i j)) s->Β (Ζ X.prog X.w) X.A (f (.int i t) (.int j u)) Q E s) :
  lh X f (yQ λi j=>.bl (g i j)):=by
 intro pins s σ H x y v u Q I rx ry h;obtain⟨i,j,rfl,rfl,q⟩:=h;obtain⟨t,rfl⟩:=rx;obtain⟨t',rfl⟩:=ry;exact rule i j t t' s _ _ ⟨.bl (g i j),H,I,rfl,q⟩
def XJ (i j:Int):Prop:=0<j/\j<1073741824
def Ia (i j:Int):Prop:=(-(2 ^ 64)<i/\i<2 ^ 64)\/(-(2 ^ 64)<j/\j<2 ^ 64)
theorem Ia.ok {i j:Int}(h:Ia i j):IntMulOk i j:=by
 rcases h with ⟨h1,h2⟩|⟨h1,h2⟩
 .exact .of_left (p! h1 h2)
 .exact .of_right (p! h1 h2)
theorem vF (k:Nat):(0:Int)<=2 ^ k:=by
 rw[two_pow_cast];exact i5 _
theorem IB:lh X (IN .Add) (yQ λi j=>.int (i+j)):=zP λ_ _ _ _ _ _ _ q=>add_int q
theorem HP:lh X (IN .Sub) (yQ λi j=>.int (i-j)):=zP λ_ _ _ _ _ _ _ q=>sub_int q
theorem GH:lh X (IN .Mult) (rI Ia λi j=>.int (i*j)):=Tf λ_ _ _ _ _ _ _ hc q=>mul_int q hc.ok
theorem Dj:lh X (IN .FloorDiv) (rI XJ λi j=>.int (i / j)):=Tf λi j _ _ _ _ _ hc q=>by
 have h1:(0:Int)<j:=hc.1;have h2:j<1073741824:=hc.2;exact floordiv_int (by omega) (by rw[Ó i (by omega)];exact q) (.inl (PyProof.noPylong_small (by omega)))
theorem IC:lh X (IN .Mod) (rI (λ_ j=>0<j) λi j=>.int (i%j)):=Tf λi j _ _ _ _ _ hc q=>by
 have h1:(0:Int)<j:=hc;exact mod_int' (by omega) (by rw[Int.fmod_eq_emod_of_nonneg i (by omega)];exact q)
theorem Iq:lh X (IN .RShift) (rI (λ_ j=>0<=j) λi j=>.int (i / 2 ^ j.toNat)):=Tf λi j _ _ _ _ _ hc q=>
 rshift_int hc (by rw[Ó i (vF _)];exact q)
theorem ID:lh X (IN .BitAnd) (yQ λi j=>.int (Go i j)):=zP λ_ _ _ _ _ _ _ q=>and_int q
theorem GG:lh X (IN .BitXor) (yQ λi j=>.int (SB i j)):=zP λ_ _ _ _ _ _ _ q=>xor_int q
theorem Dc:lh X (ĳ .Add) (yQ λi j=>.int (i+j)):=zP λ_ _ _ _ _ _ _ q=>iadd_int q
theorem Dn:lh X (ĳ .Sub) (yQ λi j=>.int (i-j)):=zP λ_ _ _ _ _ _ _ q=>isub_int q
theorem unI {f:Value->o? Value}{g:Int->Int}
  (rule:∀(i:Int) (t:Þ) (s:μ) (Q:Value->μ->Prop) (E:Value->μ->Prop),Q (.int (g i) s.toks) { s with toks:=s.toks+1 }->Β (Ζ X.prog X.w) X.A (f (.int i t)) Q E s) :
  Xz X f (rU λi=>.int (g i)):=by
 intro pins s σ H x v Q I rx h;obtain⟨i,rfl,q⟩:=h;obtain⟨t,rfl⟩:=rx;exact rule i t s _ _ ⟨.int (g i),H,I.tok _,⟨_,rfl⟩,q⟩
theorem Hx:Xz X (unaryOp .USub) (rU λi=>.int (-i)):=unI λ_ _ _ _ _ q=>neg_int q
end
variable {op:Z2}
section
variable {X:Cx}{a b c:Expr}{ta tb tc:TE}{pos:No}
theorem Jp:lh X (Da .Lt) (yQ λi j=>.bl (decide (i<j))):=DQ λ_ _ _ _ _ _ _ q=>lt_int q
theorem Jt:lh X (Da .LtE) (yQ λi j=>.bl (decide (i<=j))):=DQ λ_ _ _ _ _ _ _ q=>le_int q
theorem JQ:lh X (Da .Gt) (yQ λi j=>.bl (decide (j<i))):=DQ λ_ _ _ _ _ _ _ q=>gt_int q
theorem Ki:lh X (Da .GtE) (yQ λi j=>.bl (decide (j<=i))):=DQ λ_ _ _ _ _ _ _ q=>ge_int q
theorem Dw (ho:lh X (Da op) r)(ha:PE X a ta)(hb:PE X b tb)(hm:xz op b=ε):PE X (.Compare a [op] [b] pos) (JB r ta tb):=by
 intro pins s σ H Q I h;exact l! (GB ha hb I h λv u s2 x y H2 I2 rx ry q=>ho pins s2 σ H2 x y v u Q I2 rx ry q) hm
def J7 (t:TE):TT:=λσ H Q=>t σ H λx H'=>∃k,x=.bl k/\Q k H'
theorem D6 (ho:lh X (Da op) r)(ha:PE X a ta)(hb:PE X b tb)(hm:xz op b=ε):PT X (.Compare a [op] [b] pos) (J7 (JB r ta tb)):=by
 intro pins s σ H Q I h;refine wpAny_isTrue_Compare1 (cI (ha pins s σ H _ I h) λv s1 ⟨x,H1,I1,r1,q1⟩=>cI (hb pins s1 σ H1 _ I1 q1) λu s2 ⟨y,H2,I2,r2,q2⟩=>
  cI (ho pins s2 σ H2 x y v u _ I2 r1 r2 q2) λc s3 ⟨z,H3,I3,r3,k,e,q3⟩=>?_) hm
 subst e;cases r3;exact wS ⟨H3,I3,q3⟩
noncomputable def IH (K:ψ)(x:V)(H:Hp)(k:Bool):Prop :=
 match x with
 |.Mh=>k=ε
 |.bl b=>k=b
 |.int i=>k=(i != 0)
 |.str y=>y.length<=sizeLine/\k=((y.length:Int) != 0)
 |.SM y=>y.size<=sizeLine/\k=((y.size:Int) != 0)
 |.ref p=>(∃xs,mh K H p xs/\k = !xs.isEmpty)\/(∃xs,qJ K H p xs/\k = !xs.isEmpty)\/∃kvs,H p=θ (.dK kvs)/\k = !kvs.isEmpty
 |_=>False
theorem vP {κ:Type}{kvs:List (κ×V)}{vs:List (κ×Value)}(r:KV kvs vs):(!vs.isEmpty) = !kvs.isEmpty:=by
 cases r<;>rfl
theorem oN {xs:List V}{aH:List Value}(r:aK xs aH):(!aH.toArray.isEmpty) = !xs.isEmpty:=by
 cases r<;>simp
theorem oM:(sizeLine:Nat)<2 ^ 63:=by rw[Uf];decide
theorem GR:XA X (λx H Q=>∃k,IH X.K x H k/\Q k H):=by
 intro pins s σ H x v Q I rx h;obtain⟨k,e,q⟩:=h;have hl:=oM;have hs:sizeLine=16777216:=Uf;cases x with
 |Mh=>
  cases rx;have e':k=ε:=e;subst e';exact truthy_none ⟨H,I,q⟩
 |bl b=>
  cases rx;have e':k=b:=e;subst e';exact wS ⟨H,I,q⟩
 |int i=>
  obtain⟨t,rfl⟩:=rx;have e':k=(i != 0):=e;subst e';exact PySem.P.truthy_int ⟨H,I,q⟩
 |str y=>
  obtain⟨t,rfl⟩:=rx;obtain⟨hy,e'⟩:y.length<=sizeLine/\k=((y.length:Int) != 0):=e;subst e';exact PySem.P.truthy_str (by omega) ⟨H,I.tok _,q⟩
 |SM y=>
  obtain⟨t,rfl⟩:=rx;obtain⟨hy,e'⟩:y.size<=sizeLine/\k=((y.size:Int) != 0):=e;subst e';exact PySem.W.truthy_bytes (by omega) ⟨H,I.tok _,q⟩
 |ref p=>
  cases rx;have e':(∃xs,mh X.K H p xs/\k = !xs.isEmpty)\/(∃xs,qJ X.K H p xs/\k = !xs.isEmpty)\/∃kvs,H p=θ (.dK kvs)/\k = !kvs.isEmpty:=e;rcases e' with ⟨xs,hx,e'⟩|⟨xs,hx,e'⟩|⟨kvs,hx,e'⟩
  .subst e';obtain⟨aH,r,pl,hz⟩:=I.list hx;have hlen:=r.length;exact wpAny_truthy_list pl.isList (by simp only[ak];omega) ⟨H,I.tok _,by rw[oN r];exact q⟩
  .subst e';obtain⟨aH,r,pl,hz⟩:=I.tuple hx;have hlen:=r.length;exact truthy_tuple pl (by simp only[ak];omega) ⟨H,I.tok _,by rw[oN r];exact q⟩
  .subst e';obtain⟨hz,hS,vs,r,m⟩:kvs.length<=sizeLine/\(p==ů)=ε/\∃vs,KV kvs vs/\s.heap.DictOf (bX X.prog X.w) p vs:=I.Mc p _ hx;have hlen:kvs.length=vs.length:=Ŗ r;exact wpAny_truthy_dict hS m (by omega) ⟨H,I.tok _,by rw[vP r];exact q⟩
 |_=>exact (show False from e).elim
theorem BV (ha:PE X a ta)(he:∀whole,isTrue a X.env whole=(do let v <- whole;ż a.pos;Ç [v] (l? v))) :
  PT X a (λσ H Q=>ta σ H λx H'=>∃k,IH X.K x H' k/\Q k H'):=by
 intro pins s σ H Q I h;exact w? (cI (ha pins s σ H _ I h) λv s1 ⟨x,H1,I1,r1,q1⟩=>GR pins s1 σ H1 x v Q I1 r1 q1) (he _)
theorem vals1 {x:V}{us:List Value}(r:aK [x] us):∃u,us=[u]/\RelV x u:=by
 cases r with
 |cons r1 r2=>cases r2;exact⟨_,rfl,r1⟩
end
end L2
namespace L2
open PySem PySem.Spec PyProof.Rows
section
variable {prog:Program}{w:Ξ}{A:Ρ}{E:Value->μ->Prop}{s:μ}{K:ψ}{x dx C f:Addr}{mA:Str->Option Value}{name:Str}{v:Value}
end
section
variable {P:Program}{w:Ξ}{H H':Hp}{h h':Heap}{a C dx:Addr}{fs SD:List (Str×V)}
end
section
variable {X:Cx}{pins:List (Addr×Obj)}{σ:St}{H:Hp}{s:μ}{a C dx:Addr}{fs:List (Str×V)}{f:Str}{v:V}{A:Ρ}{E:Value->μ->Prop}
end
section
variable {X:Cx}{o e value:Expr}{f:Str}{pos pos' Qg:No}{ta tv:TE}
end
section
variable {X:Cx}{pins:List (Addr×Obj)}{σ:St}{H:Hp}{s:μ}{A:Ρ}{E:Value->μ->Prop}{Q:Value->μ->Prop}{c:Value}{b:Bool}
end
end L2
namespace L2
open PySem PySem.Spec PyProof.Rows
structure gQ (k:Nat)(A:Ρ):Prop where
 hd:A.handled=η
 dp:A.depth+5*k+5<recursionLimit
 un:A.units+16*k+200<cLine
variable {A:Ρ}{k:Nat}
theorem gQ.deeper (r:gQ (k+1) A)(env:ù):gQ k (A.deeper env) :=
 ⟨r.hd,by have:=r.dp;show A.depth+1+5*k+5<_;omega,by have:=r.un;show A.units+3+16*k+200<_;omega⟩
theorem gQ.depth (r:gQ k A):A.depth<recursionLimit:=by have:=r.dp;omega
theorem gQ.units (r:gQ k A):A.units+64<cLine:=by have:=r.un;omega
def mO:TA:=λ_ H Q=>Q [] H
def cK (ta:TE)(tr:TA):TA:=λσ H Q=>ta σ H λx H1=>tr σ H1 λxs H2=>Q (x::xs) H2
section
variable {X:Cx}{e:Expr}{es:List Expr}{te:TE}{t:TA}{pos:No}
theorem cY:PA X [] mO:=λ_ _ _ _ H Q I h=>XV ⟨[],H,I,.nil,h⟩
theorem aM (ha:PE X e te)(hr:PA X es t)(hs:Ι (e::es) X.env=(ε,eval e X.env)::Ι es X.env:=by rfl):PA X (e::es) (cK te t):=by
 intro pos pins s σ H Q I h;rw[hs];show Β _ _ (ź ((ε,eval e X.env)::Pi pos (Ι es X.env))) _ _ s;refine KF (cI (ha pins s σ H _ I h) λu s1 ⟨x,H1,I1,r1,q1⟩=>?_);exact cI (hr pos pins s1 σ H1 _ I1 q1) λus s2 ⟨xs,H2,I2,r2,q2⟩=>⟨x::xs,H2,I2,.cons r1 r2,q2⟩
def HK (t:TA):TE:=λσ H Q=>t σ H λxs H1=>xs.length<=sizeLine/\∀p,H1 p=η->Q (.ref p) (upd H1 p (.tup xs))
def Uj (t:TA):TE:=λσ H Q=>t σ H λxs H1=>xs.length<=sizeLine/\∀p,H1 p=η->Q (.ref p) (upd H1 p (.lst xs))
theorem vq {x1}(h:PA X es t):PE X (.Tuple es x1 pos) (HK t):=by
 intro pins s σ H Q I hq;refine wpAny_Tuple_spliced (cI (h pos pins s σ H _ I hq) λus s1 ⟨xs,H1,I1,r,z,q⟩=>⟨by rw[<-r.length];exact z,?_⟩);have hf:H1 s1.heap.objs.size=η:=I1.Mc.fresh (au _);refine⟨.ref s1.heap.objs.size,upd H1 s1.heap.objs.size (.tup xs),I1.laid (t':=s1.toks) (λb u e=>τ _ e) (au _) ?_,rfl,q _ hf⟩;exact⟨z,us,r,⟨_,Υ _ rfl,rfl,_,rfl⟩⟩
theorem GY (h:PA X es t):PE X (.List es pos) (Uj t):=by
 intro pins s σ H Q I hq;refine wpAny_List_spliced (cI (h pos pins s σ H _ I hq) λus s1 ⟨xs,H1,I1,r,z,q⟩=>⟨by rw[<-r.length];exact z,?_⟩);have hf:H1 s1.heap.objs.size=η:=I1.Mc.fresh (au _);refine⟨.ref s1.heap.objs.size,upd H1 s1.heap.objs.size (.lst xs),I1.laid (t':=s1.toks) (λb u e=>τ _ e) (au _) ?_,rfl,q _ hf⟩;exact⟨z,us,0,r,Υ _ rfl⟩
end
noncomputable abbrev Sp:=List V->Hp->VK->XK->Prop
noncomputable abbrev rG:=List ù->Hp->μ->XK->Value->μ->Prop
structure zf (P:Program)(w:Ξ)(K:ψ)(mg:Str->Option Value)(base:Heap)(A:Ρ)(outer:List ù)(s:μ)(H:Hp):Prop where
 frames:A.frames=θ outer
 mod:Mod K mg base
 bs:∀b o,base.get? b=θ o->s.heap.get? b=θ o/\H b=η
 Oo:base.objs.size<=s.heap.objs.size
 MJ:s.heap.FunFrames base outer
 OV:∀b∈dR outer,H b=η
 Mc:lR P w H s.heap
 bare:Tk s.gens
noncomputable def CE (outer:List ù)(P:Program)(w:Ξ)(H:Hp)(s:μ)(Q:VK)(u:Value)(s':μ):Prop :=
 ∃v H',s'.os=s.os/\Tk s'.gens/\Un (dR outer) [] H H' s.heap s'.heap/\lR P w H' s'.heap/\RelV v u/\Q v H'
noncomputable def CR (CX:rG)(outer:List ù)(P:Program)(w:Ξ)(H:Hp)(s:μ)(Q:VK)(E:XK)(r:Ô)(s':μ):Prop :=
 match r with
 |.ok (.ret u)=>CE outer P w H s Q u s'
 |.ok _=>False
 |.error e=>CX outer H s E e s'
structure nN (P:Program)(w:Ξ)(K:ψ)(mg:Str->Option Value)(base:Heap)(CX:rG)(k:Nat)(f:Addr)(fd:io)(ps:List Str)(sp:Sp):Prop where
 len:∀vs H Q E,sp vs H Q E->vs.length=ps.length
 run:∀(A:Ρ) (outer:List ù) (s:μ) (H:Hp) (args:Args) (us:List Value) (vs:List V) (Q:VK) (E:XK),gQ k A->zf P w K mg base A outer s H->ł s fd args (ps.zip us)->aK vs us->sp vs H Q E ->
  On (Ζ P w) A (.call (.ref f) args) (CR CX outer P w H s Q E) s
variable {Q:VK}
section
variable {X:Cx}{pins:List (Addr×Obj)}{σ:St}{H:Hp}{s s':μ}
theorem Inv.env0 (I:Inv X pins σ H s):zf X.prog X.w X.K X.mg X.base X.A X.stack s H :=
 ⟨I.ok.frames,I.ok.mod,I.bs,bp I.ok.Oo I.sz,I.stack,I.MW,I.Mc,I.bare⟩
theorem Inv.after {u:Value}(I:Inv X pins σ H s)(h:CE X.stack X.prog X.w H s Q u s'):EP X pins σ Q u s':=by
 obtain⟨v,H',os,bare,un,Mc,r,q⟩:=h;obtain⟨hh,g,d,t,os'⟩:=s';obtain rfl:os'=s.os:=os;exact⟨v,H',I.call (h':=hh) (g':=g) (d':=d) (t':=t) (ch:=[]) un Mc bare (λb z=>absurd z (by simp)),r,q⟩
end
def AI (sp:Sp)(NF:List V)(E:XK)(t:TA):TE:=λσ H Q=>t σ H λvs H1=>sp (vs++NF) H1 Q E
noncomputable def Binds (K:ψ)(fd:io)(ps:List Str)(ds:List Value):Prop :=
 ∀(s:μ) (us:List Value),K.In s.heap->(us++ds).length=ps.length->ł s fd ⟨us,[]⟩ (ps.zip (us++ds))
variable {ps:List Str}
theorem Binds.all {K:ψ}{fd:io}(h:∀us:List Value,us.length=ps.length->NE fd ⟨us,[]⟩=pure (ps.zip us)):Binds K fd ps []:=λs us _ hl=>by
 rw[aw] at hl ⊢;exact .of_eq (h us hl)
def kT (CX:rG)(X:Cx)(E:XK):Prop:=∀(pins:List (Addr×Obj)) (σ:St) (H:Hp) (s:μ) (e:Value) (s':μ),Inv X pins σ H s->CX X.stack H s E e s'->X.xe e s'
variable {H:Hp}{s:μ}{vs:List V}
section
variable {X:Cx}{CX:rG}{k:Nat}{f C:Addr}{fd:io}{ps:List Str}{sp:Sp}{NF:List V}{ds:List Value}{E:XK}{x m:Str}{p pos apos:No}{e o:Expr}{es:List Expr}{ta:TE}{t:TA}
theorem BJ {pins:List (Addr×Obj)}{σ:St}{us:List Value}(F:nN X.prog X.w X.K X.mg X.base CX k f fd ps sp)(hr:gQ k X.A)(hb:Binds X.K fd ps ds)(hd:aK NF ds)(hx:kT CX X E)
  (I:Inv X pins σ H s) (r:aK vs us) (h:sp (vs++NF) H Q E):Β (Ζ X.prog X.w) X.A (call (.ref f) us) (EP X pins σ Q) X.xe s:=by
 have r2:aK (vs++NF) (us++ds):=r.append hd;have hl:(us++ds).length=ps.length:=by rw[<-r2.length];exact F.len _ _ _ _ h
 refine SC (ZA (F.run X.A X.stack s H ⟨us,[]⟩ (us++ds) (vs++NF) Q E hr I.env0 (hb s us I.MX hl) r2 h) λr s' hq=>?_);cases r with
 |error e=>exact hx pins σ H s e s' I hq
 |ok fl=>
  cases fl with
  |ret u=>exact I.after hq
  |next=>exact Φ hq
  |brk=>exact Φ hq
  |cont=>exact Φ hq
theorem DB (F:nN X.prog X.w X.K X.mg X.base CX k f fd ps sp)(hr:gQ k X.A)(hg:Gl X x)(hm:X.mg x=θ (.ref f))(hk:kt X.K (.ref f)=ζ)(hb:Binds X.K fd ps ds)(hd:aK NF ds)(hx:kT CX X E)
  (ha:PA X (e::es) t) (Ol:(x==("__debug__" : Str))=ε:=by decide) (he:Ι (e::es) X.env=(ε,eval e X.env)::Ι es X.env:=by rfl) (MP:(Pi pos (Ι es X.env)).any (·.1)=ε:=by rfl) :
  PE X (.Call (.Name x p) (e::es) [] pos) (AI sp NF E t):=by
 intro pins s σ H Q I h;refine wP (fN I hg hm ?_ Ol);refine i3 (h₀:=X.base) I.ok.mod.Mm hk (cI (ha pos pins s σ H _ I h) λus s1 ⟨vs,H1,I1,r,q⟩=>⟨I1.MX,?_⟩) he MP;exact BJ F hr hb hd hx I1 r q
theorem BC (F:nN X.prog X.w X.K X.mg X.base CX k f fd ps sp)(hr:gQ k X.A)(hg:Gl X x)(hm:X.mg x=θ (.ref f))(hk:kt X.K (.ref f)=ζ)(hb:Binds X.K fd ps ds)(hd:aK NF ds)(hx:kT CX X E)
  (Ol:(x==("__debug__" : Str))=ε:=by decide):PE X (.Call (.Name x p) [] [] pos) (AI sp NF E mO):=by
 intro pins s σ H Q I h;refine wP (fN I hg hm ?_ Ol);exact PySem.W.callWith_K0 I.MX hk (BJ (us:=[]) F hr hb hd hx I .nil h)
end
section
variable {X:Cx}{CX:rG}{k:Nat}{f C:Addr}{fd:io}{ps ks:List Str}{sp:Sp}{E:XK}{x m:Str}{p pos apos kpos:No}{e o:Expr}{es:List Expr}{kws:List Ń}{te ta:TE}{t tk:TA}{nm:Option Str}
variable {g:List Value->List Value->List Value}{gV:List V->List V->List V}
end
structure bQ (N P:List Str)(sc:Scope):Prop where
 kind:sc.kind=.function
 co:sc.isCoroutine=ε
 gen:sc.isGenerator=ε
 nd:N.Nodup
 pre:N.take P.length=P
 par:∀x∈P,sc.names.lookup x=θ .local\/sc.names.lookup x=θ .cell
 Qp:∀y∈sc.names,y.2≠.free
variable {kindOf:Str->Option NameKind}{x:Str}
theorem qW:∀{binds:List (Str×Value)}{m:Str->Option Value},(∀v,(x,v)∉binds)->Ą kindOf binds m x=m x
 |[],_,_=>rfl
 | (n,v)::r,m,h=>by
  unfold Ą;rw[qW λw hw=>h w (aa _ hw)];split
  .have:x≠n:=by rintro rfl;exact h v ag
   simp[this]
  .rfl
theorem qu:∀{binds:List (Str×Value)}{m:Str->Option Value},(∀v,(x,v)∉binds)->Ĵ kindOf binds m x=m x
 |[],_,_=>rfl
 | (n,v)::r,m,h=>by
  unfold Ĵ;rw[qu λw hw=>h w (aa _ hw)];split
  .rfl
  .have:x≠n:=by rintro rfl;exact h v ag
   simp[this]
variable {v:Value}
theorem kx {kindOf:Str->Option NameKind}:∀{P:List Str}{vs:List Value}{i:Nat}{m:Str->Option Value},P.Nodup->P[i]? = θ x->vs[i]? = θ v->kindOf x=θ .local ->
  Ą kindOf (P.zip vs) m x=θ v
 |[],_,_,_,_,h,_,_=>by simp at h
 |_::_,[],_,_,_,_,h,_=>by simp at h
 |p::P,w::vs,0,m,nd,h1,h2,hk=>by
  simp at h1 h2;subst h1;subst h2;show Ą kindOf ((p,w)::P.zip vs) m p=_;unfold Ą;rw[qW λv hv=>(jy.mp nd).1 (je hv).1,if_pos hk];simp
 |p::P,w::vs,i+1,m,nd,h1,h2,hk=>by
  show Ą kindOf ((p,w)::P.zip vs) m x=_;unfold Ą;exact kx (i:=i) (jy.mp nd).2 (by simpa using h1) (by simpa using h2) hk
theorem qA:∀{P:List Str}{vs:List Value}{i:Nat}{m:Str->Option Value},P.Nodup->P[i]? = θ x->vs[i]? = θ v->kindOf x≠θ .local ->
  Ĵ kindOf (P.zip vs) m x=θ v
 |[],_,_,_,_,h,_,_=>by simp at h
 |_::_,[],_,_,_,_,h,_=>by simp at h
 |p::P,w::vs,0,m,nd,h1,h2,hk=>by
  simp at h1 h2;subst h1;subst h2;show Ĵ kindOf ((p,w)::P.zip vs) m p=_;unfold Ĵ;rw[qu λv hv=>(jy.mp nd).1 (je hv).1,if_neg hk];simp
 |p::P,w::vs,i+1,m,nd,h1,h2,hk=>by
  show Ĵ kindOf ((p,w)::P.zip vs) m x=_;unfold Ĵ;exact qA (i:=i) (jy.mp nd).2 (by simpa using h1) (by simpa using h2) hk
noncomputable def start (N:List Str)(vs:List V):St:=vs.map θ++ξ (N.length-vs.length) η
noncomputable def cB (CX:rG)(P:Program)(w:Ξ)(K:ψ)(mg:Str->Option Value)(base:Heap)(N:List Str)(qual:Str)(scope:Scope)(f:Addr)(cd:Value)(A:Ρ)(outer:List ù)(s:μ)(H:Hp)(E:XK):Cx where
 prog:=P
 w:=w
 K:=K
 mg:=mg
 base:=base
 A:=A.deeper (bi qual scope s.heap.objs.size f cd)
 N:=N
 s₀:=s
 H₀:=H
 env:=bi qual scope s.heap.objs.size f cd
 outer:=outer
 stack:=bi qual scope s.heap.objs.size f cd::outer
 ex:=[]
 calm:=ζ
 fn:=λ_=>ζ
 pn:=[]
 xe:=λe s'=>Β (Ζ P w) (A.deeper (bi qual scope s.heap.objs.size f cd)) (leaving (bi qual scope s.heap.objs.size f cd) e) (λ_ Uw=>CX outer H s E e Uw) (λe' Uw=>CX outer H s E e' Uw) s'
theorem uG {sc:Scope}{n:Nat}(h:sc.names.lookup x=θ .cell):∃c,(ii n sc.names []).lookup x=θ c:=by
 have q:=i7 sc.names n [] (.inl h);exact Option.isSome_iff_exists.mp q
variable {CX:rG}{P:Program}{base:Heap}{f:Addr}{mg:Str->Option Value}{qual:Str}{scope:Scope}{w:Ξ}
theorem mU {K:ψ}{N:List Str}{cd:Value}{outer:List ù}{s1:μ}{E:XK}{us:List Value}
  (S:bQ N ps scope) (hd:A.handled=η) (e0:zf P w K mg base A outer s H) (hl:vs.length=ps.length) (r:aK vs us)
  (x:InCallC s s.heap.objs.size (Ą (bi qual scope s.heap.objs.size f cd).kindOf (ps.zip us) λ_=>η) (ii (s.heap.objs.size+1) scope.names []) (Ĵ (bi qual scope s.heap.objs.size f cd).kindOf (ps.zip us) λ_=>η) s1) :
  Inv (cB CX P w K mg base N qual scope f cd A outer s H E) [] (start N vs) H s1:=by
 have MP:ps.length<=N.length:=by have:=dg AC S.pre;rw[dn] at this;omega
 obtain⟨h1,tk,rfl,hk⟩:=x.done;have RF:∀b:Addr,b∉(cB CX P w K mg base N qual scope f cd A outer s H E).ex:=λb z=>absurd (show b∈([]:List Addr) from z) (by simp)
 refine⟨⟨e0.mod,S.kind,rfl,rfl,au _,λy z c h1 h2=>?_,λy hy=>?_,λy c _ h=>?_,λ_=>hd,Ē e0.frames,.inr ⟨rfl,rfl⟩,λb z=>absurd z (RF b),e0.bs,e0.Oo,λb _ _=>RF b,λb z=>absurd z (RF b),e0.MJ,e0.OV⟩,
  rfl,e0.bare,Un.kept hk,⟨_,x.toInCall.ns,λi y v h1 h2 h3=>?_⟩,λy c h=>⟨_,x.cell y c h⟩,e0.Mc.fresh (au _),λy c h=>?_,λp hp=>absurd (show p∈([]:List (Addr×Obj)) from hp) (by simp),e0.Mc.kept hk,?_⟩
 .exact x_ x.apart (cj h1) (cj h2)
 .have hy:scope.names.lookup y=θ .cell\/scope.names.lookup y=θ .free:=hy;rcases hy with hy|hy
  .exact uG hy
  .exact absurd rfl (S.Qp _ (cj hy))
 .exact ó (x.above y c (cj h))
 .have hi:i<vs.length:=by
   unfold start at h2;by_cases hi:i<vs.length
   .exact hi
   .rw[Τ (by simpa using hi)] at h2;rw[bv] at h2;split at h2<;>cases h2
  have ha:vs[i]? = θ v:=by
   unfold start at h2;rw[Ν (by simpa using hi),π] at h2;cases e:vs[i]? with
   |none=>rw[e] at h2;cases h2
   |some a=>rw[e] at h2;cases h2;rfl
  obtain⟨u,hu,rv⟩:=r.get ha;have hp:ps[i]? = θ y:=by
   rw[<-S.pre,List.getElem?_take_of_lt (by omega)];exact h1
  have Yi:ps.Nodup:=by rw[<-S.pre];exact S.nd.sublist (List.take_sublist _ _)
  refine⟨u,rv,?_⟩;rcases S.par y (Κ hp) with k|k
  .exact .inl ⟨k,kx Yi hp hu k⟩
  .obtain⟨c,e⟩:=uG (n:=s.heap.objs.size+1) k;refine .inr ⟨.inl k,c,e,?_⟩;have q:=x.cell y c e;rw[qA Yi hp hu (by show scope.names.lookup y≠_;rw[k];decide)] at q;exact q
 .exact e0.Mc.fresh (ó (x.above y c (cj h)))
 .unfold start;show _=N.length;rw[ba,aj,bu];omega
theorem JY {K:ψ}{name:Str}{params:Arguments}{body:List Stmt}{dV kV doc pm Me ct oc:Value}{an od:Option Addr}
  {NZ:Array (Option Value)}{N:List Str}{sp:Sp}(lk:K.lookup f=θ ⟨oc,od,.func (wf name qual params body scope dV kV doc pm an Me ct),NZ⟩) (MT:SL K Me qual=ζ) (S:bQ N ps scope)
  (len:∀vs H Q E,sp vs H Q E->vs.length=ps.length)
  (MN:∀(A:Ρ) (outer:List ù) (s:μ) (H:Hp) (vs:List V) (Q:VK) (E:XK),gQ k (A.deeper (bi qual scope s.heap.objs.size f Me))->sp vs H Q E ->
   ∃t,hU (cB CX P w K mg base N qual scope f Me A outer s H E) body t/\t { nx:=λ_ H'=>Q .Mh H',rt:=Q } (start N vs) H) :
  nN P w K mg base CX (k+1) f (wf name qual params body scope dV kV doc pm an Me ct) ps sp:=by
 refine⟨len,λA outer s H args us vs Q E hr e0 hb r NT=>?_⟩;have hl:=len _ _ _ _ NT;have KX:K.In s.heap:=e0.mod.Mm.keeps λb o e=>(e0.bs b o e).1
 have lim:s.heap.NoLimit:=e0.mod.nolimit.keeps λb o e=>(e0.bs b o e).1
 have M3:∀y∈ps.zip us,scope.names.lookup y.1=θ .local\/(scope.names.lookup y.1=θ .cell/\((ii (s.heap.objs.size+1) scope.names []).lookup y.1).isSome=ζ):=λ⟨n,v⟩ hy=>by
  rcases S.par n (je hy).1 with q|q
  .exact .inl q
  .exact .inr ⟨q,i7 _ _ _ (.inl q)⟩
 refine Re hr.depth (KX _ _ lk) rfl S.co S.gen rfl (jh KX MT) (hb _ _ _ _ ?_);refine KE S.kind M3 λenv he s1 x=>?_
 subst he;refine⟨lim.keeps x.toInCall.keep,È ?_⟩;obtain⟨t,ht,hq⟩:=MN A outer s H vs Q E (hr.deeper _) NT;have I:Inv (cB CX P w K mg base N qual scope f Me A outer s H E) [] (start N vs) H s1:=mU S hr.hd e0 hl r x;refine Θ (ht [] s1 (start N vs) H _ I hq) (λfl s' hs=>?_) λe s' hs=>hs
 have fin:∀{σ':St}{H':Hp}{v:V}{u:Value},Inv (cB CX P w K mg base N qual scope f Me A outer s H E) [] σ' H' s'->RelV v u->Q v H'->CE outer P w H s Q u s' :=
  λ{σ' H' v u} J rv q=>⟨v,H',J.os,J.bare,J.base,J.Mc,rv,q⟩
 cases fl with
 |ret u=>
  obtain⟨v,σ',H',J,rv,q⟩:=hs;exact fin J rv q
 |next=>
  obtain⟨σ',H',J,q⟩:=hs;exact fin (v:=V.Mh) (u:=bn) J rfl q
 |brk=>
  obtain⟨_,_,_,q⟩:=hs;exact Φ q
 |cont=>
  obtain⟨_,_,_,q⟩:=hs;exact Φ q
end L2
namespace L2
open PySem PySem.Spec PyProof.Rows
section
variable {X:Cx}{x:Str}{p pos:No}{e:Expr}{es:List Expr}{t:TA}{id T:String}{r:List V->Hp->VK->Prop}
def G8 (r:List V->Hp->VK->Prop)(t:TA):TE:=λσ H Q=>t σ H λvs H1=>r vs H1 Q
theorem gH (hc:gY X (.builtin id) r)(hg:Gl X x)(hm:X.mg x=η)(hv:FM x=θ (.builtin id))(ha:PA X (e::es) t)(hn:x≠"__name__":=by decide) (Ol:(x==("__debug__" : Str))=ε:=by decide)
  (he:Ι (e::es) X.env=(ε,eval e X.env)::Ι es X.env:=by rfl) (MP:(Pi pos (Ι es X.env)).any (·.1)=ε:=by rfl):PE X (.Call (.Name x p) (e::es) [] pos) (G8 r t):=by
 intro pins s σ H Q I h;refine wP (jL I hg hm hv ?_ hn Ol);exact i! (cI (ha pos pins s σ H _ I h) λus s1 ⟨vs,H1,I1,r1,q1⟩=>hc pins s1 σ H1 vs us Q I1 r1 q1) he MP
theorem zK (hc:gY X (.type T) r)(hg:Gl X x)(hm:X.mg x=η)(hv:FM x=θ (.type T))(ha:PA X (e::es) t)(hn:x≠"__name__":=by decide) (Ol:(x==("__debug__" : Str))=ε:=by decide)
  (he:Ι (e::es) X.env=(ε,eval e X.env)::Ι es X.env:=by rfl) (MP:(Pi pos (Ι es X.env)).any (·.1)=ε:=by rfl):PE X (.Call (.Name x p) (e::es) [] pos) (G8 r t):=by
 intro pins s σ H Q I h;refine wP (jL I hg hm hv ?_ hn Ol);exact el (cI (ha pos pins s σ H _ I h) λus s1 ⟨vs,H1,I1,r1,q1⟩=>hc pins s1 σ H1 vs us Q I1 r1 q1) he MP
end
end L2
namespace HT
open PySem PyProof.Rows
section
open PySem.SeqAt
open PySem.AutoSeq1 (wpAny_loadPart')
open PySem.MeetsSeq PySem.MeetsSeq2 PySem.MeetsSeq3
end
section
variable {prog:Program}{w:Ξ}{A:Ρ}{E:Value->μ->Prop}{s:μ}
noncomputable def lZ (n d:Nat):Option Int->Nat
 |none=>d
 |some v=>if v<0 then (v+(n:Int)).toNat else min v.toNat n
end
end HT
namespace L2
open PySem PySem.Spec PyProof.Rows
noncomputable abbrev TO:=St->Hp->(Option Int->Hp->Prop)->Prop
noncomputable def PO (X:Cx)(e:Option Expr)(t:TO):Prop :=
 ∀(pins:List (Addr×Obj)) (s:μ) (σ:St) (H:Hp) (Q:Option Int->Hp->Prop),Inv X pins σ H s->t σ H Q ->
  Β (Ζ X.prog X.w) X.A (evalPart e X.env) (λu s'=>∃o H',Inv X pins σ H' s'/\IsPart u o/\Q o H') X.xe s
noncomputable def D0:TO:=λ_ H Q=>Q η H
noncomputable def KQ (t:TE):TO:=λσ H Q=>t σ H λx H1=>∃i,x=.int i/\Q (θ i) H1
section
variable {X:Cx}{e:Expr}{te:TE}{lo hi:Option Expr}{tl th:TO}{pos p2:No}
theorem EA:PO X η D0:=by
 intro pins s σ H Q I h;rw[p?];exact Μ ⟨η,H,I,.none,h⟩
theorem Er (h:PE X e te):PO X (θ e) (KQ te):=by
 intro pins s σ H Q I hw;rw[evalPart_some];refine cI (h pins s σ H _ I hw) λu s1 ⟨x,H1,I1,r1,q1⟩=>?_
 obtain⟨i,rfl,q⟩:=q1;obtain⟨t,rfl⟩:=r1;exact⟨θ i,H1,I1,.int i t,q⟩
noncomputable def Zu (X:Cx)(r:V->Option Int->Option Int->Hp->VK->Prop):Prop :=
 ∀(pins:List (Addr×Obj)) (s:μ) (σ:St) (H:Hp) (x:V) (v vl vu:Value) (lo hi:Option Int) (sl:Addr) (Q:VK),Inv X pins σ H s->RelV x v->s.heap.IsSliceOf sl vl vu .none->IsPart vl lo->IsPart vu hi->r x lo hi H Q ->
  ∃T id,GE (.type T) "__getitem__" = pure (θ (.builtin id))/\s.TypeIs v T/\Β (Ζ X.prog X.w) X.A (x! v (.ref sl)) (EP X pins σ Q) X.xe s
def tSl (r:V->Option Int->Option Int->Hp->VK->Prop)(te:TE)(tl th:TO):TE:=λσ H Q=>te σ H λx H1=>tl σ H1 λl H2=>th σ H2 λu H3=>r x l u H3 Q
theorem BP {r:V->Option Int->Option Int->Hp->VK->Prop}(hr:Zu X r)(he:PE X e te)(hl:PO X lo tl)(hu:PO X hi th):PE X (.Subscript e (.Slice lo hi η p2) pos) (tSl r te tl th):=by
 intro pins s σ H Q I h;refine Subscript_ (cI (he pins s σ H _ I h) λv s1 ⟨x,H1,I1,r1,q1⟩=>?_);refine wpAny_Slice (cI (hl pins s1 σ H1 _ I1 q1) λvl s2 ⟨l,H2,I2,pl,q2⟩=>cI (hu pins s2 σ H2 _ I2 q2) λvu s3 ⟨u,H3,I3,pu,q3⟩=>?_);rw[p?];refine Μ ?_;have I4:Inv X pins σ H3 { s3 with heap:=s3.heap.push { cls:=.type "slice",data:=.fields #[vl,vu,.none] } }:=I3.kept (t':=s3.toks) λb ob q=>τ _ q
 obtain⟨T,id,hT,ht,hg⟩:=hr pins { s3 with heap:=s3.heap.push { cls:=.type "slice",data:=.fields #[vl,vu,.none] } } σ H3 x v vl vu l u s3.heap.objs.size Q I4 r1 (ſ ..) pl pu q3;show Β (Ζ X.prog X.w) X.A (q_ e (.Slice lo hi η p2) v (.ref s3.heap.objs.size)) (EP X pins σ Q) X.xe { s3 with heap:=s3.heap.push { cls:=.type "slice",data:=.fields #[vl,vu,.none] } };exact tail_any (ops:=[.ref s3.heap.objs.size,v]) ht hT hg (by with_unfolding_all rfl)
noncomputable def zq (xs:List V)(lo hi:Option Int):List V:=(xs.drop (HT.lZ xs.length 0 lo)).take (HT.lZ xs.length xs.length hi-HT.lZ xs.length 0 lo)
theorem uy (xs:List V)(lo hi:Option Int):(zq xs lo hi).length<=xs.length:=by
 unfold zq;rw[dn,gv];omega
end
end L2
namespace L2
open PySem PySem.Spec PyProof.Rows
noncomputable def kH (n:Nat)(i:Int):Option Nat:=if 0<=i then (if i<n then θ i.toNat else η) else if -(n:Int)<=i then θ (i+n).toNat else η
noncomputable def FA {α:Type}(xs:List α)(i:Int):Option α:=(kH xs.length i).bind λj=>xs[j]?
variable {i:Int}{n:Nat}
theorem xX {j:Nat}(h:kH n i=θ j):Õ i n=θ j/\j<n/\-(n:Int)<=i/\i<n:=by
 unfold kH at h;by_cases h0:0<=i
 .rw[if_pos h0] at h;by_cases h1:i<n
  .rw[if_pos h1] at h;have e:i.toNat=j:=dz h;exact⟨by rw[Ř h0 h1,e],by omega,by omega,h1⟩
  .rw[if_neg h1] at h;cases h
 .rw[if_neg h0] at h;by_cases h1 : -(n:Int)<=i
  .rw[if_pos h1] at h;have e:(i+n).toNat=j:=dz h;exact⟨by rw[ń (by omega) h1,e],by omega,h1,by omega⟩
  .rw[if_neg h1] at h;cases h
theorem yy {α:Type}{xs:List α}{v:α}(h:FA xs i=θ v):∃j,Õ i xs.length=θ j/\xs[j]? = θ v/\j<xs.length/\-(xs.length:Int)<=i/\i<xs.length:=by
 unfold FA at h;cases e:kH xs.length i with
 |none=>rw[e] at h;cases h
 |some j=>
  rw[e] at h;obtain⟨h1,h2,h3,h4⟩:=xX e;exact⟨j,h1,h,h2,h3,h4⟩
def nW (b:Expr):Prop:=∀o i,A! b ε o i=operate [o,i] (x! o i)
noncomputable def EE (X:Cx)(r:R2):Prop :=
 ∀(value slice:Expr) (pins:List (Addr×Obj)) (s:μ) (σ:St) (H:Hp) (x y:V) (v u:Value) (Q:VK),Inv X pins σ H s->RelV x v->RelV y u->r x y H Q ->
  A! slice ε v u=operate [v,u] (x! v u)->Β (Ζ X.prog X.w) X.A (q_ value slice v u) (EP X pins σ Q) X.xe s
noncomputable def Ke (X:Cx)(id:String)(r:V->List V->Hp->VK->Prop):Prop :=
 ∀(pins:List (Addr×Obj)) (s:μ) (σ:St) (H:Hp) (x:V) (xs:List V) (v:Value) (us:List Value) (Q:VK),Inv X pins σ H s->RelV x v->aK xs us->r x xs H Q ->
  Β (Ζ X.prog X.w) X.A (call (.builtin id) (v::us)) (EP X pins σ Q) X.xe s
variable {A:Ρ}{H:Hp}{p:Addr}{pins:List (Addr×Obj)}{r:R2}{s:μ}{u v:Value}{x y:V}{xs:List V}
section
variable {X:Cx}{a b:Expr}{ta tb:TE}{pos:No}
theorem EE.or {r':R2}(h:EE X r)(h':EE X r'):EE X (λx y H Q=>r x y H Q\/r' x y H Q):=by
 intro value slice pins s σ H x y v u Q I rx ry q hs;rcases q with q|q
 .exact h value slice pins s σ H x y v u Q I rx ry q hs
 .exact h' value slice pins s σ H x y v u Q I rx ry q hs
theorem Fk (hr:EE X r)(ha:PE X a ta)(hb:PE X b tb)(hs:nW b):PE X (.Subscript a b pos) (JB r ta tb):=by
 intro pins s σ H Q I h;exact Subscript_ (GB ha hb I h λv u s2 x y H2 I2 rx ry q=>hr a b pins s2 σ H2 x y v u Q I2 rx ry q (hs _ _))
noncomputable def UH (K:ψ):R2:=λx y H Q=>∃p xs i v,x=.ref p/\y=.int i/\mh K H p xs/\FA xs i=θ v/\Q v H
noncomputable def UG (K:ψ):R2:=λx y H Q=>∃p xs i v,x=.ref p/\y=.int i/\qJ K H p xs/\FA xs i=θ v/\Q v H
theorem xO:EE X (UH X.K):=by
 intro value slice pins s σ H x y v u Q I rx ry h hs;obtain⟨p,xs,i,z,rfl,rfl,hq,he,q⟩:=h;cases rx;obtain⟨t,rfl⟩:=ry;obtain⟨aH,r,pl,hz⟩:=I.list hq;obtain⟨j,h1,h2,h3,h4,h5⟩:=yy he;obtain⟨w,ew,eR⟩:=r.get h2;have hl:=r.length;have hn:=oM;have fin:EP X pins σ Q w s:=⟨z,H,I,eR,q⟩;by_cases h0:0<=i
 .have hj:i.toNat=j:=by
   rw[Ř h0 h5] at h1;exact dz h1
  exact item_listR pl.isList h0 (by omega) (by rw[hj];simpa using ew) fin hs
 .have hj:(i+(aH.toArray.size:Int)).toNat=j:=by
   rw[ń (by omega) h4] at h1;rw[ak,<-hl];exact dz h1
  exact ZW (x:=w) pl.isList.typeIs a_.lookup
   (wpAny_getItem_list_neg (Q:=λr s'=>r=w/\EP X pins σ Q r s') pl.isList (by omega) (by rw[ak]<;>omega) (by omega) (by rw[hj];simpa using ew) ⟨rfl,fin⟩) hs
theorem BH:EE X (UG X.K):=by
 intro value slice pins s σ H x y v u Q I rx ry h hs;obtain⟨p,xs,i,z,rfl,rfl,hq,he,q⟩:=h;cases rx;obtain⟨t,rfl⟩:=ry;obtain⟨aH,r,pl,hz⟩:=I.tuple hq;obtain⟨j,h1,h2,h3,h4,h5⟩:=yy he;obtain⟨w,ew,eR⟩:=r.get h2;have hl:=r.length;have hn:=oM;have fin:EP X pins σ Q w s:=⟨z,H,I,eR,q⟩;exact ZW (x:=w) pl.typeIs slot_tuple_getitem.lookup
  (getItem_tuple (j:=j) (Q:=λr s'=>r=w/\EP X pins σ Q r s') pl (by omega) (by omega) (by rw[ak,<-hl];exact h1) (by simpa using ew) ⟨rfl,fin⟩) hs
theorem vN (aH:List Value)(n j:Nat)(u:Value):å (·.setIfInBounds j u) { cls:=.type "list",data:=.seq aH.toArray n }={ cls:=.type "list",data:=.seq (aH.set j u).toArray n }:=by
 simp[å]
theorem Inv.lst {σ:St}(I:Inv X pins σ H s)(h:H p=θ (.lst xs)) :
  ∃(aH:List Value) (n:Nat),aK xs aH/\s.heap.get? p=θ { cls:=.type "list",data:=.seq aH.toArray n }/\xs.length<=sizeLine:=by
 obtain⟨z,aH,n,r,e⟩:=I.Mc p _ h;exact⟨aH,n,r,e,z⟩
theorem Inv.Qs {σ:St}{ys:List V}{aH its':List Value}{n':Nat}{f:Obj->Obj}(I:Inv X pins σ H s)(h:H p=θ (.lst xs))
  (ho:s.heap.get? p=θ { cls:=.type "list",data:=.seq aH.toArray n }) (hf:f { cls:=.type "list",data:=.seq aH.toArray n }={ cls:=.type "list",data:=.seq its'.toArray n' }) (r:aK ys its') (hz:ys.length<=sizeLine) (t:Nat) :
  Inv X pins σ (upd H p (.lst ys)) { s with heap:=s.heap.update p f,toks:=t }:=by
 have e:(s.heap.update p f).get? p=θ { cls:=.type "list",data:=.seq its'.toArray n' }:=by
  rw[Ω f ho (by rw[hf]<;>rfl),hf]
 refine I.write (x:=p) (e:=p) (by rw[h];trivial) (.inl rfl) (λb u hb q=>(Λ _ _ (bw hb)).trans q) ⟨_,e⟩ ?_;exact⟨hz,its',n',r,e⟩
def Fq:V->V->V->Hp->(Hp->Prop)->Prop:=λo i v H Q=>∃p xs k j,o=.ref p/\i=.int k/\H p=θ (.lst xs)/\kH xs.length k=θ j/\Q (upd H p (.lst (xs.set j v)))
theorem set_list:K2 X Fq:=by
 intro pins s σ H o i v ov iv u Q I ro ri rv h;obtain⟨p,xs,k,j,rfl,rfl,hp,hj,q⟩:=h;cases ro;obtain⟨t,rfl⟩:=ri;obtain⟨aH,n,r,ho,hz⟩:=I.lst hp;obtain⟨h1,h2,h3,h4⟩:=xX hj;have hl:=r.length;have hn:=oM;have I':Inv X pins σ (upd H p (.lst (xs.set j v))) { s with heap:=s.heap.update p (å (·.setIfInBounds j u)) } :=
  I.Qs hp ho (vN aH n j u) (r.set rv j) (by rw[aq];exact hz) s.toks
 by_cases h0:0<=k
 .have hk:k.toNat=j:=by
   rw[Ř h0 h4] at h1;exact dz h1
  exact PySem.W.ki_setAt ho h0 (by omega) (by rw[ak,<-hl];exact h4) (by rw[hk];exact⟨_,I',q⟩)
 .have hk:(k+(aH.toArray.size:Int)).toNat=j:=by
   rw[ń (by omega) h3] at h1;rw[ak,<-hl];exact dz h1
  exact PySem.W.ki_setBack ho (by omega) (by rw[ak,<-hl];exact h3) (by omega) (by rw[hk];exact⟨_,I',q⟩)
theorem sQ (lo hi:Option Int)(n:Nat):(UF lo hi η n).1=((HT.lZ n 0 lo:Nat):Int)/\(UF lo hi η n).2.1=((HT.lZ n n hi:Nat):Int)/\(UF lo hi η n).2.2=1:=by
 refine⟨?_,?_,rfl⟩
 .cases lo with
  |none=>simp[UF,HT.lZ]
  |some i=>
   simp only[UF,HT.lZ,ĵ,show (1:Int) > 0 by decide,if_true];by_cases h:i<0
   .simp only[h,if_true]<;>omega
   .simp only[h,if_false]<;>omega
 .cases hi with
  |none=>simp[UF,HT.lZ]
  |some i=>
   simp only[UF,HT.lZ,ĵ,show (1:Int) > 0 by decide,if_true];by_cases h:i<0
   .simp only[h,if_true]<;>omega
   .simp only[h,if_false]<;>omega
theorem qe (aH:List Value)(lo hi:Option Int):slicePick aH.toArray lo hi η=((aH.drop (HT.lZ aH.length 0 lo)).take (HT.lZ aH.length aH.length hi-HT.lZ aH.length 0 lo)).toArray:=by
 obtain⟨h1,h2,h3⟩:=sQ lo hi aH.toArray.size;unfold slicePick;rw[h1,h2,h3];simp only[sliceRange_one,pick_run,ak]<;>rfl
def UD (K:ψ):V->Option Int->Option Int->Hp->VK->Prop:=λx lo hi H Q=>∃a xs,x=.ref a/\mh K H a xs/\∀p,H p=η->Q (.ref p) (upd H p (.lst (zq xs lo hi)))
theorem Et:Zu X (UD X.K):=by
 intro pins s σ H x v vl vu lo hi sl Q I rx hs pl pu h;obtain⟨a,xs,rfl,hx,q⟩:=h;cases rx;obtain⟨aH,r,ht,hz⟩:=I.list hx;have hlen:=r.length;refine⟨"list",_,a_.lookup,ht.isList.typeIs,?_⟩;refine wpAny_getItem_list_slice ht.isList hs pl pu .none (by simp) ?_ (by rw[ak]<;>omega);rw[qe,<-hlen];refine⟨.ref s.heap.objs.size,_,I.laid (t':=s.toks) (o:=.lst (zq xs lo hi)) (λb ob q=>τ _ q) (au _) ?_,rfl,q _ (I.Mc.fresh (au _))⟩;exact⟨bp (uy xs lo hi) hz,_,0,(r.drop (HT.lZ xs.length 0 lo)).take (HT.lZ xs.length xs.length hi-HT.lZ xs.length 0 lo),Υ _ rfl⟩
noncomputable def j6:V->Bool
 |.Mh=>ζ
 |.bl _=>ζ
 |.int _=>ζ
 |.str _=>ζ
 |_=>ε
noncomputable def C2:V->V->Bool
 |.Mh,.Mh=>ζ
 |.bl a,.bl b=>a==b
 |.bl a,.int b=>(if a then 1 else 0)==b
 |.int a,.bl b=>a==(if b then 1 else 0)
 |.int a,.int b=>a==b
 |.str a,.str b=>a==b
 |_,_=>ε
theorem Ib (ry:RelV y u)(rx:RelV x v)(fy:j6 y=ζ)(fx:j6 x=ζ):Z7 A s u v (C2 y x):=by
 cases y with
 |Mh=>
  cases ry;cases x with
  |Mh=>cases rx;exact q! _
  |bl b=>cases rx;exact q? b
  |int b=>obtain⟨t,rfl⟩:=rx;exact r_ b t
  |str b=>obtain⟨t,rfl⟩:=rx;exact r! b t
  |_=>exact absurd (show ε=ζ from fx) ay
 |bl a=>
  cases ry;cases x with
  |Mh=>cases rx;exact r? a
  |bl b=>cases rx;exact s_ a b
  |int b=>obtain⟨t,rfl⟩:=rx;exact s? a b t
  |str b=>obtain⟨t,rfl⟩:=rx;exact t_ a b t
  |_=>exact absurd (show ε=ζ from fx) ay
 |int a=>
  obtain⟨t',rfl⟩:=ry;cases x with
  |Mh=>cases rx;exact t! a t'
  |bl b=>cases rx;exact t? a t' b
  |int b=>obtain⟨t,rfl⟩:=rx;exact u_ a t' b t
  |str b=>obtain⟨t,rfl⟩:=rx;exact Ā a t' b t
  |_=>exact absurd (show ε=ζ from fx) ay
 |str a=>
  obtain⟨t',rfl⟩:=ry;cases x with
  |Mh=>cases rx;exact u! a t'
  |bl b=>cases rx;exact u? a t' b
  |int b=>obtain⟨t,rfl⟩:=rx;exact ā a t' b t
  |str b=>obtain⟨t,rfl⟩:=rx;exact v_ a t' b t
  |_=>exact absurd (show ε=ζ from fx) ay
 |_=>exact absurd (show ε=ζ from fy) ay
noncomputable def wG (x:V)(u:Value):Bool:=match u with
 |.none=>C2 .Mh x
 |.bool b=>C2 (.bl b) x
 |.int i _=>C2 (.int i) x
 |.str z _=>C2 (.str z) x
 |_=>ε
theorem Am (r:RelV y u)(f:j6 y=ζ):wG x u=C2 y x:=by
 cases y with
 |Mh=>cases r;rfl
 |bl b=>cases r;rfl
 |int i=>obtain⟨t,rfl⟩:=r;rfl
 |str z=>obtain⟨t,rfl⟩:=r;rfl
 |_=>exact absurd (show ε=ζ from f) ay
theorem lP:∀{xs:List V}{us:List Value},aK xs us->xs.all j6=ζ->us.any (wG x)=xs.any λy=>C2 y x
 |_,_,.nil,_=>rfl
 |y::xs,u::us,.cons r t,f=>by
  rw[iw,ai] at f;rw[jc,jc,Am r f.1,lP t f.2]
theorem kd (rx:RelV x v)(fx:j6 x=ζ):∀{xs:List V}{us:List Value},aK xs us->xs.all j6=ζ->∀u∈us,Z7 A s u v (wG x u)
 |_,_,.nil,_=>λu hu=>by cases hu
 |y::xs,u::us,.cons r t,f=>λu' hu=>by
  rw[iw,ai] at f;rcases dm.mp hu with rfl|hu
  .rw[Am r f.1];exact Ib r rx f.1 fx
  .exact kd rx fx t f.2 u' hu
noncomputable def Tt (x:V)(xs:List V):Bool:=xs.any λy=>C2 y x
noncomputable def X5 (K:ψ)(neg:Bool):R2:=λx y H Q=>∃p xs,y=.ref p/\(mh K H p xs\/qJ K H p xs)/\j6 x=ζ/\xs.all j6=ζ/\Q (.bl (if neg then !Tt x xs else Tt x xs)) H
theorem yG:lh X (Da .In) (X5 X.K ε):=by
 intro pins s σ H x y v u Q I rx ry h;obtain⟨p,xs,rfl,hq,fx,fs,q⟩:=h;cases ry;rcases hq with hq|hq
 .obtain⟨aH,r,pl,hz⟩:=I.list hq;refine SeqAt.in_listAt (wG x) pl.isList (λw hw=>kd rx fx r fs w (by simpa using hw)) ⟨.bl _,H,I,rfl,?_⟩;rw[show aH.toArray.any (wG x)=aH.any (wG x) by simp,lP r fs];exact q
 .obtain⟨aH,r,pl,hz⟩:=I.tuple hq;refine SeqAt.in_tupleAt (wG x) pl (λw hw=>kd rx fx r fs w (by simpa using hw)) ⟨.bl _,H,I,rfl,?_⟩;rw[show aH.toArray.any (wG x)=aH.any (wG x) by simp,lP r fs];exact q
theorem sY:lh X (Da .NotIn) (X5 X.K ζ):=by
 intro pins s σ H x y v u Q I rx ry h;obtain⟨p,xs,rfl,hq,fx,fs,q⟩:=h;cases ry;rcases hq with hq|hq
 .obtain⟨aH,r,pl,hz⟩:=I.list hq;refine SeqAt.notIn_listAt (wG x) pl.isList (λw hw=>kd rx fx r fs w (by simpa using hw)) ⟨.bl _,H,I,rfl,?_⟩;rw[show aH.toArray.any (wG x)=aH.any (wG x) by simp,lP r fs];exact q
 .obtain⟨aH,r,pl,hz⟩:=I.tuple hq;refine SeqAt.notIn_tupleAt (wG x) pl (λw hw=>kd rx fx r fs w (by simpa using hw)) ⟨.bl _,H,I,rfl,?_⟩;rw[show aH.toArray.any (wG x)=aH.any (wG x) by simp,lP r fs];exact q
theorem lU:gY X (.builtin "len") (λxs H Q=>∃p ys,xs=[.ref p]/\(mh X.K H p ys\/qJ X.K H p ys)/\Q (.int ys.length) H):=by
 intro pins s σ H xs us Q I r h;obtain⟨p,ys,rfl,hq,q⟩:=h;obtain⟨u,rfl,rx⟩:=vals1 r;cases rx;have hn:=oM;rcases hq with hq|hq
 .obtain⟨aH,r',pl,hz⟩:=I.list hq;have hlen:=r'.length;exact Calls.call_len_list pl.isList (by simp only[ak]<;>omega) ⟨.int ys.length,H,I.tok _,⟨s.toks+1,by rw[ak,hlen]⟩,q⟩
 .obtain⟨aH,r',pl,hz⟩:=I.tuple hq;have hlen:=r'.length;exact len_tuple pl (by simp only[ak]<;>omega) ⟨.int ys.length,H,I.tok _,⟨s.toks+1,by rw[ak,hlen]⟩,q⟩
theorem lN:gY X (.type "list") (λxs H Q=>∃p ys,xs=[.ref p]/\(mh X.K H p ys\/qJ X.K H p ys)/\∀l,H l=η->Q (.ref l) (upd H l (.lst ys))):=by
 intro pins s σ H xs us Q I r h;obtain⟨p,ys,rfl,hq,q⟩:=h;obtain⟨u,rfl,rx⟩:=vals1 r;cases rx;have fin:∀(aH:List Value),aK ys aH->ys.length<=sizeLine->∀(h':Heap) (c':Nat),(∀b o',s.heap.get? b=θ o'->h'.get? b=θ o') ->
   h'.get? s.heap.objs.size=θ { cls:=.type "list",dict:=η,data:=.seq aH.toArray c',slots:=#[] }->EP X pins σ Q (.ref s.heap.objs.size) { s with heap:=h' }:=λaH r' hz h' c' kp e=>
  ⟨.ref s.heap.objs.size,_,I.laid (t':=s.toks) kp (au _) (show dN X.prog X.w _ h' _ (.lst ys) from ⟨hz,aH,c',r',e⟩),rfl,q _ (I.Mc.fresh (au _))⟩
 rcases hq with hq|hq
 .obtain⟨aH,r',pl,hz⟩:=I.list hq;have hlen:=r'.length;obtain⟨o,ho,hc,n,hd⟩:=pl.isList;exact v! p (.inl rfl) ho hc hd (λh' c' kp e=>fin aH r' hz h' c' kp e) (by simp only[ak]<;>omega)
 .obtain⟨aH,r',pl,hz⟩:=I.tuple hq;have hlen:=r'.length;obtain⟨o,ho,hc,n,hd⟩:=pl;exact v! p (.inr rfl) ho hc hd (λh' c' kp e=>fin aH r' hz h' c' kp e) (by simp only[ak]<;>omega)
def Ud (K:ψ)(T:String)(x:V)(H:Hp):Prop:=match x with
 |.str _=>T = "str"
 |.int _=>T = "int"
 |.ref p=>(T = "list"/\∃xs,mh K H p xs)\/(T = "tuple"/\∃o,K.lookup p=θ o/\o.cls=.type "tuple"/\o.dict=η) \/
   (T = "dict"/\((∃kvs,H p=θ (.dK kvs))\/∃kvs,H p=θ (.dT kvs)))\/(T = "set"/\∃S n,H p=θ (.set S n))
 |_=>False
theorem Bv {σ:St}{T:String}(I:Inv X pins σ H s)(r:RelV x v)(ty:Ud X.K T x H) :
  s.TypeIs v T/\∀a,v=.ref a->∃ob,s.heap.get? a=θ ob/\ob.dict=η:=by
 cases x with
 |str z=>
  obtain⟨t,rfl⟩:=r;cases (show T = "str" from ty);exact⟨typeIs_str s z t,λ_ e=>nomatch e⟩
 |int i=>
  obtain⟨t,rfl⟩:=r;cases (show T = "int" from ty);exact⟨Ğ s i t,λ_ e=>nomatch e⟩
 |ref p=>
  cases r;rcases ty with ⟨rfl,xs,hq⟩|⟨rfl,o,hk,hc,hd⟩|⟨rfl,hk⟩|⟨rfl,S,n,hk⟩
  .obtain⟨aH,_,pl,_⟩:=I.list hq;refine⟨pl.isList.typeIs,λa e=>?_⟩;cases e;obtain⟨o,n,e,c,hd,_⟩:=pl;exact⟨o,e,hd⟩
  .refine⟨⟨o,I.MX p o hk,hc⟩,λa e=>?_⟩;cases e;exact⟨o,I.MX _ o hk,hd⟩
  .have z:∃o,s.heap.get? p=θ o/\o.ExactDict:=by
    rcases hk with ⟨kvs,hk⟩|⟨kvs,hk⟩
    .obtain⟨_,_,_,_,o,_,_,e,ex,_⟩:=I.Mc p _ hk;exact⟨o,e,ex⟩
    .obtain⟨_,_,_,_,o,_,_,e,ex,_⟩:=I.Mc p _ hk;exact⟨o,e,ex⟩
   obtain⟨o,e,ex⟩:=z;refine⟨⟨o,e,ex.1⟩,λa e2=>?_⟩;cases e2;exact⟨o,e,ex.2.1⟩
  .obtain⟨o,_,_,_,e,ex,_⟩:=I.Mc p _ hk;refine⟨⟨o,e,ex.1⟩,λa e2=>?_⟩;cases e2;exact⟨o,e,ex.2.1⟩
 |_=>exact Φ ty
def KD (K:ψ)(T:String)(r:V->List V->Hp->VK->Prop)(to:TE):TE:=λσ H Q=>to σ H λx H1=>Ud K T x H1/\r x [] H1 Q
def FK (K:ψ)(T:String)(r:V->List V->Hp->VK->Prop)(to:TE)(t:TA):TE:=λσ H Q=>to σ H λx H1=>Ud K T x H1/\t σ H1 λxs H2=>r x xs H2 Q
variable {o e:Expr}{es:List Expr}{to:TE}{t:TA}{name:Str}{apos cpos:No}{T id:String}{r:V->List V->Hp->VK->Prop}
theorem HD (pa:PlainAttrs T)(slot:Slot T name id)(Nz:Ņ (.builtin id)=pure (.type "method_descriptor")) (hm:Ke X id r) (ho:PE X o to)
  (MO:ú o name X.env (eval o X.env)=eval o X.env:=by rfl) (NA:(apos.endLine==cpos.line)=ζ:=by rfl):PE X (.Call (.Attribute o name apos) [] [] cpos) (KD X.K T r to):=by
 intro pins s σ H Q I h;refine wpAny_Call_method0_late MO NA (cI (ho pins s σ H _ I h) λv s1 ⟨x,H1,I1,r1,ty,q1⟩=>?_);obtain⟨h1,h2⟩:=Bv I1 r1 ty;exact⟨T,id,pa,slot,Nz,h1,h2,ĉ rfl (PySem.evalArgs_none (hm pins s1 σ H1 x [] v [] Q I1 r1 .nil q1))⟩
theorem mV (pa:PlainAttrs T)(slot:Slot T name id)(Nz:Ņ (.builtin id)=pure (.type "method_descriptor")) (hm:Ke X id r) (ho:PE X o to) (ha:PA X (e::es) t)
  (MO:ú o name X.env (eval o X.env)=eval o X.env:=by rfl)
  (VU:((Pi cpos (Ι (e::es) X.env)).all (λx=>!x.1)&&(backToKw cpos (keywordEach [] X.env)).all (λx=>x.1.isSome)
   && decide ((e::es).length+([]:List Ń).length+(if ([]:List Ń).isEmpty then 0 else 1)<30))=ζ:=by rfl)
  (NA:(apos.endLine==cpos.line)=ζ:=by rfl) (hs:Ι (e::es) X.env=(ε,eval e X.env)::Ι es X.env:=by rfl) (QD:(Pi cpos (Ι es X.env)).any (·.1)=ε:=by rfl) :
  PE X (.Call (.Attribute o name apos) (e::es) [] cpos) (FK X.K T r to t):=by
 intro pins s σ H Q I h;refine wpAny_Call_method_late MO VU NA rfl (cI (ho pins s σ H _ I h) λv s1 ⟨x,H1,I1,r1,ty,q1⟩=>?_);obtain⟨h1,h2⟩:=Bv I1 r1 ty;refine⟨T,id,pa,slot,Nz,h1,h2,?_⟩;have hA:=ha cpos pins s1 σ H1 _ I1 q1;rw[hs] at hA ⊢;refine ĉ (by show (ε || (Pi cpos (Ι es X.env)).any (·.1))=ε;rw[QD]<;>rfl) (ğ ?_);exact cI hA λus s2 ⟨vs,H2,I2,r2,q2⟩=>hm pins s2 σ H2 x vs v us Q I2 r1 r2 q2
end
end L2
namespace L2
open PySem PySem.Spec PyProof.Rows
noncomputable def GL (X:Cx)(id:String)(r:V->List V->Hp->VK->Prop):Prop :=
 ∀(pins:List (Addr×Obj)) (s:μ) (σ:St) (H:Hp) (x:V) (xs:List V) (v:Value) (us:List Value) (Q:VK),Inv X pins σ H s->RelV x v->aK xs us->r x xs H Q ->
  Β (Ζ X.prog X.w) X.A (call (.builtin id) (v::us)) (EP X pins σ Q) X.xe s
theorem aK.one:∀{x:V}{us:List Value},aK [x] us->∃u,us=[u]/\RelV x u:=by
 intro x us h;cases h with
 |cons r t=>cases t;exact⟨_,rfl,r⟩
theorem aK.two:∀{x y:V}{us:List Value},aK [x,y] us->∃u v,us=[u,v]/\RelV x u/\RelV y v:=by
 intro x y us h;cases h with
 |cons r t=>
  obtain⟨v,rfl,q⟩:=aK.one t;exact⟨_,v,rfl,r,q⟩
theorem aK.zero:∀{us:List Value},aK [] us->us=[]
 |_,.nil=>rfl
variable {us:List Value}{xs:List V}
theorem aK.dropLast (h:aK xs us):aK xs.dropLast us.dropLast:=by
 induction h with
 |nil=>exact .nil
 |cons r t ih=>
  cases t with
  |nil=>exact .nil
  |cons q t'=>exact .cons r ih
theorem aK.eraseIdx:∀{xs:List V}{us:List Value}(i:Nat),aK xs us->aK (xs.eraseIdx i) (us.eraseIdx i)
 |_,_,_,.nil=>.nil
 |_,_,0,.cons _ t=>t
 |_,_,i+1,.cons r t=>.cons r (aK.eraseIdx i t)
theorem aK.rep (h:aK xs us):∀k:Nat,aK (ξ k xs).flatten (ξ k us).flatten
 |0=>.nil
 |k+1=>by
  rw[dq,dq,dw,dw];exact aK.append h (aK.rep h k)
theorem pO {α:Type}(l:List α):l.eraseIdx (l.length-1)=l.dropLast:=by
 induction l with
 |nil=>rfl
 |cons a r ih=>
  cases r with
  |nil=>rfl
  |cons b r=>
   have e:(a::b::r).length-1=((b::r).length-1)+1:=by
    have h1:(a::b::r).length=r.length+2:=rfl;have h2:(b::r).length=r.length+1:=rfl;omega
   rw[e,List.eraseIdx_cons_succ,ih]
   all_goals rfl
theorem qm {α:Type}:∀(l:List α) (i:Nat),(l.eraseIdx i).length<=l.length
 |[],_=>au _
 |_::_,0=>ZX _
 |_::r,i+1=>Nat.succ_le_succ (qm r i)
theorem foldl_rep (aH:List Value):∀(k:Nat) (acc:List Value),
  Ķ (λx1 x2=>x1++x2) acc.toArray (ξ k aH.toArray)=(acc++(ξ k aH).flatten).toArray
 |0,acc=>by simp
 |k+1,acc=>by
  have e:acc.toArray++aH.toArray=(acc++aH).toArray:=by simp
  have e2:(acc++aH)++(ξ k aH).flatten=acc++(ξ (k+1) aH).flatten:=by
   rw[dq,dw,fi]
  rw[<-e2,<-foldl_rep aH k (acc++aH),<-e,dq,List.foldl_cons]
variable {n:Nat}
section
variable {X:Cx}{pins:List (Addr×Obj)}{σ:St}{H:Hp}{s:μ}{l b:Addr}{xs ys zs:List V}
theorem Inv.Pp {aH its':List Value}{f:Array Value->Array Value}{t':Nat}(I:Inv X pins σ H s)(hH:H l=θ (.lst xs))
  (e:s.heap.get? l=θ { cls:=.type "list",data:=.seq aH.toArray n }) (hf:f aH.toArray=its'.toArray) (hv:aK ys its') (hz:ys.length<=sizeLine) :
  Inv X pins σ (upd H l (.lst ys)) { s with heap:=s.heap.update l (å f),toks:=t' }:=by
 have q:=x? e f;rw[hf] at q;refine I.write (x:=l) (e:=l) (by rw[hH];exact trivial) (.inl rfl) (λb' u hb hu=>(Λ s.heap (å f) (bw hb)).trans hu) ⟨_,q⟩ ?_;exact⟨hz,its',_,hv,q⟩
theorem Inv.Qu {aH:List Value}{t':Nat}(I:Inv X pins σ H s)(hv:aK ys aH)(hz:ys.length<=sizeLine) :
  Inv X pins σ (upd H s.heap.objs.size (.lst ys)) { s with heap:=s.heap.push { cls:=.type "list",data:=.seq aH.toArray },toks:=t' } :=
 I.laid (λ_ _ q=>τ _ q) (au _) ⟨hz,aH,0,hv,Υ _ rfl⟩
theorem Inv.fresh (I:Inv X pins σ H s):H s.heap.objs.size=η:=I.Mc.fresh (au _)
theorem Inv.yT (I:Inv X pins σ H s)(hH:H l=θ (.lst xs)):xs.length<=sizeLine/\∃(aH:List Value) (n:Nat),aK xs aH/\xs.length=aH.length/\s.heap.get? l=θ { cls:=.type "list",data:=.seq aH.toArray n }:=by
 obtain⟨z,aH,n,r,e⟩:=I.Mc l _ hH;exact⟨z,aH,n,r,r.length,e⟩
theorem uw (h:n<=sizeLine):GM n=ε:=by
 unfold GM;exact cm (by omega)
end
section
variable {X:Cx}
def E3:V->List V->Hp->VK->Prop:=λx vs H Q=>∃l xs y,x=.ref l/\vs=[y]/\H l=θ (.lst xs)/\xs.length<sizeLine/\Q .Mh (upd H l (.lst (xs ++ [y])))
theorem qo:GL X "list.append" E3:=by
 intro pins s σ H x vs v us Q I rx rv h;obtain⟨l,xs,y,rfl,rfl,hH,hz,q⟩:=h;cases rx;obtain⟨u,rfl,ru⟩:=rv.one;obtain⟨z,aH,n,r,hl,e⟩:=I.yT hH;refine ZE jr ⟨_,e,rfl⟩ F.entry_list_append (F.args_list_append_2 _ _) (PySem.list_append l aH.toArray n u (by rw[ak];omega)) ⟨e,?_⟩;refine⟨.Mh,_,I.Pp (its':=aH ++ [u]) hH e (by simp) (r.append (.cons ru .nil)) ?_,rfl,q⟩;rw[ba,Ġ];omega
def UE:V->List V->Hp->VK->Prop:=λx vs H Q=>∃l xs y,x=.ref l/\vs=[]/\H l=θ (.lst xs)/\xs[xs.length-1]? = θ y/\Q y (upd H l (.lst xs.dropLast))
theorem Je:GL X "list.pop" UE:=by
 intro pins s σ H x vs v us Q I rx rv h;obtain⟨l,xs,y,rfl,rfl,hH,hy,q⟩:=h;cases rx;have hus:=rv.zero;subst hus;obtain⟨z,aH,n,r,hl,e⟩:=I.yT hH;obtain⟨u,hu,ru⟩:=r.get hy;have Q2:aH.toArray[aH.toArray.size-1]? = θ u:=by
  show aH.toArray[aH.length-1]? = θ u;rw[<-ē,<-hl];exact hu
 refine ZE ć ⟨_,e,rfl⟩ Ų (F.args_list_pop_1 _) (A? l aH.toArray n u Q2 (by rw[ak];omega)) ⟨e,?_⟩;refine⟨y,_,I.Pp (its':=aH.dropLast) hH e ?_ r.dropLast ?_,ru,q⟩
 .show aH.toArray.eraseIdxIfInBounds (aH.toArray.size-1)=aH.dropLast.toArray;rw[ak,ô,pO]
 .rw[List.length_dropLast];omega
def II:V->List V->Hp->VK->Prop:=λx vs H Q=>∃l xs i k y,x=.ref l/\vs=[.int i]/\H l=θ (.lst xs)/\-(2 ^ 63)<=i/\i<2 ^ 63/\Õ i xs.length=θ k/\xs[k]? = θ y/\Q y (upd H l (.lst (xs.eraseIdx k)))
theorem Co:GL X "list.pop" II:=by
 intro pins s σ H x vs v us Q I rx rv h;obtain⟨l,xs,i,k,y,rfl,rfl,hH,h1,h2,hk,hy,q⟩:=h;cases rx;obtain⟨u,rfl,ru⟩:=rv.one;obtain⟨t,rfl⟩:=ru;obtain⟨z,aH,n,r,hl,e⟩:=I.yT hH;obtain⟨w,hw,eR⟩:=r.get hy;refine ZE ć ⟨_,e,rfl⟩ Ų (F.args_list_pop_2 _ _)
  (B_ l aH.toArray n i t k w (m_ h1 h2) (by rw[ak,<-hl];exact hk) (by rw[<-ē];exact hw) (by rw[ak];omega)) ⟨e,?_⟩
 refine⟨y,_,I.Pp (its':=aH.eraseIdx k) hH e ?_ (r.eraseIdx k) ?_,eR,q⟩
 .show aH.toArray.eraseIdxIfInBounds k=(aH.eraseIdx k).toArray;rw[ô]
 .have:=qm xs k;omega
theorem len_rep {α:Type}(xs:List α)(k:Nat):(ξ k xs).flatten.length=k*xs.length:=by
 induction k with
 |zero=>simp
 |succ k ih=>rw[dq,dw,ba,ih,d!,õ]
end
section
variable {prog:Program}{w:Ξ}{A:Ρ}{E:Value->μ->Prop}{s:μ}
end
section
variable {X:Cx}
end
end L2
namespace Att
open PySem PySem.W PySem.Calls PyProof.Rows
variable {P:Ł}{h:Heap}
theorem nF:∀(ns:List Int) (vs:List Value),WellAll P h vs (ns.map i?)->É vs ns:=by
 intro ns
 induction ns with
 |nil=>
  intro vs w;rw[è] at w;cases w;exact .nil
 |cons n ns ih=>
  intro vs w;rw[bo] at w;cases w with
  |cons a b=>
   cases a;exact .cons _ _ (ih _ b)
variable {l:OpenLaw}{n:Nat}
theorem zY (hn:l.most=θ n){args:List WData}{vals:List Value}
  (Pu:l.row.toRowW.claim.pre args=ζ) (U9:WellAll P h vals args) :
  ∃a vs ns,vals=[Γ a]/\args=[WData.list (ns.map i?)]/\h.get? a=θ { cls:=.type "list",data:=.seq vs.toArray }/\É vs ns/\ns.length<=n:=by
 have hsh:WShape.hasAll [] args [.list .int]=ζ:=(pre_splitW Pu).1;have hc:l.pre.holds [] { args:=args }=ζ:=(pre_splitW Pu).2;obtain⟨d,r,rfl,h1,h2⟩:=hasAllW_cons hsh;obtain rfl:=hasAllW_nil h2;obtain⟨xs,rfl,h3⟩:=hasW_list h1;obtain⟨ns,rfl⟩:=items_int h3;have hlen:ns.length<=n:=by
  unfold OpenLaw.pre at hc;have h4:(WTm.not (.lt (.lit (.int (n:Int))) (.len (.arg 0)))).holds [] { args:=[.list (ns.map .int)] }=ζ:=by
   have h4:=(holds_andW hc).1;rw[hn] at h4;exact h4
  have h5:=condW_of h4 (w_not (w_lt w_lit (w_len_list (w_arg rfl))));rw[aj] at h5;refine jb λq=>?_
  have q':(n:Int)<((ns.length:Nat):Int):=by omega
  first
   | (rw[cu q'] at h5;exact absurd h5 (by decide))
   | (simp at h5;omega)
 cases U9 with
 |cons w1 w2=>
  cases w2;cases w1 with
  |list ho Wc=>exact⟨_,_,ns,rfl,rfl,ho,nF ns _ Wc,hlen⟩
theorem zT (l:OpenLaw)(args:List WData):l.row.toRowW.claim.post args (.bool ζ) args=ζ :=
 postW_of (r:=l.row.toRowW) (X:=(ζ==ζ))
  (show a! [] (.bool ζ) .bool=ζ by first|rfl|decide|simp[a!,WShape.arms,WShape.armsAll])
  (show (WTm.eq .res (.lit (.bool ζ))).value [] { args:=args,res:=θ (.bool ζ),after:=args }=θ (.bool (ζ==ζ)) from w_eq_bool (w_res rfl) w_lit) rfl
theorem uD {q:Program}{loose:List Str}{XP:(Str->Option Value)->Heap->Prop}{YP:Ξ->Heap->Prop}{d:DefRec}
  (hn:l.most=θ n) (Su:d.params.defaults=[])
  (call:∀(w:Ξ) (s₀ s₁:μ) (mg mb:Str->Option Value) (fa:Addr) (o:Obj) (pm cd doc:Value) (a:Addr) (vs:List Value) (ns:List Int),
   Ground q loose [] XP w s₀ mg mb s₁.heap->YP w s₁.heap ->
   s₁.heap.get? fa=θ o->o.data=.func (docDef d.name d.params d.body d.scope pm cd doc)->s₁.heap.CodeRec cd d.name->mg d.name=θ (.ref fa) ->
   s₁.heap.get? a=θ { cls:=.type "list",data:=.seq vs.toArray }->É vs ns->ns.length<=n->s₁.gens = #[] ->
   On (Ζ l.prog w) é (.call (.ref fa) ⟨[.ref a],[]⟩) (λr s'=>r=.ok (.ret (.bool ζ))/\OldK s₁.heap s'.heap/\s'.os=s₁.os/\Tk s'.gens) s₁) :
  WalkO q loose XP YP l.row.toRowW d [] (λf vs=>Į f vs):=by
 intro w s₀ s₁ mg mb G Y fa o pm cd doc dV kV ho hd MT hD VB hg args vals as Pu hlay hrd U9 Sh;obtain rfl:dV=.none:=Dflts.none hD Su;obtain rfl:kV=.none:=Dflts.noKw hD;obtain⟨a,vs,ns,rfl,rfl,QE,hints,hlen⟩:=zY hn Pu U9;refine enter_call (ZA (call w s₀ s₁ mg mb fa o pm cd doc a vs ns G Y ho (fd_plain hd) MT VB QE hints hlen hg) λr s' hq=>?_);obtain⟨rfl,h2,h3,h4⟩:=hq;exact⟨.inl ⟨.bool ζ,.bool ζ,[],rfl,λ_=>rfl,.bool ζ,zT l _,λ_=>⟨Ð,λ_ hm=>(nomatch hm)⟩⟩,h2,h3,h4⟩
variable {L:Addr}
section
variable {prog:Program}{w:Ξ}{A:Ρ}{E:Value->μ->Prop}{s:μ}{K:Frag}
noncomputable def rT (h:Heap):Heap:={ h with objs:=#[] }
theorem oO (h:Heap)(b:Addr):(rT h).get? b=η:=by
 cases e:(rT h).get? b with
 |none=>rfl
 |some o=>exact absurd (Α e) (iz _)
noncomputable def ledger (h:Heap)(L d:Addr):List (Addr×Obj):=(ρ h.objs.size).filterMap λa=>if a=L\/a=d then η else (h.get? a).map λo=>(a,o)
theorem kN {d a:Addr}{o:Obj}:(a,o)∈ledger h L d↔a≠L/\a≠d/\h.get? a=θ o:=by
 unfold ledger;rw[KM];constructor
 .rintro⟨b,_,e⟩;split at e
  .cases e
  .rename_i hb;obtain⟨o',ho,e'⟩:=ae.mp e;cases e';exact⟨λq=>hb (.inl q),λq=>hb (.inr q),ho⟩
 .rintro⟨n1,n2,ho⟩;refine⟨a,pi.mpr (Α ho),?_⟩;rw[if_neg (show ¬ (a=L\/a=d) from λq=>q.elim n1 n2),ho]<;>rfl
theorem HL {m:Str->Option Value}(n:h.Ns L m):Fr (rT h) L h m :=
 ⟨n,λb o e=>(by rw[oO] at e;cases e),dh _⟩
end
end Att
namespace L2
open PySem PySem.Spec PyProof.Rows
theorem iU:∀{vs:List Value}{ns:List Int},É vs ns->aK (ns.map V.int) vs
 |_,_,.nil=>.nil
 |_,_,.cons n t h=>.cons ⟨t,rfl⟩ (iU h)
def HZ (H:Hp):Prop:=∀b,H b=η\/∃o xs,H b=θ (.Om o (.lst xs))
theorem BE {P:Program}{w:Ξ}{K:ψ}{mg mb:Str->Option Value}{CX:rG}{k:Nat}{fa a:Addr}{fd:io}{x:Str}{sp:Sp}{s₁:μ}{vs:List Value}{ns:List Int}
  (KX:K.In s₁.heap) (NU:s₁.heap.Ns dL mg) (hb:s₁.heap.Ns Ű mb) (hbb:∀x:Str,x≠"__name__"->mb x=FM x) (Pw:s₁.heap.NoLimit) (hg:s₁.gens = #[])
  (ha:s₁.heap.get? a=θ { cls:=.type "list",data:=.seq vs.toArray }) (hi:É vs ns) (hl:ns.length<=sizeLine) (hr:gQ k é)
  (F:∀base:Heap,K.In base->base.Ns dL mg->nN P w K mg base CX k fa fd [x] sp) (Sx:∀(s:μ) (u:Value),ł s fd ⟨[u],[]⟩ [(x,u)])
  (NT:∀H:Hp,HZ H->mh K H a (ns.map V.int)->sp [.ref a] H (λv _=>v=.bl ζ) λ_ _ _=>False)
  (Wf:∀H e s',CX [] H s₁ (λ_ _ _=>False) e s'->False) :
  On (Ζ P w) é (.call (.ref fa) ⟨[.ref a],[]⟩) (λr s'=>r=.ok (.ret (.bool ζ))/\OldK s₁.heap s'.heap/\s'.os=s₁.os/\Tk s'.gens) s₁:=by
 have rv:=iU hi;have UU:=hi.length;have core:∀H:Hp,HZ H->mh K H a (ns.map V.int)->lR P w H s₁.heap->(∀b,H b≠η->b=a)->(H a≠η->K.lookup a=η) ->
   On (Ζ P w) é (.call (.ref fa) ⟨[.ref a],[]⟩) (λr s'=>r=.ok (.ret (.bool ζ))/\OldK s₁.heap s'.heap/\s'.os=s₁.os/\Tk s'.gens) s₁:=by
  intro H hO hS Mc hA hK;have N6:∀{b:Addr}{o:Obj},s₁.heap.get? b=θ o->H b=η->(rH s₁.heap H).get? b=θ o:=λe n=>Cg e n
  have RF:∀{b:Addr}{o:Obj}{es:Array DictEntry}{ep:Nat},s₁.heap.get? b=θ o->o.data=.dict es ep->H b=η:=λ{b o es ep} e d=>by
   cases q:H b with
   |none=>rfl
   |some u=>
    have e':b=a:=hA b (by rw[q];simp);subst e';rw[ha] at e;cases e;have d':Data.seq vs.toArray _=l_ es ep:=d;cases d'
  have Tj:∀{b:Addr}{m:Str->Option Value},s₁.heap.Ns b m->(rH s₁.heap H).Ns b m:=λ{b m} ⟨o,es,ep,e,d,r⟩=>⟨o,es,ep,N6 e (RF e d),d,r⟩
  have YQ:K.In (rH s₁.heap H):=λb o e=>N6 (KX b o e) (by
   cases q:H b with
   |none=>rfl
   |some u=>
    have e':b=a:=hA b (by rw[q];simp);subst e';rw[hK (by rw[q];simp)] at e;cases e)
  have hM:Mod K mg (rH s₁.heap H):=⟨YQ,Tj NU,⟨mb,Tj hb,hbb⟩,let ⟨mc,h1,h2⟩:=Pw;⟨mc,Tj h1,h2⟩⟩;have e0:zf P w K mg (rH s₁.heap H) é [] s₁ H:=⟨rfl,hM,λb o e=>EJ e,d? (zd _ _),trivial,λb hb=>absurd (show b∈([]:List Addr) from hb) (by simp),Mc,.of_eq hg⟩;refine ZA ((F _ YQ (Tj NU)).run é [] s₁ H ⟨[.ref a],[]⟩ [.ref a] [.ref a] _ _ hr e0 (Sx s₁ (.ref a)) (.cons rfl .nil) (NT H hO hS)) λr s' h=>?_
  cases r with
  |error e=>exact (Wf H e s' h).elim
  |ok fl=>
   cases fl with
   |next=>exact Φ h
   |brk=>exact Φ h
   |cont=>exact Φ h
   |ret u=>
    obtain⟨v,H',os,bare,un,Vv,r',q⟩:=h;have q':v=.bl ζ:=q;subst q';obtain rfl:u=Ch ζ:=r';refine⟨rfl,OldK.of_keep λb o e=>?_,os,bare⟩;cases q:H b with
    |none=>exact un.keep b o e q (by intro z;exact absurd (show b∈([]:List Addr) from z) (by simp)) (by simp)
    |some u=>
     rcases hO b with z|⟨ob,xs,z⟩
     .rw[q] at z;cases z
     .have z2:=un.MV b ob _ z;obtain⟨e1,_⟩:=Mc b _ z;obtain⟨e2,_⟩:=Vv b _ z2;rw[e] at e1;cases e1;exact e2
 cases hk:K.lookup a with
 |some o=>
  have e:=KX a o hk;rw[ha] at e;cases e;refine core (λ_=>η) (λ_=>.inl rfl) (.inr ⟨_,vs.toArray,_,hk,rfl,rfl,rfl,by rw[ak,UU];exact hl,by simpa using rv⟩) (λb u z=>by have z':(η:Option HO)=θ u:=z;cases z') (λb z=>absurd rfl z) λz=>absurd rfl z
 |none=>
  refine core (λb=>if b=a then θ (.Om { cls:=.type "list",data:=.seq vs.toArray } (.lst (ns.map V.int))) else η) (λb=>?_) (.inl (.inr ⟨{ cls:=.type "list",data:=.seq vs.toArray },if_pos rfl⟩)) (λb u z=>?_) (λb z=>?_) λ_=>hk
  .by_cases hb:b=a
   .exact .inr ⟨_,_,if_pos hb⟩
   .exact .inl (if_neg hb)
  .by_cases hb:b=a
   .have z':=(if_pos hb).symm.trans z;cases z';subst hb;exact⟨ha,by rw[aj];exact hl,vs,_,rv,ha⟩
   .have z':=(if_neg hb).symm.trans z;cases z'
  .by_cases hb:b=a
   .exact hb
   .exact absurd (if_neg hb) z
end L2
namespace L2
open PySem PySem.Spec PyProof.Rows
theorem EB {l:ķ}{n k:Nat}{q:Program}{loose:List Str}{XP:(Str->Option Value)->Heap->Prop}{YP:Ξ->Heap->Prop}{d:DefRec}{K:Ł->ψ}{CX:Ξ->rG}{sp:Ξ->Sp}{x:Str}
  (hn:l.most=θ n) (YA:n<=sizeLine) (Su:d.params.defaults=[]) (hr:gQ k é)
  (hY:∀(w:Ξ) (h:Heap),YP w h->(K w.params).In h)
  (F:∀(w:Ξ) (mg:Str->Option Value) (fa:Addr) (h:Heap),(K w.params).In h->h.Ns dL mg->mg d.name=θ (.ref fa) ->
   ∃fd:io,(∀(s:μ) (u:Value),ł s fd ⟨[u],[]⟩ [(x,u)]) /\
    ∀base:Heap,(K w.params).In base->base.Ns dL mg->nN l.prog w (K w.params) mg base (CX w) k fa fd [x] (sp w))
  (NT:∀(w:Ξ) (H:Hp) (a:Addr) (ns:List Int),ns.length<=n->HZ H->mh (K w.params) H a (ns.map V.int)->sp w [.ref a] H (λv _=>v=.bl ζ) λ_ _ _=>False)
  (Wf:∀(w:Ξ) (H:Hp) (s:μ) (e:Value) (s':μ),CX w [] H s (λ_ _ _=>False) e s'->False) :
  ŉ q loose XP YP l.row.toRowW d [] (λf vs=>Į f vs):=by
 refine Att.uD hn Su λw s₀ s₁ mg mb fa o pm cd doc a vs ns G Y ho hd MT VB QE hints hlen hg=>?_
 have KX:=hY w _ Y;obtain⟨fd,hb,hF⟩:=F w mg fa _ KX G.T.g VB;exact BE KX G.T.g G.T.b G.T.builtins G.T.nolimit hg QE hints (bp hlen YA) hr hF hb (λH hO hS=>NT w H a ns hlen hO hS) λH e s'=>Wf w H s₁ e s'
end L2
namespace L2
open PySem PySem.Spec PyProof.Rows
noncomputable abbrev tU:rG:=λ_ _ _ _ _ _=>False
noncomputable abbrev E0:XK:=λ_ _ _=>False
theorem FG {X:Cx}:kT tU X E0:=λ_ _ _ _ _ _ _ h=>h.elim
structure sf (K:ψ)(x qual:Str)(st:Stmt)(f:Addr)(fd:io):Prop where
 ex:∃(oc:Value) (od:Option Addr) (kV doc pm:Value) (an:Option Addr) (Me ct:Value) (NZ:Array (Option Value)),
  fd=wf x qual (dW st) (aV st) (aB st) .none kV doc pm an Me ct/\K.lookup f=θ ⟨oc,od,.func fd,NZ⟩/\SL K Me qual=ζ
 kp:kt K (.ref f)=ζ
variable {f:Addr}{fd:io}{ps:List Str}{qual x:Str}{st:Stmt}
section
variable {P:Program}{w:Ξ}{K:ψ}{mg:Str->Option Value}{base:Heap}
theorem sf.ok {N:List Str}{k:Nat}{sp:Sp}(F:sf K x qual st f fd)(S:bQ N ps (aB st))(len:∀vs H Q E,sp vs H Q E->vs.length=ps.length)
  (MN:∀(Me:Value) (A:Ρ) (outer:List ù) (s:μ) (H:Hp) (vs:List V) (Q:VK) (E:XK),gQ k (A.deeper (bi qual (aB st) s.heap.objs.size f Me))->sp vs H Q E ->
   ∃t,hU (cB tU P w K mg base N qual (aB st) f Me A outer s H E).MH (aV st) t/\t { nx:=λ_ H'=>Q .Mh H',rt:=Q } (start N vs) H):nN P w K mg base tU (k+1) f fd ps sp:=by
 obtain⟨oc,od,kV,doc,pm,an,Me,ct,NZ,rfl,lk,MT⟩:=F.ex;refine JY lk MT S len λA outer s H vs Q E hr NT=>?_
 obtain⟨t,h,q⟩:=MN Me A outer s H vs Q E hr NT;exact⟨t,h.MH,q⟩
theorem sf.binds (F:sf K x qual st f fd)
  (h:∀(kV doc pm:Value) (an:Option Addr) (Me ct:Value) (us:List Value),us.length=ps.length->NE (wf x qual (dW st) (aV st) (aB st) .none kV doc pm an Me ct) ⟨us,[]⟩=pure (ps.zip us)):Binds K fd ps []:=by
 obtain⟨oc,od,kV,doc,pm,an,Me,ct,NZ,rfl,lk,MT⟩:=F.ex;exact .all (h kV doc pm an Me ct)
theorem Hf {st:Stmt}{oc:Value}{od an:Option Addr}{NZ:Array (Option Value)}{kV doc pm Me ct:Value}(l:K.lookup f=θ ⟨oc,od,.func (wf x qual (dW st) (aV st) (aB st) .none kV doc pm an Me ct),NZ⟩)
  (c:SL K Me qual=ζ) (k:kt K (.ref f)=ζ):sf K x qual st f (wf x qual (dW st) (aV st) (aB st) .none kV doc pm an Me ct):=⟨⟨oc,od,kV,doc,pm,an,Me,ct,NZ,rfl,l,c⟩,k⟩
end
section
variable {X:Cx}
theorem pv (i:Nat){pos:No}(hN:X.N[i]? = θ x:=by rfl)(hv:yj X.env.scope x:=by first|exact Or.inl rfl|exact a? (Or.inl rfl)|exact a? (a? rfl))(hd:(x==("__debug__" : Str))=ε:=by decide)
  (MT:(x==("__classdict__" : Str))=ε:=by decide):PE X (.Name x pos) (qd i):=sH hN hv hd MT
end
def aG (H H':Hp):Prop:=∀b o,H b=θ o->H' b=θ o
theorem aG.refl (H:Hp):aG H H:=λ_ _ h=>h
theorem aG.trans {H H1 H2:Hp}(a:aG H H1)(b:aG H1 H2):aG H H2:=λc o h=>b c o (a c o h)
section
variable {κ:Type}[DecidableEq κ]
end
section
variable {P:Program}{w:Ξ}{H:Hp}{h:Heap}{a:Addr}
end
section
variable {X:Cx}{pins:List (Addr×Obj)}{σ:St}{H:Hp}{s:μ}{a:Addr}{y v:V}{u r:Value}{o:Option V}{A:Ρ}{E:Value->μ->Prop}
end
section
variable {X:Cx}{pins:List (Addr×Obj)}{σ:St}{H:Hp}{s:μ}{a:Addr}{kvs:List (Key×V)}{k:Key}{u:Value}{A:Ρ}{E:Value->μ->Prop}
end
section
variable {X:Cx}{o i e value:Expr}{pos pos' Qg:No}{td ty tv:TE}
end
section
variable {X:Cx}{pos:No}
end
end L2
end
section
namespace Pc
open PySem
inductive D where
 |Mh|bl (b:Bool)|int (i:Int)|lst (xs:List D)|tup (xs:List D)
 |Np (kvs:List ((Int ⊕ Str)×Option Int))
deriving Inhabited
mutual
noncomputable def D.flat:D->Bool
 |.lst _=>ε
 |.tup xs=>D.Mk xs
 |.Mh=>ζ
 |.bl _=>ζ
 |.int _=>ζ
 |.Np _=>ζ
noncomputable def D.Mk:List D->Bool
 |[]=>ζ
 |x::xs=>D.flat x&&D.Mk xs
end
noncomputable def jW (f:D->D->Option Bool):List D->List D->Option Bool
 |[],[]=>θ ζ
 |x::xs,y::ys=>(f x y).bind λa=>(jW f xs ys).map λb=>a&&b
 |_,_=>η
noncomputable def D.Mr:Nat->D->D->Option Bool
 |0,_,_=>η
 |_+1,.int a,.int b=>θ (a==b)
 |n+1,.lst a,.lst b=>if a.length=b.length then jW (D.Mr n) a b else θ ε
 |n+1,.tup a,.tup b=>if a.length=b.length then jW (D.Mr n) a b else η
 |_+1,_,_=>η
noncomputable def D.Mw:D->Bool
 |.lst _=>ε
 |.tup _=>ε
 |.Np _=>ε
 |_=>ζ
noncomputable def D.QP:D->D->Bool
 |.Mh,.Mh=>ζ
 |.bl a,.bl b=>a==b
 |.int a,.int b=>a==b
 |.bl a,.int b=>(if a then (1:Int) else 0)==b
 |.int a,.bl b=>a==(if b then (1:Int) else 0)
 |_,_=>ε
inductive Rs (α:Type) where
 |ok (a:α)|bad
noncomputable def Rs.bind {α β:Type}(x:Rs α)(f:α->Rs β):Rs β:=match x with
 |.ok a=>f a
 |.bad=>.bad
inductive Rt where
 |mv (R:List Nat)
 |sh (R:List Nat)
noncomputable def Rt.roots:Rt->List Nat
 |.mv R=>R
 |.sh R=>R
inductive Tg where
 |own|lk|sh (R:List Nat)
noncomputable abbrev Slot:=Option (D×Tg)
noncomputable abbrev En:=List Slot
noncomputable def lim:Nat:=1000000
inductive md where
 |nm (i:Nat)|tp (is:List Nat)
inductive El where
 |len|list|int|all|sum|Q1 (T:String)|sorted|OJ|Od
inductive TY where
 |Mq
inductive vo where
 |append|extend
mutual
inductive Ex where
 |var (i:Nat)
 |cst (d:D)
 |NC (k:Nat)
 |bin (op:At) (a b:Ex)
 |neg (a:Ex)
 |cmp (op:Z2) (a b:Ex)
 |and (a b:Ex)
 |or (a b:Ex)
 |not (a:Ex)
 |ite (c a b:Ex)
 |lst (es:kE)
 |tup (es:kE)
 |ix (a i:Ex)
 |sl (a:Ex) (lo hi:nP)
 |call (f:Nat) (es:kE)
 |blt (b:El) (es:kE)
 |Pn (m:TY) (o:Ex) (es:kE)
 |comp (own:Nat) (pick:List Nat) (t:md) (it:qc) (c:nP) (e:Ex)
 |app (g:List D->Option D) (es:kE)
inductive kE where
 |nil|cons (e:Ex) (es:kE)
inductive nP where
 |none|some (e:Ex)
inductive qc where
 |seq (e:Ex)|Mo (a:Ex)|OF (a b:Ex)|enum (e:Ex)|zip (a b:Ex)
end
abbrev Ly:Ex:=.cst (.int 2)
abbrev Lz:Ex:=.cst (.int 1)
abbrev LA:Ex:=.cst (.int 0)
abbrev LB:Ex:=.cst (.int 3)
abbrev LC:Ex:=.cst (.int 64)
abbrev LD:Ex:=.cst (.int 31)
abbrev LF:Ex:=.cst (.int 23)
abbrev LG:Ex:=.cst (.int 15)
abbrev LH:Ex:=.cst (.int 8)
abbrev LI:Ex:=.cst (.int 4)
abbrev LJ (n:Int):Ex:=.cst (.int n)
abbrev LK:Ex:=.var 4
abbrev LL:Ex:=.var 2
abbrev LM:Ex:=.var 3
abbrev LN:Ex:=.var 0
abbrev LO:Ex:=.var 1
abbrev LP:Ex:=.var 5
abbrev LQ:Ex:=.var 6
abbrev LS:Ex:=.var 7
abbrev LU:Ex:=.var 8
abbrev LW:Ex:=.var 10
abbrev LX:Ex:=.var 12
abbrev LY:Ex:=.var 11
abbrev LZ:Ex:=.var 13
abbrev L1:Ex:=.var 9
abbrev L3:Ex:=.var 14
abbrev L4:Ex:=.var 15
abbrev L6 (a b:Ex):kE:=.cons a (.cons b .nil)
abbrev L5 (a:Ex):kE:=.cons a .nil
abbrev L7 (a b c:Ex):kE:=.cons a (.cons b (.cons c .nil))
abbrev L8 (a b c d:Ex):kE:=.cons a (.cons b (.cons c (.cons d .nil)))
abbrev L9 (a:Ex):Ex:=.blt .len (L5 a)
mutual
inductive St where
 |asg (t:md) (e:Ex) (mv:Bool)
 |mut (x:Nat) (path:nP) (m:vo) (es:kE)
 |MD (x:Nat) (path:nP) (i:Ex) (e:Ex)
 |aug (x:Nat) (op:At) (e:Ex)
 |Ot (y x:Nat) (es:kE)
 |Nl (y z x:Nat) (a:Ex) (es:kE)
 |expr (e:Ex)
 |ite (c:Ex) (a b:aU)
 |Mg (t:md) (it:qc) (b:aU)
 |Qd (c:Ex) (b:aU)
 |ret (e:Ex)
 |Qk|cnt|pass
inductive aU where
 |nil|cons (s:St) (r:aU)
end
noncomputable def ck (n:Nat)(d:D):Option D:=if n<=lim then θ d else η
noncomputable def small (i:Int):Bool:=decide (-(2 ^ 64)<i/\i<2 ^ 64)
noncomputable def binI:At->Int->Int->Option Int
 |.Add,i,j=>θ (i+j)
 |.Sub,i,j=>θ (i-j)
 |.Mult,i,j=>if small i || small j then θ (i*j) else η
 |.FloorDiv,i,j=>if 0<j/\j<1073741824 then θ (i / j) else η
 |.Mod,i,j=>if 0<j then θ (i%j) else η
 |.RShift,i,j=>if 0<=j then θ (i / 2 ^ j.toNat) else η
 |.BitAnd,i,j=>θ (Go i j)
 |.BitXor,i,j=>θ (SB i j)
 |_,_,_=>η
noncomputable def qa:At->D->D->Option D
 |op,.int i,.int j=>(binI op i j).map .int
 |.Add,.lst a,.lst b=>ck (a.length+b.length) (.lst (a++b))
 |.Mult,.lst a,.int k=>if -(2 ^ 63)<=k/\k<2 ^ 63 then (if D.Mk a then ck (a.length*k.toNat) (.lst (ξ k.toNat a).flatten) else η) else η
 |_,_,_=>η
noncomputable def T9:Option Int->D
 |none=>.Mh
 |some i=>.int i
noncomputable def zC (kvs:List ((Int ⊕ Str)×Option Int))(k:Int ⊕ Str):Option (Option Int):=(kvs.find? λq=>decide (q.1=k)).map (·.2)
noncomputable def rX:List D->Option (List Int)
 |[]=>θ []
 |.int i::r=>(rX r).map (i :: ·)
 |_::_=>η
noncomputable def JV (i j:Int):Bool:=!(i==42&&j==21)
noncomputable def inD (x:D):D->Option Bool
 |.lst ys=>if x.Mw&&ys.all D.Mw then θ (ys.any λy=>D.QP y x) else η
 |_=>η
noncomputable def uv:Z2->D->D->Option Bool
 |.Lt,.int i,.int j=>θ (decide (i<j))
 |.LtE,.int i,.int j=>θ (decide (i<=j))
 |.Gt,.int i,.int j=>θ (decide (j<i))
 |.GtE,.int i,.int j=>θ (decide (j<=i))
 |.Eq,x,y=>D.Mr 40 x y
 |.NotEq,x,y=>(D.Mr 40 x y).map (!·)
 |.In,x,y=>inD x y
 |.NotIn,x,y=>(inD x y).map (!·)
 |_,_,_=>η
noncomputable def truth:D->Option Bool
 |.bl b=>θ b
 |.int i=>θ (i != 0)
 |.lst xs=>θ (!xs.isEmpty)
 |.tup xs=>θ (!xs.isEmpty)
 |.Mh=>θ ε
 |.Np _=>η
noncomputable def kH (n:Nat)(i:Int):Option Nat:=if 0<=i then (if i<n then θ i.toNat else η) else if -(n:Int)<=i then θ (i+n).toNat else η
noncomputable def lZ (n d:Nat):Option Int->Nat
 |none=>d
 |some v=>if v<0 then (v+(n:Int)).toNat else min v.toNat n
noncomputable def cut {α:Type}(xs:List α)(lo hi:Option Int):List α :=
 let a:=lZ xs.length 0 lo
 (xs.drop a).take (lZ xs.length xs.length hi-a)
noncomputable def Jj:D->D->Option D
 |.lst xs,.int i=>(kH xs.length i).bind λj=>xs[j]?
 |.tup xs,.int i=>(kH xs.length i).bind λj=>xs[j]?
 |.Np kvs,.int i=>(zC kvs (.inl i)).map T9
 |_,_=>η
noncomputable def Fi:D->Option Int->Option Int->Option D
 |.lst xs,lo,hi=>θ (.lst (cut xs lo hi))
 |_,_,_=>η
noncomputable def D.inner:D->Bool
 |.lst xs=>D.Mk xs
 |.tup xs=>D.Mk xs
 |_=>ζ
noncomputable def ka (d:D)(R:List Nat):Rt:=if d.inner then .mv [] else .sh R
noncomputable def wB (d:D)(r:Rt):Rt:=if d.flat then .mv [] else .sh r.roots
noncomputable def dX:List Rt->Option (List Nat)
 |[]=>θ []
 |.mv R::r=>(dX r).map (R ++ ·)
 |.sh _::_=>η
noncomputable def aO (l:List Rt):List Nat:=(l.map Rt.roots).flatten
noncomputable def pF (l:List Rt):Rt:=match dX l with
 |some R=>if R.Nodup then .mv R else .sh R
 |none=>.sh (aO l)
noncomputable def tq (T:String):D->Bool
 |.Mh=>T == "NoneType"
 |.bl _=>T == "bool" || T == "int"
 |.int _=>T == "int"
 |.lst _=>T == "list"
 |.tup _=>T == "tuple"
 |.Np _=>ε
noncomputable def D.Ny:D->Bool
 |.bl _=>ζ
 |_=>ε
noncomputable def allB:List D->Option Bool
 |[]=>θ ζ
 |.bl b::r=>if b then allB r else θ ε
 |_::_=>η
noncomputable def wV:Int->List D->Option Int
 |a,[]=>θ a
 |a,.int i::r=>wV (a+i) r
 |_,_::_=>η
noncomputable def qX:Int->List D->Option Int
 |a,[]=>θ a
 |a,.int i::r=>qX (if i > a then i else a) r
 |_,_::_=>η
noncomputable def dZ:Int->Int->Nat->List D
 |_,_,0=>[]
 |a,s,n+1=>.int a::dZ (a+s) s n
noncomputable def mK (i:Int):Bool:=decide (-(2 ^ 62)<=i/\i<2 ^ 62)
noncomputable def insI (a:Int):List Int->List Int
 |[]=>[a]
 |b::l=>if a<=b then a::b::l else b::insI a l
noncomputable def gR:List Int->List Int
 |[]=>[]
 |a::l=>insI a (gR l)
noncomputable def AR:List D->Option D
 |[.lst xs]=>match rX xs with
  |some ns=>if ns.length<64 then θ (.lst ((gR ns).map .int)) else η
  |none=>η
 |_=>η
noncomputable def Ka:List D->Option D
 |[.lst xs]=>θ (.int xs.length)
 |[.tup xs]=>θ (.int xs.length)
 |_=>η
noncomputable def Hj:List D->Option D
 |[.lst xs]=>θ (.lst xs)
 |[.tup xs]=>θ (.lst xs)
 |_=>η
noncomputable def FE:List D->Option D
 |[.lst xs]=>if xs.all D.Ny then (allB xs).map .bl else η
 |_=>η
noncomputable def FJ:List D->Option D
 |[.lst xs]=>(wV 0 xs).map .int
 |_=>η
noncomputable def FP (T:String):List D->Option D
 |[.bl b]=>θ (.bl (tq T (.bl b)))
 |[.int i]=>θ (.bl (tq T (.int i)))
 |[.lst l]=>θ (.bl (tq T (.lst l)))
 |[.tup l]=>θ (.bl (tq T (.tup l)))
 |_=>η
noncomputable def CC:List D->Option D
 |[.int n]=>if mK n=ζ/\n<=1000000 then θ (.lst (dZ 0 1 n.toNat)) else η
 |_=>η
noncomputable def Lf:List D->Option D
 |[.bl b]=>θ (.int (if b then 1 else 0))
 |_=>η
noncomputable def BR:List D->Option D
 |[.lst [],.int d]=>θ (.int d)
 |[.lst (.int i::r),.int _]=>(qX i r).map .int
 |_=>η
noncomputable def lK:El->List D->Option D
 |.sorted,ds=>AR ds
 |.len,ds=>Ka ds
 |.list,ds=>Hj ds
 |.all,ds=>FE ds
 |.sum,ds=>FJ ds
 |.Q1 T,ds=>FP T ds
 |.OJ,ds=>CC ds
 |.int,ds=>Lf ds
 |.Od,ds=>BR ds
noncomputable def xi (n:Nat)(d:D):List D->Option (List Bool)
 |[]=>θ []
 |x::r=>(D.Mr n x d).bind λb=>(xi n d r).map (b :: ·)
noncomputable def ou (n:Nat)(d:D)(ds:List D):Option Nat:=(xi n d ds).bind λbs=>bs.findIdx? id
noncomputable def yI:TY->D->List D->Option D
 |.Mq,.lst xs,[.tup t]=>if xs.length<=lim then (ou 20 (.tup t) xs).map λ(j:Nat)=>.int (j:Int) else η
 |_,_,_=>η
noncomputable def Tg.drop (i:Nat):Tg->Tg
 |.sh R=>.sh (R.filter (· != i))
 |t=>t
noncomputable def cU (d:D)(R:List Nat):Tg:=if d.flat then .own else .sh R
noncomputable def put (env:En)(i:Nat)(d:D)(t:Tg):En:=(env.map λ(s:Slot)=>s.map λ(p:D×Tg)=>(p.1,p.2.drop i)).set i (θ (d,t))
noncomputable def ki (R:List Nat):Tg->Bool
 |.sh Q=>Q.any λq=>R.contains q
 |_=>ε
noncomputable def kill (R:List Nat)(env:En):En:=env.mapIdx λi (s:Slot)=>match s with
 |some (d,t)=>if R.contains i || ki R t then η else θ (d,t)
 |none=>η
noncomputable def dD (env:En)(R:List Nat):Bool:=R.all λi=>match env[i]? with
 |some (θ (_,.own))=>ζ
 |_=>ε
noncomputable def bindM (f:D->Tg):List Nat->List D->En->Option En
 |[],[],env=>θ env
 |i::is,d::ds,env=>if i<env.length then bindM f is ds (put env i d (f d)) else η
 |_,_,_=>η
noncomputable def bP (R:List Nat):md->D->En->Option En
 |.nm i,d,env=>if i<env.length then θ (put env i d (cU d R)) else η
 |.tp is,.tup ds,env=>bindM (λd=>cU d R) is ds env
 |_,_,_=>η
structure Tb where
 cl:Nat->List D->Rs (D×Bool)
 gl:Nat->D
 fuel:Nat
noncomputable def pS {α:Type}:Option α->Rs α
 |some a=>.ok a
 |none=>.bad
noncomputable def GJ:D->Option (List D)
 |.lst xs=>θ xs
 |.tup xs=>θ xs
 |_=>η
noncomputable def t5:D->Option (List D)
 |.lst xs=>θ xs
 |_=>η
noncomputable def ke (f:D->Rs (Option (D×Rt))):List D->Rs (List (D×Rt))
 |[]=>.ok []
 |d::r=>(f d).bind λo=>(ke f r).bind λl=>.ok (match o with
  |some p=>p::l
  |none=>l)
noncomputable def iZ (o:Option En)(c:En->Rs Bool)(e:En->Rs (D×Rt)):Rs (Option (D×Rt)):=match o with
 |none=>.bad
 |some env=>(c env).bind λk=>if k then (e env).bind λq=>.ok (θ q) else .ok η
noncomputable def ko:Rt->Bool
 |.mv []=>ζ
 |_=>ε
noncomputable def bA (i:Nat):Tg->List Nat
 |.own=>[i]
 |.lk=>[i]
 |.sh R=>R
noncomputable def qM (env:En)(pick:List Nat):List Nat:=(pick.map λj=>match env[j]? with
 |some (θ (_,t))=>bA j t
 |_=>[]).flatten
noncomputable def bU (env:En)(own:Nat)(pick:List Nat):En:=ξ own η++pick.map λi=>match env[i]? with
 |some (θ (d,_))=>θ (d,.sh [])
 |_=>η
mutual
noncomputable def ev (T:Tb):Ex->En->Rs (D×Rt)
 |.var i,env=>match env[i]? with
  |some (θ (d,t))=>.ok (d,if d.flat then .mv [] else match t with
   |.own=>.mv [i]
   |.lk=>.mv [i]
   |.sh R=>.sh R)
  |_=>.bad
 |.cst d,_=>.ok (d,.mv [])
 |.NC k,_=>.ok (T.gl k,.mv [])
 |.bin op a b,env=>(ev T a env).bind λp=>(ev T b env).bind λq=>(pS (qa op p.1 q.1)).bind λd=>.ok (d,ka d (p.2.roots++q.2.roots))
 |.neg a,env=>(ev T a env).bind λp=>match p.1 with
  |.int i=>.ok (.int (-i),.mv [])
  |_=>.bad
 |.cmp op a b,env=>(ev T a env).bind λp=>(ev T b env).bind λq=>(pS (uv op p.1 q.1)).bind λc=>.ok (.bl c,.mv [])
 |.and a b,env=>(ev T a env).bind λp=>match p.1 with
  |.bl ζ=>ev T b env
  |.bl ε=>.ok (.bl ε,.mv [])
  |_=>.bad
 |.or a b,env=>(ev T a env).bind λp=>match p.1 with
  |.bl ζ=>.ok (.bl ζ,.mv [])
  |.bl ε=>ev T b env
  |_=>.bad
 |.not a,env=>(ev T a env).bind λp=>match p.1 with
  |.bl k=>.ok (.bl (!k),.mv [])
  |_=>.bad
 |.ite c a b,env=>(ev T c env).bind λp=>(pS (truth p.1)).bind λk=>if k then ev T a env else ev T b env
 |.lst es,env=>(aR T es env).bind λl=>if l.length<=lim then .ok (.lst (l.map (·.1)),pF (l.map (·.2))) else .bad
 |.tup es,env=>(aR T es env).bind λl=>if l.length<=lim then .ok (.tup (l.map (·.1)),pF (l.map (·.2))) else .bad
 |.ix a i,env=>(ev T a env).bind λp=>(ev T i env).bind λq=>(pS (Jj p.1 q.1)).bind λd=>.ok (d,wB d p.2)
 |.sl a lo hi,env=>(ev T a env).bind λp=>(nt T lo env).bind λl=>(nt T hi env).bind λh=>(pS (Fi p.1 l h)).bind λd=>.ok (d,ka d p.2.roots)
 |.call f es,env=>(aR T es env).bind λl=>(T.cl f (l.map (·.1))).bind λr=>.ok (r.1,if r.2 then .mv [] else .sh (aO (l.map (·.2))))
 |.blt b es,env=>(aR T es env).bind λl=>(pS (lK b (l.map (·.1)))).bind λd=>.ok (d,ka d (aO (l.map (·.2))))
 |.Pn m o es,env=>(ev T o env).bind λp=>(aR T es env).bind λl=>(pS (yI m p.1 (l.map (·.1)))).bind λd=>.ok (d,ka d (p.2.roots++aO (l.map (·.2))))
 |.comp own pick t it c e,env=>(iL T it env).bind λp=>(ke (λd=>iZ (bP [] t d (bU env own pick)) (vY T c) (ev T e)) p.1).bind λl=>
    if p.1.length<=lim then .ok (.lst (l.map (·.1)),if l.all (λq=>q.1.flat || ko q.2) then .mv [] else .sh (p.2++qM env pick)) else .bad
 |.app g es,env=>(aR T es env).bind λl=>(pS (g (l.map (·.1)))).bind λd=>.ok (d,.mv [])
noncomputable def aR (T:Tb):kE->En->Rs (List (D×Rt))
 |.nil,_=>.ok []
 |.cons e es,env=>(ev T e env).bind λp=>(aR T es env).bind λl=>.ok (p::l)
noncomputable def nt (T:Tb):nP->En->Rs (Option Int)
 |.none,_=>.ok η
 |.some e,env=>(ev T e env).bind λp=>match p.1 with
  |.int i=>.ok (θ i)
  |_=>.bad
noncomputable def vY (T:Tb):nP->En->Rs Bool
 |.none,_=>.ok ζ
 |.some e,env=>(ev T e env).bind λp=>pS (truth p.1)
noncomputable def iL (T:Tb):qc->En->Rs (List D×List Nat)
 |.seq e,env=>(ev T e env).bind λp=>(pS (GJ p.1)).bind λl=>.ok (l,p.2.roots)
 |.Mo a,env=>(ev T a env).bind λp=>match p.1 with
  |.int j=>if mK j then .ok (dZ 0 1 j.toNat,[]) else .bad
  |_=>.bad
 |.OF a b,env=>(ev T a env).bind λp=>(ev T b env).bind λq=>match p.1,q.1 with
  |.int i,.int j=>if mK i&&mK j then .ok (dZ i 1 (j-i).toNat,[]) else .bad
  |_,_=>.bad
 |.enum e,env=>(ev T e env).bind λp=>(pS (t5 p.1)).bind λl=>.ok (l.zipIdx.map λq=>.tup [.int q.2,q.1],p.2.roots)
 |.zip a b,env=>(ev T a env).bind λp=>(ev T b env).bind λq=>(pS (t5 p.1)).bind λl=>(pS (t5 q.1)).bind λm=>.ok ((l.zip m).map λz=>.tup [z.1,z.2],p.2.roots++q.2.roots)
end
noncomputable def D.Mv:D->Option Int->Option (List D)
 |.lst xs,η=>θ xs
 |.lst xs,θ i=>(kH xs.length i).bind λj=>match xs[j]? with
  |some (.lst ys)=>θ ys
  |_=>η
 |.tup xs,θ i=>(kH xs.length i).bind λj=>match xs[j]? with
  |some (.lst ys)=>θ ys
  |_=>η
 |_,_=>η
noncomputable def D.M0:D->Option Int->List D->D
 |.lst _,η,n=>.lst n
 |.lst xs,θ i,n=>match kH xs.length i with
  |some j=>.lst (xs.set j (.lst n))
  |none=>.lst xs
 |.tup xs,θ i,n=>match kH xs.length i with
  |some j=>.tup (xs.set j (.lst n))
  |none=>.tup xs
 |d,_,_=>d
noncomputable def Ct:vo->List D->List D->Option (List D)
 |.append,xs,[d]=>θ (xs ++ [d])
 |.extend,xs,[.lst ys]=>if D.Mk ys then θ (xs++ys) else η
 |_,_,_=>η
noncomputable def pD (xs:List D)(j:Nat):Option (D×List D):=match xs[j]? with
 |some r=>if r.flat then θ (r,xs.eraseIdx j) else η
 |none=>η
noncomputable def pI (xs:List D):List D->Option (D×List D)
 |[]=>pD xs (xs.length-1)
 |[.int i]=>if -(2 ^ 63)<=i/\i<2 ^ 63 then (kH xs.length i).bind (pD xs) else η
 |_=>η
inductive Fl where
 |nx (env:En)|rt (d:D) (fr:Bool)|bk (env:En)|ct (env:En)|bad
noncomputable def BN:Option En->Fl
 |some env=>.nx env
 |none=>.bad
noncomputable def rR (t:md)(mv:Bool)(env:En)(p:D×Rt):Fl:=match t with
 |.nm i=>if i<env.length then (match p.2 with
  |.mv []=>.nx (put env i p.1 .own)
  |.mv R=>if mv then (if dD env R then .nx (put (kill R env) i p.1 .own) else .bad) else .nx (put env i p.1 (.sh (R.filter (· != i))))
  |.sh R=>.nx (put env i p.1 (.sh (R.filter (· != i))))) else .bad
 |.tp is=>match p.1 with
  |.tup ds=>match p.2 with
   |.mv []=>BN (bindM (λ_=>.own) is ds env)
   |r=>if is.all (λi=>!r.roots.contains i) then BN (bindM (λd=>cU d r.roots) is ds env) else .bad
  |_=>.bad
noncomputable def Fl.andThen (f:Fl)(k:En->Fl):Fl:=match f with
 |.nx env=>k env
 |x=>x
noncomputable def pH (e:En)(z:Nat)(a b:D):Option Nat:=match e[z]?,a,b with
 |some (θ (.lst zs,_)),.int n,.int k=>if zs.length<=lim then ou 20 (.tup [.int n,.int k]) zs else η
 |_,_,_=>η
noncomputable def j3 {α:Type}(env:En)(x:Rs α)(k:α->Fl):Fl:=match x with
 |.ok a=>k a
 |.bad=>.bad
noncomputable def gK (t:md)(R:List Nat)(b:En->Fl):List D->En->Fl
 |[],env=>.nx env
 |d::r,env=>match bP R t d env with
  |none=>.bad
  |some env'=>match b env' with
   |.nx e=>gK t R b r e
   |.ct e=>gK t R b r e
   |.bk e=>.nx e
   |x=>x
noncomputable def kG (c:En->Rs Bool)(b:En->Fl):Nat->En->Fl
 |0,_=>.bad
 |n+1,env=>j3 env (c env) λk=>if k then (match b env with
   |.nx e=>kG c b n e
   |.ct e=>kG c b n e
   |.bk e=>.nx e
   |x=>x) else .nx env
noncomputable def lock (R:List Nat)(env:En):En:=env.mapIdx λi (s:Slot)=>match s with
 |some (d,.own)=>if R.contains i then θ (d,.lk) else θ (d,.own)
 |s=>s
noncomputable def unlock (R:List Nat)(env0 env:En):En:=env.mapIdx λi (s:Slot)=>match s with
 |some (d,.lk)=>match env0[i]? with
  |some (θ (_,.own))=>if R.contains i then θ (d,.own) else θ (d,.lk)
  |_=>θ (d,.lk)
 |s=>s
noncomputable def vo.MF:vo->Bool
 |.extend=>ζ
 |_=>ε
noncomputable def bW (x:Nat)(path:Option Int)(env:En)(d:D)(ys:List D)(rs:List Rt):Fl:=match dX rs with
 |none=>.bad
 |some R=>if R.Nodup&&dD env R && !R.contains x&&decide (ys.length<=lim) then .nx ((kill (x::R) env).set x (θ (d.M0 path ys,.own))) else .bad
noncomputable def ownAt (env:En)(x:Nat):Option D:=match env[x]? with
 |some (θ (d,.own))=>θ d
 |_=>η
noncomputable def Ic:At->Int->Int->Option Int
 |.Add,i,j=>θ (i+j)
 |.Sub,i,j=>θ (i-j)
 |_,_,_=>η
noncomputable def KO (op:At)(x:Nat)(a:Int)(env:En)(p:D×Rt):Fl:=match p.1 with
 |.int b=>(match Ic op a b with
  |some c=>rR (.nm x) ε env (.int c,.mv [])
  |none=>.bad)
 |_=>.bad
noncomputable def intAt (env:En)(x:Nat):Option Int:=match env[x]? with
 |some (θ (.int a,_))=>θ a
 |_=>η
mutual
noncomputable def bH (T:Tb):St->En->Fl
 |.asg t e mv,env=>j3 env (ev T e env) (rR t mv env)
 |.mut x path m es,env=>match ownAt env x with
  |none=>.bad
  |some d=>j3 env (nt T path env) λp=>match d.Mv p with
   |none=>.bad
   |some xs=>j3 env (aR T es env) λl=>match Ct m xs (l.map (·.1)) with
    |none=>.bad
    |some ys=>if (aO (l.map (·.2))).contains x then .bad else bW x p env d ys (if m.MF then [] else l.map (·.2))
 |.MD x path i e,env=>match ownAt env x with
  |none=>.bad
  |some d=>j3 env (ev T e env) λv=>j3 env (nt T path env) λp=>match d.Mv p with
   |none=>.bad
   |some xs=>j3 env (ev T i env) λq=>match q.1 with
    |.int i=>(match kH xs.length i with
     |none=>.bad
     |some j=>bW x p env d (xs.set j v.1) [v.2])
    |_=>.bad
 |.aug x op e,env=>match intAt env x with
  |none=>.bad
  |some a=>j3 env (ev T e env) (KO op x a env)
 |.Ot y x es,env=>if y=x then .bad else match ownAt env x with
  |none=>.bad
  |some d=>(match d.Mv η with
   |none=>.bad
   |some xs=>j3 env (aR T es env) λl=>match pI xs (l.map (·.1)) with
    |none=>.bad
    |some q=>(bW x η env d q.2 []).andThen λe=>match ownAt e y with
     |none=>.bad
     |some dy=>(match dy.Mv η with
      |none=>.bad
      |some ys=>bW y η e dy (ys ++ [q.1]) []))
 |.Nl y z x a es,env=>if y=x then .bad else match ownAt env x with
  |none=>.bad
  |some d=>(match d.Mv η with
   |none=>.bad
   |some xs=>j3 env (ev T a env) λpa=>j3 env (aR T es env) λl=>match pI xs (l.map (·.1)) with
    |none=>.bad
    |some q=>(bW x η env d q.2 []).andThen λe=>match pH e z pa.1 q.1 with
     |none=>.bad
     |some j=>match ownAt e y with
      |none=>.bad
      |some dy=>(match dy.Mv η with
       |none=>.bad
       |some ys=>bW y η e dy (ys ++ [.int (j:Int)]) []))
 |.expr e,env=>j3 env (ev T e env) λ_=>.nx env
 |.ite c a b,env=>j3 env (ev T c env) λp=>match truth p.1 with
  |some ζ=>aE T a env
  |some ε=>aE T b env
  |none=>.bad
 |.Mg t it b,env=>j3 env (iL T it env) λp=>(match gK t p.2 (aE T b) p.1 (lock p.2 env) with
  |.nx e=>.nx (unlock p.2 env e)
  |x=>x)
 |.Qd c b,env=>kG (λenv=>(ev T c env).bind λp=>pS (truth p.1)) (aE T b) T.fuel env
 |.ret e,env=>j3 env (ev T e env) λp=>.rt p.1 (match p.2 with
  |.mv R=>dD env R
  |.sh _=>ε)
 |.Qk,_=>.rt .Mh ζ
 |.cnt,env=>.ct env
 |.pass,env=>.nx env
noncomputable def aE (T:Tb):aU->En->Fl
 |.nil,env=>.nx env
 |.cons s r,env=>(bH T s env).andThen (aE T r)
end
structure Fn where
 ps:Nat
 slots:Nat
 body:aU
noncomputable def aD (ds:List D)(n:Nat):En:=ds.map (λd=>θ (d,cU d []))++ξ (n-ds.length) η
noncomputable def run (fns:List Fn)(gl:Nat->D)(fuel:Nat):Nat->Nat->List D->Rs (D×Bool)
 |0,_,_=>.bad
 |n+1,f,ds=>match fns[f]? with
  |none=>.bad
  |some F=>if ds.length=F.ps then (match aE ⟨run fns gl fuel n,gl,fuel⟩ F.body (aD ds F.slots) with
   |.rt d fr=>.ok (d,fr)
   |.nx _=>.ok (.Mh,ζ)
   |_=>.bad) else .bad
end Pc
end
section
namespace Pc
open PySem L2
noncomputable abbrev Frag:=ψ
inductive vJ:List DictEntry->List (Key×Option Int)->Prop where
 |nil:vJ [] []
 |cons {e:DictEntry}{es:List DictEntry}{k v:Int}{kvs:List (Key×Option Int)}{t u:Þ}(hh:e.hash=hashInt k) (hk:e.key=.int k t) (hv:e.val=.int v u) (r:vJ es kvs):vJ (e::es) ((.inl k,θ v)::kvs)
def Kb (K:Frag)(a:Addr)(kvs:List (Key×Option Int)):Prop:=∃o es ep,K.lookup a=θ o/\o.ExactDict/\o.data=.dict es ep/\vJ es.toList kvs/\(kvs.map (·.1)).Nodup
def vX (w:Ξ)(K:Frag):Prop:=True
inductive ML where
 |l (vs:List V)|k (kvs:List (Key×V))|t (kvs:List (List Key×V))
noncomputable def ML.o:ML->HO
 |.l vs=>.lst vs
 |.k kvs=>.dK kvs
 |.t kvs=>.dT kvs
noncomputable def GS:List V->Bool
 |[.int i,.int j]=>JV i j
 |_=>ε
noncomputable def sL (K:Frag)(H:Hp)(a:Addr)(xs:List V):Prop :=
 H a=θ (.tup xs) \/
  GS xs=ε/\∃(o:Obj) (aH:Array Value) (n:Nat),K.lookup a=θ o/\o.cls=.type "tuple"/\o.data=.seq aH n/\aH.size<=sizeLine/\aK xs aH.toList
variable {H:Hp}{K:Frag}{a:Addr}
theorem sL.sq {xs:List V}(h:sL K H a xs):qJ K H a xs:=h.imp .inl And.right
mutual
inductive Rep (K:Frag) (H:Hp):D->V->List Addr->Prop where
 |Mh:Rep K H .Mh .Mh []
 |bl (b:Bool):Rep K H (.bl b) (.bl b) []
 |int (i:Int):Rep K H (.int i) (.int i) []
 |lst {p:Addr}{vs:List V}{ds:List D}{G:List Addr}(h:Rd H p (.lst vs)) (r:aF K H ds vs G):Rep K H (.lst ds) (.ref p) (p::G)
 |tup {p:Addr}{vs:List V}{ds:List D}{G:List Addr}(h:sL K H p vs) (r:aF K H ds vs G):Rep K H (.tup ds) (.ref p) G
 |Np {p:Addr}{kvs:List (Key×Option Int)}(h:Kb K p kvs):Rep K H (.Np kvs) (.ref p) []
inductive aF (K:Frag) (H:Hp):List D->List V->List Addr->Prop where
 |nil:aF K H [] [] []
 |cons {d:D}{v:V}{ds:List D}{vs:List V}{G G':List Addr}(h:Rep K H d v G) (r:aF K H ds vs G'):aF K H (d::ds) (v::vs) (G++G')
end
variable {H':Hp}{b:Addr}
theorem ET (k:∀u:HO,H b=θ u->H' b=θ u){o:HO}(h:Rd H b o):Rd H' b o:=by
 rcases h with h|⟨u,h⟩
 .exact .inl (k _ h)
 .exact .inr ⟨u,k _ h⟩
def Lg (H H':Hp):Prop:=∀b o u,H b=θ (.Om o u)->H' b=θ (.Om o u)
variable {G:List Addr}{d:D}{ds:List D}{v:V}{vs:List V}
section
variable {K:Frag}{H H':Hp}
theorem Rep.keep (t:∀b vs,sL K H b vs->sL K H' b vs)(z:Lg H H')(h:Rep K H d v G):(∀b∈G,∀u:HO,H b=θ u->H' b=θ u)->Rep K H' d v G :=
 Rep.rec (motive_1:=λd v G _=>(∀b∈G,∀u:HO,H b=θ u->H' b=θ u)->Rep K H' d v G) (motive_2:=λds vs G _=>(∀b∈G,∀u:HO,H b=θ u->H' b=θ u)->aF K H' ds vs G)
  (λ_=>.Mh) (λb _=>.bl b) (λi _=>.int i) (λh _ ih k=>.lst (ET (k _ ag) h) (ih λb hb=>k b (aa _ hb)))
  (λh _ ih k=>.tup (t _ _ h) (ih k)) (λh _=>.Np h)
  (λ_=>.nil) (λ_ _ i1 i2 k=>.cons (i1 λb hb=>k b (ax _ hb)) (i2 λb hb=>k b (ao _ hb))) h
theorem aF.keep (t:∀b vs,sL K H b vs->sL K H' b vs)(z:Lg H H')(h:aF K H ds vs G):(∀b∈G,∀u:HO,H b=θ u->H' b=θ u)->aF K H' ds vs G :=
 aF.rec (motive_1:=λd v G _=>True) (motive_2:=λds vs G _=>(∀b∈G,∀u:HO,H b=θ u->H' b=θ u)->aF K H' ds vs G)
  trivial (λ_=>trivial) (λ_=>trivial) (λ_ _ _=>trivial) (λ_ _ _=>trivial) (λ_=>trivial)
  (λ_=>.nil) (λh _ _ i2 k=>.cons (Rep.keep t z h λb hb=>k b (ax _ hb)) (i2 λb hb=>k b (ao _ hb))) h
theorem aG.rd (e:aG H H'){o:HO}(h:Rd H b o):Rd H' b o:=by
 rcases h with h|⟨u,h⟩
 .exact .inl (e _ _ h)
 .exact .inr ⟨u,e _ _ h⟩
theorem aG.QW (e:aG H H')(h:sL K H b vs):sL K H' b vs:=by
 rcases h with h|h
 .exact .inl (e _ _ h)
 .exact .inr h
theorem aG.sqT (e:aG H H')(h:qJ K H b vs):qJ K H' b vs:=by
 rcases h with h|h
 .exact .inl (aG.rd e h)
 .exact .inr h
theorem Rep.same (e:aG H H')(h:Rep K H d v G):Rep K H' d v G:=h.keep (λ_ _=>aG.QW e) (λ_ _ _ h=>e _ _ h) λ_ _ _ h=>e _ _ h
theorem aF.same (e:aG H H'){d:List D}{v:List V}(h:aF K H d v G):aF K H' d v G:=h.keep (λ_ _=>aG.QW e) (λ_ _ _ h=>e _ _ h) λ_ _ _ h=>e _ _ h
theorem Rep.flat (h:Rep K H d v G):d.flat=ζ->G=[] :=
 Rep.rec (motive_1:=λd v G _=>d.flat=ζ->G=[]) (motive_2:=λds vs G _=>D.Mk ds=ζ->G=[])
  (λ_=>rfl) (λ_ _=>rfl) (λ_ _=>rfl) (λ_ _ _ f=>by simp[D.flat] at f) (λ_ _ ih f=>ih (by simpa[D.flat] using f)) (λ_ _=>rfl)
  (λ_=>rfl) (λ_ _ i1 i2 f=>by
   simp only[D.Mk,ai] at f;rw[i1 f.1,i2 f.2];rfl) h
theorem aF.flat (h:aF K H ds vs G):D.Mk ds=ζ->G=[] :=
 aF.rec (motive_1:=λd v G _=>True) (motive_2:=λds vs G _=>D.Mk ds=ζ->G=[])
  trivial (λ_=>trivial) (λ_=>trivial) (λ_ _ _=>trivial) (λ_ _ _=>trivial) (λ_=>trivial)
  (λ_=>rfl) (λh _ _ i2 f=>by
   simp only[D.Mk,ai] at f;rw[Rep.flat h f.1,i2 f.2];rfl) h
theorem Rep.live (h:Rep K H d v G):∀a∈G,∃vs:ML,Rd H a vs.o :=
 Rep.rec (motive_1:=λd v G _=>∀a∈G,∃vs:ML,Rd H a vs.o) (motive_2:=λds vs G _=>∀a∈G,∃vs:ML,Rd H a vs.o)
  (λ_ h=>(nomatch h)) (λ_ _ h=>(nomatch h)) (λ_ _ h=>(nomatch h)) (λh _ ih a m=>(dm.mp m).elim (λe=>e ▸ ⟨.l _,h⟩) (ih a)) (λ_ _ ih=>ih) (λ_ _ h=>(nomatch h))
  (λ_ h=>(nomatch h)) (λ_ _ i1 i2 a m=>(ig.mp m).elim (i1 a) (i2 a)) h
theorem aF.live (h:aF K H ds vs G):∀a∈G,∃vs:ML,Rd H a vs.o :=
 aF.rec (motive_1:=λd v G _=>True) (motive_2:=λds vs G _=>∀a∈G,∃vs:ML,Rd H a vs.o)
  trivial (λ_=>trivial) (λ_=>trivial) (λ_ _ _=>trivial) (λ_ _ _=>trivial) (λ_=>trivial)
  (λ_ h=>(nomatch h)) (λh _ _ i2 a m=>(ig.mp m).elim (Rep.live h a) (i2 a)) h
theorem Rd.N1 {u:HO}(h:Rd H a u):H a≠η:=by
 rcases h with h|⟨o,h⟩<;>rw[h]<;>simp
theorem Rep.nn (h:Rep K H d v G)(m:a∈G):H a≠η:=let ⟨_,q⟩:=h.live a m;Rd.N1 q
theorem aF.nn {d:List D}{v:List V}(h:aF K H d v G)(m:a∈G):H a≠η:=let ⟨_,q⟩:=h.live a m;Rd.N1 q
theorem aF.len:∀{ds:List D}{vs:List V}{G:List Addr},aF K H ds vs G->ds.length=vs.length
 |_,_,_,.nil=>rfl
 |_,_,_,.cons _ r=>by simp[aF.len r]
theorem aF.get:∀{ds:List D}{vs:List V}{G:List Addr}{i:Nat}{d:D},aF K H ds vs G->ds[i]? = θ d->∃v G',vs[i]? = θ v/\Rep K H d v G'/\G'.Sublist G
 |_,_,_,_,_,.nil,e=>by simp at e
 |_,_,_,0,_,.cons h r,e=>by
  simp at e;subst e;exact⟨_,_,rfl,h,List.sublist_append_left _ _⟩
 |_,_,_,i+1,d,.cons h r,e=>by
  obtain⟨v,G',a,b,c⟩:=aF.get (i:=i) (d:=d) r (by simpa using e);exact⟨v,G',by simpa using a,b,c.trans (Ö _ _)⟩
theorem aF.append:∀{ds es:List D}{vs us:List V}{G G':List Addr},aF K H ds vs G->aF K H es us G'->aF K H (ds++es) (vs++us) (G++G')
 |_,_,_,_,_,_,.nil,s=>s
 |_,_,_,_,_,_,.cons h r,s=>by
  rw[fi];exact .cons h (aF.append r s)
theorem aF.take:∀{ds:List D}{vs:List V}{G:List Addr}(n:Nat),aF K H ds vs G->∃G',aF K H (ds.take n) (vs.take n) G'/\G'.Sublist G
 |_,_,_,0,_=>⟨[],by simpa using .nil,by simp⟩
 |_,_,_,_+1,.nil=>⟨[],by simpa using .nil,by simp⟩
 |_,_,_,n+1,.cons h r=>by
  obtain⟨G',a,b⟩:=aF.take n r;exact⟨_,by simpa using .cons h a,j_ (Ø _) b⟩
theorem aF.drop:∀{ds:List D}{vs:List V}{G:List Addr}(n:Nat),aF K H ds vs G->∃G',aF K H (ds.drop n) (vs.drop n) G'/\G'.Sublist G
 |_,_,_,0,r=>⟨_,by simpa using r,Ø _⟩
 |_,_,_,_+1,.nil=>⟨[],by simpa using .nil,by simp⟩
 |_,_,_,n+1,.cons h r=>by
  obtain⟨G',a,b⟩:=aF.drop n r;exact⟨_,by simpa using a,b.trans (Ö _ _)⟩
theorem aF.split:∀{ds:List D}{vs:List V}{G:List Addr}{i:Nat}{d:D},aF K H ds vs G->ds[i]? = θ d->∃v G1 G' G2,vs[i]? = θ v/\G=G1++(G'++G2)/\Rep K H d v G' /\
  ∀(H':Hp) (d':D) (v':V) (N:List Addr),(∀b vs,sL K H b vs->sL K H' b vs)->Lg H H'->(∀b∈G1++G2,∀u:HO,H b=θ u->H' b=θ u)->Rep K H' d' v' N->aF K H' (ds.set i d') (vs.set i v') (G1++(N++G2))
 |_,_,_,_,_,.nil,e=>by simp at e
 |_,_,_,0,_,.cons (G:=G) (G':=G') h r,e=>by
  simp at e;subst e;refine⟨_,[],_,_,rfl,rfl,h,λH' d' v' N t z k n=>?_⟩;show aF K H' (_::_) (_::_) (N++G');exact .cons n (r.keep t z λb hb=>k b (by simpa using hb))
 |_,_,_,i+1,d,.cons (G:=G) (G':=G') h r,e=>by
  obtain⟨v,G1,Gi,G2,a,b,c,f⟩:=aF.split (i:=i) (d:=d) r (by simpa using e);refine⟨v,G++G1,Gi,G2,by simpa using a,by rw[b];simp,c,λH' d' v' N t z k n=>?_⟩;have q:=aF.cons (h.keep t z λb hb=>k b (by simp[hb])) (f H' d' v' N t z (λb hb=>k b (by simp at hb ⊢;exact a? hb)) n);rw[<-fi] at q;exact q
end
noncomputable def be:Tg->Bool
 |.own=>ζ
 |.lk=>ζ
 |.sh _=>ε
structure RE (K:Frag)(P:Addr->Prop)(env:En)(σ:L2.St)(H:Hp)(F:Nat->List Addr):Prop where
 len:env.length=σ.length
 val:∀i d t,env[i]? = θ (θ (d,t))->∃v,σ[i]? = θ (θ v)/\Rep K H d v (F i)
 Oz:∀i,(∀d t,env[i]?≠θ (θ (d,t)))->F i=[]
 one:∀i d t,env[i]? = θ (θ (d,t))->be t=ζ->(F i).Nodup/\(∀a∈F i,∃vs:ML,H a=θ vs.o) /\
  ∀a∈F i,∀j d' t',env[j]? = θ (θ (d',t'))->a∈F j->i∈bA j t'
 wr:∀i d,env[i]? = θ (θ (d,.own))->∀a∈F i,¬ P a
 pl:∀a,P a->H a≠η
structure bI (env:En)(F:Nat->List Addr)(H:Hp)(r:Rt)(H':Hp)(G:List Addr):Prop where
 cont:∀a∈G,H a=η\/∃i d t,a∈F i/\env[i]? = θ (θ (d,t))/\∀q∈bA i t,q∈r.roots
 mv:∀R,r=.mv R->G.Nodup/\(∀a∈G,∃vs:ML,H' a=θ vs.o)/\∀a∈G,H a=η\/∃i d t,i∈R/\a∈F i/\env[i]? = θ (θ (d,t))/\be t=ζ
variable {F:Nat->List Addr}{env:En}{r:Rt}
theorem bI.nil:bI env F H r H' []:=⟨λ_ h=>(nomatch h),λ_ _=>⟨bc,λ_ h=>(nomatch h),λ_ h=>(nomatch h)⟩⟩
theorem RE.same {P:Addr->Prop}{σ:L2.St}(r:RE K P env σ H F)(e:aG H H'):RE K P env σ H' F where
 len:=r.len
 val:=λi d t h=>let ⟨v,a,b⟩:=r.val i d t h;⟨v,a,b.same e⟩
 Oz:=r.Oz
 one:=λi d t h o=>let ⟨a,b,c⟩:=r.one i d t h o;⟨a,λx hx=>let ⟨vs,q⟩:=b x hx;⟨vs,e _ _ q⟩,c⟩
 wr:=r.wr
 pl:=λa h z=>by
  cases q:H a with
  |none=>exact r.pl a h q
  |some o=>rw[e _ _ q] at z;cases z
theorem aG.no (e:aG H H')(h:H' a=η):H a=η:=by
 cases q:H a with
 |none=>rfl
 |some o=>rw[e _ _ q] at h;cases h
variable {H1:Hp}
theorem bI.back (h:bI env F H1 r H' G)(e:aG H H1):bI env F H r H' G where
 cont:=λa ha=>(h.cont a ha).imp (aG.no e) id
 mv:=λR hr=>let ⟨a,b,c⟩:=h.mv R hr;⟨a,b,λx hx=>(c x hx).imp (aG.no e) id⟩
theorem bI.later (h:bI env F H r H1 G)(e:aG H1 H'):bI env F H r H' G where
 cont:=h.cont
 mv:=λR hr=>let ⟨a,b,c⟩:=h.mv R hr;⟨a,λx hx=>let ⟨vs,q⟩:=b x hx;⟨vs,e _ _ q⟩,c⟩
theorem bI.part {r':Rt}{G':List Addr}(h:bI env F H r H' G)(hs:∀a∈G',a∈G)(hr:∀q∈r.roots,q∈r'.roots)(hn:∀R,r'≠.mv R):bI env F H r' H' G' where
 cont:=λa ha=>(h.cont a (hs a ha)).imp id λ⟨i,d,t,x,y,z⟩=>⟨i,d,t,x,y,λq hq=>hr q (z q hq)⟩
 mv:=λR e=>absurd e (hn R)
noncomputable def uF (F:Nat->List Addr)(i:Nat)(G:List Addr):Nat->List Addr:=λj=>if j=i then G else F j
variable {i:Nat}
theorem eY:uF F i G i=G:=if_pos rfl
variable {j:Nat}
theorem eH (h:j≠i):uF F i G j=F j:=if_neg h
theorem jJ (env:En)(i:Nat)(d:D)(t:Tg):(put env i d t).length=env.length:=by simp[put]
variable {t:Tg}
theorem eE (h:i<env.length):(put env i d t)[i]? = θ (θ (d,t)):=by
 unfold put;rw[ω (by simpa using h)]
theorem BX (h:j≠i):(put env i d t)[j]? = (env[j]?).map λs=>s.map λp=>(p.1,p.2.drop i):=by
 unfold put;rw[ο (bw h),π]
variable {d':D}
theorem jI {t':Tg}(h:j≠i)(e:(put env i d t)[j]? = θ (θ (d',t'))):∃t0,env[j]? = θ (θ (d',t0))/\t'=t0.drop i:=by
 rw[BX h] at e;cases q:env[j]? with
 |none=>rw[q] at e;cases e
 |some s=>
  rw[q] at e;cases s with
  |none=>cases e
  |some p=>
   obtain⟨a,b⟩:=p;simp only[cq,cz,ij] at e;obtain⟨rfl,rfl⟩:=e;exact⟨b,rfl,rfl⟩
theorem mY (t:Tg)(i:Nat):be (t.drop i)=be t:=by cases t<;>rfl
theorem nr {k:Nat}(h:k∈bA j t)(hk:k≠i):k∈bA j (t.drop i):=by
 cases t with
 |own=>exact h
 |lk=>exact h
 |sh R=>
  simp only[bA,Tg.drop,ie] at h ⊢;exact⟨h,by simpa using hk⟩
section
variable {K:Frag}{P:Addr->Prop}{env:En}{σ:L2.St}{H:Hp}{F:Nat->List Addr}
theorem RE.nn (re:RE K P env σ H F)(h:env[j]? = θ (θ (d,t)))(m:a∈F j):H a≠η:=let ⟨_,_,r⟩:=re.val j d t h;r.nn m
theorem RE.at' (re:RE K P env σ H F)(m:a∈F j):∃d t,env[j]? = θ (θ (d,t)):=by
 by_cases h:∃d t,env[j]? = θ (θ (d,t))
 .exact h
 .rw[re.Oz j λd t e=>h ⟨d,t,e⟩] at m;cases m
theorem RE.put (re:RE K P env σ H F){t:Tg}(hi:i<env.length)(rp:Rep K H d v G)
  (ho:be t=ζ->G.Nodup/\(∀a∈G,∃vs:ML,H a=θ vs.o)/\∀a∈G,∀j,j≠i->a∉F j) (hw:t=.own->∀a∈G,¬ P a)
  (hs:∀a∈G,∀j d' t',j≠i->env[j]? = θ (θ (d',t'))->be t'=ζ->a∈F j->j∈bA i t):RE K P (put env i d t) (σ.set i (θ v)) H (uF F i G) where
 len:=by rw[jJ,aq];exact re.len
 val:=λj d' t' e=>by
  by_cases h:j=i
  .subst h;rw[eE hi] at e;cases e;exact⟨v,ω (by rw[<-re.len];exact hi),by rw[eY];exact rp⟩
  .obtain⟨t0,e0,rfl⟩:=jI h e;obtain⟨u,a,b⟩:=re.val j d' t0 e0;exact⟨u,by rw[ο (bw h)];exact a,by rw[eH h];exact b⟩
 Oz:=λj h=>by
  by_cases hj:j=i
  .subst hj;exact absurd (eE hi) (h d t)
  .rw[eH hj];refine re.Oz j λd' t' e=>h d' (t'.drop i) ?_
   rw[BX hj,e];rfl
 one:=λj d' t' e o=>by
  by_cases h:j=i
  .subst h;rw[eE hi] at e;cases e;obtain⟨a,b,c⟩:=ho o;rw[eY];refine⟨a,b,λx hx k d2 t2 e2 m=>?_⟩;by_cases hk:k=j
   .subst hk;rw[eE hi] at e2;cases e2;cases t<;>simp_all [bA,be]
   .rw[eH hk] at m;exact absurd m (c x hx k hk)
  .obtain⟨t0,e0,rfl⟩:=jI h e;rw[mY] at o;obtain⟨a,b,c⟩:=re.one j d' t0 e0 o;rw[eH h];refine⟨a,b,λx hx k d2 t2 e2 m=>?_⟩;by_cases hk:k=i
   .subst hk;rw[eE hi] at e2;cases e2;rw[eY] at m;exact hs x m j d' t0 h e0 o hx
   .rw[eH hk] at m;obtain⟨t3,e3,rfl⟩:=jI hk e2;exact nr (c x hx k d2 t3 e3 m) h
 wr:=λj d' e=>by
  by_cases h:j=i
  .subst h;rw[eE hi] at e;cases e;rw[eY];exact hw rfl
  .obtain⟨t0,e0,q⟩:=jI h e;rw[eH h];cases t0 with
   |own=>exact re.wr j d' e0
   |lk=>cases q
   |sh R=>cases q
 pl:=re.pl
theorem RE.forget (re:RE K P env σ H F){env':En}(hl:env'.length=env.length)(he:∀(i:Nat) (d:D) (t:Tg),env'[i]? = θ (θ (d,t))->env[i]? = θ (θ (d,t))) :
  RE K P env' σ H (λi=>match env'[i]? with|some (θ _)=>F i|_=>[]) where
 len:=hl.trans re.len
 val:=λi d t e=>by rw[e];exact re.val i d t (he i d t e)
 Oz:=λi h=>by
  split
  .rename_i p q;exact absurd q (h p.1 p.2)
  .rfl
 one:=λi d t e o=>by
  rw[e];obtain⟨a,b,c⟩:=re.one i d t (he i d t e) o;refine⟨a,b,λx hx k d2 t2 e2 m=>?_⟩;rw[e2] at m;exact c x hx k d2 t2 (he k d2 t2 e2) m
 wr:=λi d e=>by rw[e];exact re.wr i d (he i d _ e)
 pl:=re.pl
end
theorem dO (R:List Nat)(env:En):(kill R env).length=env.length:=by simp[kill]
variable {R:List Nat}
theorem bZ (e:(kill R env)[i]? = θ (θ (d,t))):env[i]? = θ (θ (d,t))/\i∉R/\∀q∈R,q∉bA i t:=by
 unfold kill at e;rw[am] at e;cases q:env[i]? with
 |none=>rw[q] at e;cases e
 |some s=>
  rw[q] at e;cases s with
  |none=>cases e
  |some p=>
   obtain⟨a,b⟩:=p;simp only[cq,cz] at e;by_cases h:(R.contains i || ki R b)=ζ
   .rw[if_pos h] at e;cases e
   .rw[if_neg h] at e;cases e;rw[gm,not_or] at h;have h1:i∉R:=λz=>h.1 (by simpa using z)
    refine⟨rfl,h1,λr hq z=>?_⟩;cases t with
    |own=>simp only[bA,jm] at z;subst z;exact h1 hq
    |lk=>simp only[bA,jm] at z;subst z;exact h1 hq
    |sh Q=>
     apply h.2;simp only[ki,List.any_eq_true];exact⟨r,z,by simpa using hq⟩
variable {p:Addr}{ws:List V}{x:Nat}
section
variable {K:Frag}{P:Addr->Prop}{env:En}{σ:L2.St}{H:Hp}{F:Nat->List Addr}
variable {o:HO}
theorem lF (hp:H p=θ (.lst ws))(h:sL K H b vs):sL K (upd H p o) b vs:=by
 rcases h with h|h
 .exact .inl (by rw[aL];exact h;intro z;subst z;rw[hp] at h;cases h)
 .exact .inr h
theorem Bg {ws:ML}(hp:H p=θ ws.o)(h:sL K H b vs):sL K (upd H p o) b vs:=by
 rcases h with h|h
 .exact .inl (by rw[aL];exact h;intro z;subst z;rw[hp] at h;cases ws<;>cases h)
 .exact .inr h
theorem Gz {o':HO}(Oh:b≠p)(h:Rd H b o):Rd (upd H p o') b o:=by
 rcases h with h|⟨u,h⟩
 .exact .inl (by rw[aL Oh];exact h)
 .exact .inr ⟨u,by rw[aL Oh];exact h⟩
theorem my {H:Hp}{ws:ML}(hp:H p=θ ws.o):Lg H (L2.upd H p o):=λb ob u h=>by
 rw[aL λe=>?_]
 .exact h
 .subst e;rw[hp] at h;cases ws<;>cases h
theorem Rep.upd (hp:H p=θ (.lst ws))(h:Rep K H d v G)(hn:p∉G):Rep K (upd H p o) d v G :=
 h.keep (λ_ _=>lF hp) (my (ws:=.l _) hp) λb hb _ h=>(aL (λ(z:b=p)=>hn (z ▸ hb))).trans h
theorem Rep.Ua {ws:ML}(hp:H p=θ ws.o)(h:Rep K H d v G)(hn:p∉G):Rep K (L2.upd H p o) d v G :=
 h.keep (λ_ _=>Bg hp) (my hp) λb hb _ h=>(aL (λ(z:b=p)=>hn (z ▸ hb))).trans h
theorem aF.upd {d:List D}{v:List V}(hp:H p=θ (.lst ws))(h:aF K H d v G)(hn:p∉G):aF K (upd H p o) d v G :=
 h.keep (λ_ _=>lF hp) (my (ws:=.l _) hp) λb hb _ h=>(aL (λ(z:b=p)=>hn (z ▸ hb))).trans h
noncomputable def ud (F:Nat->List Addr)(env:En)(x:Nat)(R:List Nat)(G:List Addr):Nat->List Addr:=λj=>if j=x then G else match (kill (x::R) env)[j]? with
 |some (θ _)=>F j
 |_=>[]
theorem RE.Pm (re:RE K P env σ H F){vs:ML}{N:List Addr}(hx:env[x]? = θ (θ (d,.own)))(hv:σ[x]? = θ (θ v))(hp:p∈F x)
  (rp:Rep K (upd H p vs.o) d' v G) (nd:G.Nodup) (sub:∀a∈G,a∈F x\/a∈N)
  (hN:∀a∈N,(∃vs:ML,H a=θ vs.o)/\¬ P a/\∀(j:Nat) (d:D) (t:Tg),env[j]? = θ (θ (d,t))->a∈F j->∃q∈x::R,q∈bA j t) :
  RE K P ((kill (x::R) env).set x (θ (d',.own))) σ (upd H p vs.o) (ud F env x R G):=by
 obtain⟨ndx,Tp,onx⟩:=re.one x d .own hx rfl;obtain⟨ws,MP⟩:=Tp p hp;have RW:x<(kill (x::R) env).length:=by
  rw[dO];exact (χ.mp hx).1
 have other:∀{j:Nat}{d2:D}{t2:Tg},j≠x->((kill (x::R) env).set x (θ (d',.own)))[j]? = θ (θ (d2,t2))->(kill (x::R) env)[j]? = θ (θ (d2,t2)):=λ{j d2 t2} hj e=>by
  rw[ο (bw hj)] at e;exact e
 have live:∀a,(∃vs:ML,H a=θ vs.o)->∃ws:ML,upd H p vs.o a=θ ws.o:=λa ⟨ws,h⟩=>by
  by_cases z:a=p
  .subst z;exact⟨vs,aZ⟩
  .exact⟨ws,by rw[aL z];exact h⟩
 have apart:∀{j:Nat}{d2:D}{t2:Tg},j≠x->(kill (x::R) env)[j]? = θ (θ (d2,t2))->∀a∈F x,a∉F j:=λ{j d2 t2} hj e a ha hb=>by
  obtain⟨e0,_,h3⟩:=bZ e;exact h3 x ag (onx a ha j d2 t2 e0 hb)
 have fj:∀{j:Nat}{d2:D}{t2:Tg},j≠x->(kill (x::R) env)[j]? = θ (θ (d2,t2))->ud F env x R G j=F j:=λ{j d2 t2} hj e=>by
  unfold ud;rw[if_neg hj,e]
 have fx:ud F env x R G x=G:=if_pos rfl;refine⟨?_,λj d2 t2 e=>?_,λj h=>?_,λj d2 t2 e o=>?_,λj d2 e=>?_,λa h=>?_⟩
 .rw[aq,dO];exact re.len
 .by_cases hj:j=x
  .subst hj;rw[ω RW] at e;cases e;exact⟨v,hv,by rw[fx];exact rp⟩
  .have e1:=other hj e;obtain⟨e0,_,_⟩:=bZ e1;obtain⟨u,h1,h2⟩:=re.val j d2 t2 e0;exact⟨u,h1,by rw[fj hj e1];exact h2.Ua MP (apart hj e1 p hp)⟩
 .by_cases hj:j=x
  .subst hj;exact absurd (ω RW) (h d' .own)
  .unfold ud;rw[if_neg hj];split
   .rename_i q e;exact absurd (by rw[ο (bw hj)];exact e) (h q.1 q.2)
   .rfl
 .by_cases hj:j=x
  .subst hj;rw[ω RW] at e;cases e;rw[fx];refine⟨nd,λa ha=>live a ?_,λa ha k d3 t3 e3 m=>?_⟩
   .rcases sub a ha with q|q
    .exact Tp a q
    .exact (hN a q).1
   .by_cases hk:k=j
    .subst hk;rw[ω RW] at e3;cases e3;simp[bA]
    .have e4:=other hk e3;rw[fj hk e4] at m;rcases sub a ha with q|q
     .exact absurd m (apart hk e4 a q)
     .obtain⟨e0,_,h3⟩:=bZ e4;obtain⟨r,r1,r2⟩:=(hN a q).2.2 k d3 t3 e0 m;exact absurd r2 (h3 r r1)
  .have e1:=other hj e;obtain⟨e0,_,_⟩:=bZ e1;obtain⟨a,b,c⟩:=re.one j d2 t2 e0 o;rw[fj hj e1];refine⟨a,λy hy=>live y (b y hy),λy hy k d3 t3 e3 m=>?_⟩;by_cases hk:k=x
   .subst hk;rw[ω RW] at e3;cases e3;rw[fx] at m;rcases sub y m with q|q
    .exact absurd hy (apart hj e1 y q)
    .obtain⟨_,_,h3⟩:=bZ e1;obtain⟨r,r1,r2⟩:=(hN y q).2.2 j d2 t2 e0 hy;exact absurd r2 (h3 r r1)
   .have e4:=other hk e3;rw[fj hk e4] at m;exact c y hy k d3 t3 (bZ e4).1 m
 .by_cases hj:j=x
  .subst hj;rw[fx];intro a ha;rcases sub a ha with q|q
   .exact re.wr j d hx a q
   .exact (hN a q).2.1
  .have e1:=other hj e;rw[fj hj e1];exact re.wr j d2 (bZ e1).1
 .intro z;by_cases q:a=p
  .subst q;rw[aZ] at z;cases z
  .rw[aL q] at z;exact re.pl a h z
theorem RE.Qr (re:RE K P env σ H F){R:List Nat}{N:List Addr}(hx:env[x]? = θ (θ (d,.own)))(hv:σ[x]? = θ (θ v))(hp:p∈F x)
  (rp:Rep K (upd H p (.lst vs)) d' v G) (nd:G.Nodup) (sub:∀a∈G,a∈F x\/a∈N)
  (hN:∀a∈N,(∃vs:ML,H a=θ vs.o)/\¬ P a/\∀(j:Nat) (d:D) (t:Tg),env[j]? = θ (θ (d,t))->a∈F j->∃q∈x::R,q∈bA j t) :
  RE K P ((kill (x::R) env).set x (θ (d',.own))) σ (upd H p (.lst vs)) (ud F env x R G):=re.Pm (vs:=.l vs) hx hv hp rp nd sub hN
inductive PV (K:Frag) (H:Hp):V->Option Int->Addr->Prop where
 |top (p:Addr):PV K H (.ref p) η p
 |item {q p:Addr}{ws:List V}{i:Int}{j:Nat}(h:Rd H q (.lst ws)\/qJ K H q ws) (hj:kH ws.length i=θ j) (e:ws[j]? = θ (.ref p)):PV K H (.ref q) (θ i) p
theorem IX {n:Nat}{i:Int}(h:kH n i=θ j):j<n:=by
 unfold kH at h;split at h
 .split at h
  .cases h;omega
  .cases h
 .split at h
  .cases h;omega
  .cases h
theorem Rep.lst_inv (h:Rep K H (.lst ds) v G):∃p vs G',v=.ref p/\G=p::G'/\Rd H p (.lst vs)/\aF K H ds vs G':=by
 cases h with
 |lst a b=>exact⟨_,_,_,rfl,rfl,a,b⟩
theorem zl {path:Option Int}{xs:List D}(rp:Rep K H d v G)(nd:G.Nodup)(h:d.Mv path=θ xs):∃p,PV K H v path p/\∀H',aG H H'->(∀a∈G,∃vs:ML,H' a=θ vs.o) ->
  ∃vs Gx,H' p=θ (.lst vs)/\aF K H' xs vs Gx/\p∈G/\(∀a∈Gx,a∈G)/\Gx.Nodup/\p∉Gx /\
   ∀ys us Gy,aF K (upd H' p (.lst us)) ys us Gy->Gy.Nodup->p∉Gy->(∀a∈Gy,a∈Gx\/a∉G)->∃G',Rep K (upd H' p (.lst us)) (d.M0 path ys) v G'/\G'.Nodup/\∀a∈G',a∈G\/a∈Gy:=by
 have X4:∀{H':Hp}{p:Addr}{vs:List V},(∀a∈G,∃vs:ML,H' a=θ vs.o)->p∈G->Rd H' p (.lst vs)->H' p=θ (.lst vs):=λ{H' p vs} hl hp r=>by
  obtain⟨ws,q⟩:=hl p hp;rcases r with r|⟨o,r⟩
  .exact r
  .rw[q] at r;cases ws<;>cases r
 cases path with
 |none=>
  cases rp with
  |lst hr r=>
   rename_i p vs ds G0;simp only[D.Mv,cz] at h;subst h;obtain⟨n1,n2⟩:=jy.mp nd;refine⟨p,.top p,λH' e hl=>⟨vs,G0,X4 hl ag (aG.rd e hr),r.same e,ag,λa ha=>aa _ ha,n2,n1,λys us Gy ry ny hy hs=>?_⟩⟩;exact⟨p::Gy,.lst (.inl aZ) ry,jy.mpr ⟨hy,ny⟩,λa ha=>(dm.mp ha).imp (λz=>by simp[z]) id⟩
  |_=>simp[D.Mv] at h
 |some i=>
  have core:∀{ds:List D}{vs:List V}{G0:List Addr}{j:Nat}{q:Addr},aF K H ds vs G0->(∀a∈G0,a∈G)->G0.Nodup->(Rd H q (.lst vs)\/qJ K H q vs)->v=.ref q->kH ds.length i=θ j->ds[j]? = θ (.lst xs) ->
    ∃p,PV K H v (θ i) p/\∀H',aG H H'->(∀a∈G,∃vs:ML,H' a=θ vs.o)->∃ws Gx,H' p=θ (.lst ws)/\aF K H' xs ws Gx/\p∈G0/\(∀a∈Gx,a∈G0)/\Gx.Nodup/\p∉Gx /\
     ∀ys us Gy,aF K (upd H' p (.lst us)) ys us Gy->Gy.Nodup->p∉Gy->(∀a∈Gy,a∈Gx\/a∉G) ->
      ∃G1,aF K (upd H' p (.lst us)) (ds.set j (.lst ys)) vs G1/\G1.Nodup/\(∀a∈G1,a∈G0\/a∈Gy):=by
   intro ds vs G0 j q r hs n0 hq hv hj he;obtain⟨w0,g0,e0,r0,_⟩:=r.get he;have hlen:=r.len;obtain⟨p,ws0,Gx0,rfl,_,_,_⟩:=r0.lst_inv
   .refine⟨p,by rw[hv];exact .item hq (by rw[<-hlen];exact hj) e0,λH' e hl=>?_⟩;obtain⟨w,A,B,C,e1,e2,r1,f⟩:=(r.same e).split he;rw[e0] at e1;cases e1;subst e2;obtain⟨p',ws,Gx,ep,rfl,hr,r2⟩:=r1.lst_inv;cases ep
    .have Sa:p∈A++(p::Gx++C):=by simp
     rw[fh] at n0;obtain⟨nA,nB,RL⟩:=n0;rw[fh] at nB;obtain⟨nB1,nC,Yj⟩:=nB;obtain⟨np,nx⟩:=jy.mp nB1;have MP:=X4 hl (hs p Sa) hr;refine⟨ws,Gx,MP,r2,Sa,λa ha=>by simp[ha],nx,np,λys us Gy ry ny hy Ys=>?_⟩;have hA:p∉A:=λz=>RL p z p (by simp) rfl
     have hC:p∉C:=λz=>Yj p (by simp) p z rfl
     have e3:=f (upd H' p (.lst us)) (.lst ys) (.ref p) (p::Gy) (λ_ _=>lF MP) (my (ws:=.l _) MP) (λb hb _ h=>(aL λ(z:b=p)=>by
      subst z;rcases ig.mp hb with hb|hb
      .exact hA hb
      .exact hC hb).trans h) (.lst (.inl aZ) ry)
     have aR:vs.set j (.ref p)=vs:=by
      obtain⟨VL,ej⟩:=χ.mp e0;rw[<-ej,List.set_getElem_self]
     rw[aR] at e3;refine⟨_,e3,?_,λa ha=>?_⟩
     .rw[fh];refine⟨nA,?_,λa ha b hb z=>?_⟩
      .rw[fh];refine⟨jy.mpr ⟨hy,ny⟩,nC,λa ha b hb z=>?_⟩;subst z;rcases dm.mp ha with rfl|ha
       .exact hC hb
       .rcases Ys a ha with q|q
        .exact Yj a (by simp[q]) a hb rfl
        .exact q (hs a (by simp[hb]))
      .subst z;rcases ig.mp hb with hb|hb
       .rcases dm.mp hb with rfl|hb
        .exact hA ha
        .rcases Ys a hb with q|q
         .exact RL a ha a (by simp[q]) rfl
         .exact q (hs a (by simp[ha]))
       .exact RL a ha a (by simp[hb]) rfl
     .simp only[ig,dm,List.cons_append] at ha ⊢;rcases ha with ha|ha|ha|ha
      .exact .inl (.inl ha)
      .exact .inl (.inr (.inl ha))
      .exact .inr ha
      .exact .inl (.inr (.inr (.inr ha)))
  cases rp with
  |lst hr r=>
   rename_i q vs ds G0;simp only[D.Mv,ah] at h;obtain⟨j,hj,h⟩:=h;have he:ds[j]? = θ (.lst xs):=by
    split at h
    .rename_i ys e;cases h;exact e
    .cases h
   obtain⟨n1,n2⟩:=jy.mp nd;obtain⟨p,a1,ff⟩:=core r (λa ha=>aa _ ha) n2 (.inl hr) rfl hj he;refine⟨p,a1,λH' e hl=>?_⟩;obtain⟨ws,Gx,a2,a3,a4,a5,a6,a7,f⟩:=ff H' e hl;have hqp:q≠p:=λz=>n1 (by rw[z];exact a4)
   refine⟨ws,Gx,a2,a3,aa _ a4,λa ha=>aa _ (a5 a ha),a6,a7,λys us Gy ry ny hy hs=>?_⟩;obtain⟨G1,b1,b2,b3⟩:=f ys us Gy ry ny hy hs;have es:D.M0 (.lst ds) (θ i) ys=.lst (ds.set j (.lst ys)):=by simp[D.M0,hj]
   rw[es];refine⟨q::G1,.lst (Gz hqp (aG.rd e hr)) b1,jy.mpr ⟨λz=>?_,b2⟩,λa ha=>?_⟩
   .rcases b3 q z with z|z
    .exact n1 z
    .rcases hs q z with z|z
     .exact n1 (a5 q z)
     .exact z ag
   .rcases dm.mp ha with rfl|ha
    .exact .inl ag
    .exact (b3 a ha).imp (aa _) id
  |tup hr r=>
   rename_i q vs ds;simp only[D.Mv,ah] at h;obtain⟨j,hj,h⟩:=h;have he:ds[j]? = θ (.lst xs):=by
    split at h
    .rename_i ys e;cases h;exact e
    .cases h
   obtain⟨p,a1,ff⟩:=core r (λa ha=>ha) nd (.inr hr.sq) rfl hj he;refine⟨p,a1,λH' e hl=>?_⟩;obtain⟨ws,Gx,a2,a3,a4,a5,a6,a7,f⟩:=ff H' e hl;refine⟨ws,Gx,a2,a3,a4,a5,a6,a7,λys us Gy ry ny hy hs=>?_⟩;obtain⟨G1,b1,b2,b3⟩:=f ys us Gy ry ny hy hs;have es:D.M0 (.tup ds) (θ i) ys=.tup (ds.set j (.lst ys)):=by simp[D.M0,hj]
   rw[es];exact⟨G1,.tup (lF a2 (aG.QW e hr)) b1,b2,b3⟩
  |_=>simp[D.Mv] at h
end
end Pc
end
section
namespace Pc
open PySem PySem.Spec PyProof.Rows L2
theorem Rs.Ma {α β:Type}{x:Rs α}{f:α->Rs β}{b:β}(h:x.bind f=.ok b):∃a,x=.ok a/\f a=.ok b:=by
 cases x with
 |ok a=>exact⟨a,rfl,h⟩
 |bad=>cases h
theorem cJ {α:Type}{o:Option α}{a:α}(h:pS o=.ok a):o=θ a:=by
 cases o with
 |none=>cases h
 |some b=>cases h;rfl
variable {H:Hp}{p:Addr}
theorem aG.new {o:HO}(h:H p=η):aG H (upd H p o):=λb u e=>by
 rw[aL];exact e;intro z;subst z;rw[h] at e;cases e
theorem sT:lim<=sizeLine:=by decide
theorem sC {n:Nat}(h:n<=lim):n<=sizeLine:=bp h sT
inductive Args (K:Frag) (env:En) (F:Nat->List Addr):Hp->Hp->List (D×Rt)->List V->List Addr->Prop where
 |nil {H H':Hp}(e:aG H H'):Args K env F H H' [] [] []
 |cons {H H1 H':Hp}{p:D×Rt}{v:V}{G G':List Addr}{l:List (D×Rt)}{vs:List V}(e:aG H H1) (r:Rep K H1 p.1 v G) (t:bI env F H p.2 H1 G) (s:Args K env F H1 H' l vs G'):Args K env F H H' (p::l) (v::vs) (G++G')
variable {G:List Addr}{H':Hp}{l:List (D×Rt)}{q:D×Rt}{vs:List V}
section
variable {K:Frag}{env:En}{F:Nat->List Addr}
theorem Args.same:∀{H H':Hp}{l:List (D×Rt)}{vs:List V}{G:List Addr},Args K env F H H' l vs G->aG H H'
 |_,_,_,_,_,.nil e=>e
 |_,_,_,_,_,.cons e _ _ s=>e.trans s.same
theorem Args.Mp:∀{H H':Hp}{l:List (D×Rt)}{vs:List V}{G:List Addr},Args K env F H H' l vs G->aF K H' (l.map (·.1)) vs G
 |_,_,_,_,_,.nil _=>.nil
 |_,_,_,_,_,.cons _ r _ s=>.cons (r.same s.same) s.Mp
theorem Args.cont:∀{H H':Hp}{l:List (D×Rt)}{vs:List V}{G:List Addr},Args K env F H H' l vs G->∀a∈G,H a=η\/∃i d t,a∈F i/\env[i]? = θ (θ (d,t))/\∀q∈bA i t,q∈aO (l.map (·.2))
 |_,_,_,_,_,.nil _,a,h=>by cases h
 |_,_,_,_,_,.cons (p:=p) (l:=l) e r t s,a,h=>by
  have e1:aO ((p::l).map (·.2))=p.2.roots++aO (l.map (·.2)):=by simp[aO]
  rw[e1];rcases ig.mp h with h|h
  .exact (t.cont a h).imp id λ⟨i,d,t,x,y,z⟩=>⟨i,d,t,x,y,λq hq=>ax _ (z q hq)⟩
  .exact (s.cont a h).imp (aG.no e) λ⟨i,d,t,x,y,z⟩=>⟨i,d,t,x,y,λq hq=>ao _ (z q hq)⟩
theorem Args.two {p:D×Rt}{x y:V}(ar:Args K env F H H' [p,q] [x,y] G) :
  ∃H1 G1 G2,G=G1++G2/\aG H H1/\Rep K H1 p.1 x G1/\bI env F H p.2 H1 G1/\aG H1 H'/\Rep K H' q.1 y G2:=by
 cases ar with
 |cons e r t s=>
  cases s with
  |cons e' r' t' s'=>
   cases s' with
   |nil Y1=>exact⟨_,_,_,by rw[aw],e,r,t,e'.trans Y1,r'.same Y1⟩
theorem Args.mv {P:Addr->Prop}{σ:L2.St}:∀{H H':Hp}{l:List (D×Rt)}{vs:List V}{G:List Addr}{R:List Nat},RE K P env σ H F->Args K env F H H' l vs G->dX (l.map (·.2))=θ R->R.Nodup ->
  G.Nodup/\(∀a∈G,∃vs:ML,H' a=θ vs.o)/\∀a∈G,H a=η\/∃i d t,i∈R/\a∈F i/\env[i]? = θ (θ (d,t))/\be t=ζ
 |_,_,_,_,_,_,_,.nil _,_,_=>⟨bc,λ_ h=>(nomatch h),λ_ h=>(nomatch h)⟩
 |H,_,_,_,_,_,re,.cons (p:=p) (l:=l) (G:=G) (G':=G') e r t s,hm,nd=>by
  obtain⟨d,rt⟩:=p;cases rt with
  |sh Q=>simp[dX] at hm
  |mv R1=>
   simp only[bo,dX,ae] at hm;obtain⟨R2,h2,rfl⟩:=hm;obtain⟨n1,n2,UQ⟩:=fh.mp nd;obtain⟨a1,b1,c1⟩:=t.mv R1 rfl;obtain⟨a2,b2,c2⟩:=Args.mv (re.same e) s h2 n2;refine⟨fh.mpr ⟨a1,a2,λx hx y hy z=>?_⟩,λx hx=>?_,λx hx=>?_⟩
   .subst z;rcases c2 x hy with q|⟨i2,d2,t2,m2,f2,e2,o2⟩
    .exact r.nn hx q
    .rcases c1 x hx with q|⟨i1,d1,t1,m1,f1,e1,o1⟩
     .obtain⟨v,_,rp⟩:=re.val i2 d2 t2 e2;exact rp.nn f2 q
     .have q:=(re.one i1 d1 t1 e1 o1).2.2 x f1 i2 d2 t2 e2 f2;have q':i1=i2:=by cases t2<;>simp_all [bA,be]
      exact UQ i1 m1 i2 m2 q'
   .rcases ig.mp hx with hx|hx
    .obtain⟨vs,q⟩:=b1 x hx;exact⟨vs,s.same _ _ q⟩
    .exact b2 x hx
   .rcases ig.mp hx with hx|hx
    .exact (c1 x hx).imp id λ⟨i,d,t,m,z⟩=>⟨i,d,t,ax _ m,z⟩
    .exact (c2 x hx).imp (aG.no e) λ⟨i,d,t,m,z⟩=>⟨i,d,t,ao _ m,z⟩
theorem Args.comb {P:Addr->Prop}{σ:L2.St}(re:RE K P env σ H F)(ar:Args K env F H H' l vs G):bI env F H (pF (l.map (·.2))) H' G:=by
 unfold pF;cases hm:dX (l.map (·.2)) with
 |none=>exact⟨ar.cont,λR e=>by cases e⟩
 |some R=>
  have er:∀(l:List Rt) (R:List Nat),dX l=θ R->aO l=R:=by
   intro l
   induction l with
   |nil=>intro R h;simp[dX] at h;subst h;rfl
   |cons x r ih=>
    intro R h;cases x with
    |sh Q=>simp[dX] at h
    |mv Q=>
     simp only[dX,ae] at h;obtain⟨R2,h2,rfl⟩:=h;have:=ih R2 h2;simp only[aO,bo,dw,Rt.roots] at this ⊢;rw[this]
  have er:=er _ R hm;by_cases nd:R.Nodup
  .simp only[nd,if_true];obtain⟨a,b,c⟩:=ar.mv re hm nd;refine⟨λx hx=>?_,λR' e=>by cases e;exact⟨a,b,c⟩⟩;rcases c x hx with q|⟨i,d,t,m,f,e,o⟩
   .exact .inl q
   .exact .inr ⟨i,d,t,f,e,λq hq=>by cases t<;>simp_all [bA,be,Rt.roots]⟩
  .simp only[nd,if_false];exact⟨λx hx=>by have:=ar.cont x hx;rw[er] at this;exact this,λR' e=>by cases e⟩
end
structure kC (H H':Hp)(G0:List Addr)(d:D)(G:List Addr):Prop where
 same:aG H H'
 sub:∀a∈G,H a=η\/a∈G0
 new:d.inner=ζ->G.Nodup/\∀a∈G,H a=η/\∃vs:ML,H' a=θ vs.o
section
variable {K:Frag}{H:Hp}{G0:List Addr}
theorem kC.nil {d:D}:kC H H G0 d []:=⟨aG.refl _,λ_ h=>(nomatch h),λ_=>⟨bc,λ_ h=>(nomatch h)⟩⟩
theorem k7 {ds:List D}(r:aF K H ds vs G)(hs:∀a∈G,a∈G0)(hp:H p=η) :
  Rep K (upd H p (.lst vs)) (.lst ds) (.ref p) (p::G)/\kC H (upd H p (.lst vs)) G0 (.lst ds) (p::G):=by
 have e:=aG.new (o:=.lst vs) hp;refine⟨.lst (.inl aZ) (r.same e),e,λa ha=>?_,λf=>?_⟩
 .rcases dm.mp ha with rfl|ha
  .exact .inl hp
  .exact .inr (hs a ha)
 .have:G=[]:=r.flat f;subst this;exact⟨by simp,λa ha=>by
   have:a=p:=by simpa using ha
   subst this;exact⟨hp,.l _,aZ⟩⟩
theorem Gh {ds:List D}{G:List Addr}(r:aF K H ds vs G)(hs:∀a∈G,a∈G0)(hp:H p=η) :
  Rep K (upd H p (.tup vs)) (.tup ds) (.ref p) G/\kC H (upd H p (.tup vs)) G0 (.tup ds) G:=by
 have e:=aG.new (o:=.tup vs) hp;refine⟨.tup (.inl aZ) (r.same e),e,λa ha=>.inr (hs a ha),λf=>?_⟩;have:G=[]:=r.flat f;subst this;exact⟨by simp,λa ha=>(nomatch ha)⟩
theorem bI.new {env:En}{F:Nat->List Addr}{H1:Hp}{d:D}{R:List Nat}(ar:Args K env F H H1 l vs G0)(nv:kC H1 H' G0 d G)(hR:∀q∈aO (l.map (·.2)),q∈R):bI env F H (ka d R) H' G:=by
 unfold ka;cases hi:d.inner with
 |true=>
  obtain⟨a,b⟩:=nv.new hi;have c:∀x∈G,H x=η:=λx hx=>aG.no ar.same (b x hx).1
  exact⟨λx hx=>.inl (c x hx),λR' e=>⟨a,λx hx=>(b x hx).2,λx hx=>.inl (c x hx)⟩⟩
 |false=>
  refine⟨λx hx=>?_,λR' e=>by cases e⟩;rcases nv.sub x hx with q|q
  .exact .inl (aG.no ar.same q)
  .exact (ar.cont x q).imp id λ⟨i,d,t,f,e,z⟩=>⟨i,d,t,f,e,λq hq=>hR q (z q hq)⟩
end
variable {e:Expr}{t t':TS}
section
variable {X:Cx}
theorem bJ {t t':TE}(h:PE X e t)(k:∀σ H Q,t' σ H Q->t σ H Q):PE X e t':=λpins s σ H Q I q=>h pins s σ H Q I (k σ H Q q)
theorem wA {t t':TT}(h:PT X e t)(k:∀σ H Q,t' σ H Q->t σ H Q):PT X e t':=λpins s σ H Q I q=>h pins s σ H Q I (k σ H Q q)
theorem Bn {e:List Expr}{t t':TA}(h:PA X e t)(k:∀σ H Q,t' σ H Q->t σ H Q):PA X e t':=λpos pins s σ H Q I q=>h pos pins s σ H Q I (k σ H Q q)
theorem bT {e:Stmt}(h:PS X e t)(k:∀D σ H,t' D σ H->t D σ H):PS X e t':=λpins s σ H D I q=>h pins s σ H D I (k D σ H q)
theorem fA {e:List Stmt}(h:hU X e t)(k:∀D σ H,t' D σ H->t D σ H):hU X e t':=λpins s σ H D I q=>h pins s σ H D I (k D σ H q)
end
def tE (K:Frag)(T:Tb)(c:Ex):TE:=λσ H Q=>∃P env F,RE K P env σ H F/\∃p,ev T c env=.ok p/\∀v H' G,aG H H'->Rep K H' p.1 v G->bI env F H p.2 H' G->Q v H'
def tF (K:Frag)(T:Tb)(cs:kE):TA:=λσ H Q=>∃P env F,RE K P env σ H F/\∃l,aR T cs env=.ok l/\∀vs H' G,Args K env F H H' l vs G->Q vs H'
def qF (K:Frag)(T:Tb)(c:Ex):TT:=λσ H Q=>∃P env F,RE K P env σ H F/\∃p b,ev T c env=.ok p/\truth p.1=θ b/\∀H',aG H H'->Q b H'
section
variable {K:Frag}{T:Tb}{P:Addr->Prop}{env:En}{F:Nat->List Addr}{σ:L2.St}{H:Hp}
theorem two {ca cb:Ex}{r:R2}{Q:VK}{p:D×Rt}(re:RE K P env σ H F)(h1:ev T ca env=.ok p)(h2:ev T cb env=.ok q)(k:∀x y H2 G,Args K env F H H2 [p,q] [x,y] G->r x y H2 Q):JB r (tE K T ca) (tE K T cb) σ H Q :=
 ⟨P,env,F,re,p,h1,λv1 H1 G1 s1 UA Ux=>⟨P,env,F,re.same s1,q,h2,λv2 H2 G2 s2 Pl rt2=>k v1 v2 H2 _ (.cons s1 UA Ux (.cons s2 Pl rt2 (.nil (aG.refl _))))⟩⟩
end
noncomputable def Eh (K:Frag)(f:D->D->Option D):R2:=λx y H Q=>∃d1 d2 d G,aF K H [d1,d2] [x,y] G/\f d1 d2=θ d/\∀v H' G',Rep K H' d v G'->kC H H' G d G'->Q v H'
noncomputable def Le (K:Frag):R2:=λx y H Q=>∃d1 d2 d G,aF K H [d1,d2] [x,y] G/\Jj d1 d2=θ d/\∀v G',Rep K H d v G'->G'.Sublist G->Q v H
section
variable {X:Cx}{T:Tb}{a b c:Expr}{ca cb cc:Ex}{pos:No}
theorem IT {op:At}(ho:lh X (IN op) (Eh X.K (qa op)))(ha:PE X a (tE X.K T ca))(hb:PE X b (tE X.K T cb)):PE X (.BinOp a op b pos) (tE X.K T (.bin op ca cb)):=by
 refine bJ (JX ho ha hb) λσ H Q ⟨P,env,F,re,p0,Mb,k⟩=>?_
 unfold ev at Mb;obtain⟨p,h1,Mb⟩:=Rs.Ma Mb;obtain⟨q,h2,Mb⟩:=Rs.Ma Mb;obtain⟨d,h3,Mb⟩:=Rs.Ma Mb;have h3:=cJ h3;cases Mb;refine two re h1 h2 λx y H2 G ar=>⟨p.1,q.1,d,G,ar.Mp,h3,λv H' G' rp nv=>k v H' G' (ar.same.trans nv.same) rp (bI.new ar nv λz hz=>by simpa[aO] using hz)⟩
theorem GD {op:Z2}(ho:lh X (Da op) (Eh X.K λx y=>(uv op x y).map .bl))(ha:PE X a (tE X.K T ca))(hb:PE X b (tE X.K T cb))(hm:xz op b=ε):PE X (.Compare a [op] [b] pos) (tE X.K T (.cmp op ca cb)):=by
 refine bJ (Dw ho ha hb hm) λσ H Q ⟨P,env,F,re,p0,Mb,k⟩=>?_
 unfold ev at Mb;obtain⟨p,h1,Mb⟩:=Rs.Ma Mb;obtain⟨q,h2,Mb⟩:=Rs.Ma Mb;obtain⟨d,h3,Mb⟩:=Rs.Ma Mb;have h3:=cJ h3;cases Mb;refine two re h1 h2 λx y H2 G ar=>⟨p.1,q.1,.bl d,G,ar.Mp,by simp[h3],λv H' G' rp nv=>k v H' G' (ar.same.trans nv.same) rp ?_⟩
 have:G'=[]:=rp.flat rfl;subst this;exact bI.nil
theorem KY (ho:EE X (Le X.K))(ha:PE X a (tE X.K T ca))(hb:PE X b (tE X.K T cb))(hs:nW b):PE X (.Subscript a b pos) (tE X.K T (.ix ca cb)):=by
 refine bJ (Fk ho ha hb hs) λσ H Q ⟨P,env,F,re,p0,Mb,k⟩=>?_
 unfold ev at Mb;obtain⟨p,h1,Mb⟩:=Rs.Ma Mb;obtain⟨q,h2,Mb⟩:=Rs.Ma Mb;obtain⟨d,h3,Mb⟩:=Rs.Ma Mb;have h3:=cJ h3;cases Mb;refine two re h1 h2 λx y H2 G ar=>⟨p.1,q.1,d,G,ar.Mp,h3,λv G' rp sl=>k v H2 G' ar.same rp ?_⟩
 unfold wB;cases hf:d.flat with
 |true=>
  have:G'=[]:=rp.flat hf;subst this;exact bI.nil
 |false=>
  obtain⟨H1,g1,g2,e1,s1,_,Ux,s2,Pl⟩:=ar.two;have hq:q.1.flat=ζ:=by
   revert h3;intro h3;cases hq:q.1 with
   |int _=>rfl
   |_=>rw[hq] at h3;revert h3;cases p.1<;>exact λh3=>nomatch h3
  have Pl:=Pl.flat hq;have UA:=Ux.later s2;subst Pl;rw[aw] at e1;subst e1;refine⟨λz hz=>?_,λR e=>by cases e⟩;exact UA.cont z (sl.subset hz)
end
end Pc
end
section
namespace Pc
open PySem L2
structure jV (P:Addr->Prop)(H H':Hp):Prop where
 keep:∀a,P a->H' a=H a
 tup:∀b xs,H b=θ (.tup xs)->H' b=θ (.tup xs)
 fz:Lg H H'
theorem jV.refl {P:Addr->Prop}(H:Hp):jV P H H:=⟨λ_ _=>rfl,λ_ _ h=>h,λ_ _ _ h=>h⟩
variable {H H1 H2:Hp}
theorem jV.trans {P:Addr->Prop}(a:jV P H H1)(b:jV P H1 H2):jV P H H2:=⟨λx h=>(b.keep x h).trans (a.keep x h),λx xs h=>b.tup x xs (a.tup x xs h),λx o u h=>b.fz x o u (a.fz x o u h)⟩
variable {H':Hp}
theorem jV.of_same {P:Addr->Prop}(pl:∀a,P a->H a≠η)(e:aG H H'):jV P H H':=⟨λa h=>by
 cases q:H a with
 |none=>exact absurd q (pl a h)
 |some o=>exact e _ _ q,λ_ _=>e _ _,λ_ _ _ h=>e _ _ h⟩
theorem jV.weak {P P':Addr->Prop}(h:∀a,P a->P' a)(e:jV P' H H'):jV P H H':=⟨λa x=>e.keep a (h a x),e.tup,e.fz⟩
variable {K:Frag}{vs:List V}
theorem jV.QW {P:Addr->Prop}(e:jV P H H'){b:Addr}(h:sL K H b vs):sL K H' b vs:=by
 rcases h with h|h
 .exact .inl (e.tup b vs h)
 .exact .inr h
variable {G:List Addr}
theorem jV.Mp {P:Addr->Prop}(e:jV P H H'){ds:List D}(h:aF K H ds vs G)(hp:∀a∈G,P a):aF K H' ds vs G :=
 h.keep (λ_ _=>e.QW) e.fz λb hb _ r=>(e.keep b (hp b hb)).trans r
def wL (env:En)(F:Nat->List Addr)(env':En)(F':Nat->List Addr):Prop:=∀(i:Nat) (d:D),env'[i]? = θ (θ (d,.lk))->env[i]? = θ (θ (d,.lk))/\F' i=F i
theorem wL.refl (env:En)(F:Nat->List Addr):wL env F env F:=λ_ _ h=>⟨h,rfl⟩
variable {F1 F2 F3:Nat->List Addr}{e1 e2 e3:En}
theorem wL.trans (a:wL e1 F1 e2 F2)(b:wL e2 F2 e3 F3):wL e1 F1 e3 F3:=λi d h=>by
 obtain⟨h1,h2⟩:=b i d h;obtain⟨h3,h4⟩:=a i d h1;exact⟨h3,h2.trans h4⟩
structure After (K:Frag)(P Z:Addr->Prop)(env:En)(F:Nat->List Addr)(H:Hp)(env':En)(σ':L2.St)(H':Hp)(F':Nat->List Addr):Prop where
 re:RE K P env' σ' H' F'
 z:∀i,∀a∈F' i,Z a
 ev:jV P H H'
 lk:wL env F env' F'
theorem After.trans {P Z:Addr->Prop}{H3:Hp}{σ2 σ3:L2.St}(a:After K P Z e1 F1 H1 e2 σ2 H2 F2)(b:After K P Z e2 F2 H2 e3 σ3 H3 F3):After K P Z e1 F1 H1 e3 σ3 H3 F3 :=
 ⟨b.re,b.z,a.ev.trans b.ev,a.lk.trans b.lk⟩
noncomputable def post (K:Frag)(P Z:Addr->Prop)(env:En)(F:Nat->List Addr)(H:Hp)(D:Ends):Fl->Prop
 |.nx env'=>∀σ' H' F',After K P Z env F H env' σ' H' F'->D.nx σ' H'
 |.bk env'=>∀σ' H' F',After K P Z env F H env' σ' H' F'->D.bk σ' H'
 |.ct env'=>∀σ' H' F',After K P Z env F H env' σ' H' F'->D.ct σ' H'
 |.rt d fr=>∀v H' G,Rep K H' d v G->jV P H H'->(∀a∈G,Z a)->(fr=ζ->G.Nodup/\∀a∈G,¬ P a/\∃vs:ML,H' a=θ vs.o)->D.rt v H'
 |.bad=>False
theorem post.trans {P Z:Addr->Prop}{σ2:L2.St}{D:Ends}(a:After K P Z e1 F1 H1 e2 σ2 H2 F2):∀{f:Fl},post K P Z e1 F1 H1 D f->post K P Z e2 F2 H2 D f
 |.nx _,h=>λσ' H' F' b=>h σ' H' F' (a.trans b)
 |.bk _,h=>λσ' H' F' b=>h σ' H' F' (a.trans b)
 |.ct _,h=>λσ' H' F' b=>h σ' H' F' (a.trans b)
 |.rt _ _,h=>λv H' G r e z f=>h v H' G r (a.ev.trans e) z f
 |.bad,h=>h
variable {R:List Nat}{d:D}{env0:En}{i:Nat}{t:Tg}{v:V}
section
variable {K:Frag}{P Z:Addr->Prop}{env:En}{σ:L2.St}{H:Hp}{F:Nat->List Addr}
theorem oi (hi:i<env.length)(ht:t≠.lk):wL env F (put env i d t) (uF F i G):=λj d' e=>by
 by_cases h:j=i
 .subst h;rw[eE hi] at e;cases e;exact absurd rfl ht
 .obtain⟨t0,e0,q⟩:=jI h e;cases t0 with
  |lk=>exact⟨e0,eH h⟩
  |own=>cases q
  |sh R=>cases q
theorem qj (hz:∀i,∀a∈F i,Z a)(hg:∀a∈G,Z a):∀j,∀a∈uF F i G j,Z a:=λj a ha=>by
 by_cases h:j=i
 .subst h;rw[eY] at ha;exact hg a ha
 .rw[eH h] at ha;exact hz j a ha
theorem oK {D:Ends}{mv:Bool}{p:Pc.D×Rt}(re:RE K P env σ H F)(hz:∀i,∀a∈F i,Z a)(zp:∀a,¬ P a->Z a)(e:aG H H')(rp:Rep K H' p.1 v G)(rt:bI env F H p.2 H' G)
  (h:post K P Z env F H D (rR (.nm i) mv env p)):D.nx (σ.set i (θ v)) H':=by
 have O9:=re.same e;have ez:∀a∈G,Z a:=λa ha=>by
  rcases rt.cont a ha with q|⟨j,_,_,f,_⟩
  .exact zp a λz=>re.pl a z q
  .exact hz j a f
 have nt:=jV.of_same (P:=P) re.pl e;unfold rR at h;by_cases hi:i<env.length
 .simp only[hi,if_true] at h;have shared:∀R,p.2.roots=R->post K P Z env F H D (.nx (put env i p.1 (.sh (R.filter (· != i)))))->D.nx (σ.set i (θ v)) H':=λR hR h=>by
   refine h _ H' (uF F i G) ⟨O9.put hi rp (λo=>by cases o) (λo=>by cases o) λa ha j d' t' hj ej o m=>?_,qj hz ez,nt,oi hi (by intro z;cases z)⟩;rcases rt.cont a ha with q|⟨k,d2,t2,f,e2,s⟩
   .exact absurd q (re.nn ej m)
   .have:=s j ((re.one j d' t' ej o).2.2 a m k d2 t2 e2 f);rw[hR] at this;simp only[bA,ie];exact⟨this,by simpa using hj⟩
  cases hr:p.2 with
  |sh R=>rw[hr] at h;exact shared R (by rw[hr];rfl) h
  |mv R=>
   rw[hr] at h;obtain⟨m1,m2,m3⟩:=rt.mv R hr;cases R with
   |nil=>
    have fresh:∀a∈G,H a=η:=λa ha=>by
     rcases m3 a ha with q|⟨_,_,_,q,_⟩
     .exact q
     .cases q
    refine h _ H' (uF F i G) ⟨O9.put hi rp (λ_=>⟨m1,m2,λa ha j _ m=>?_⟩) (λ_ a ha z=>re.pl a z (fresh a ha)) λa ha j d' t' hj ej o m=>?_,qj hz ez,nt,oi hi (by intro z;cases z)⟩
    .obtain⟨d2,t2,e2⟩:=re.at' m;exact re.nn e2 m (fresh a ha)
    .exact absurd (fresh a ha) (re.nn ej m)
   |cons r0 R0=>
    cases mv with
    |false=>exact shared _ (by rw[hr];rfl) h
    |true=>
     simp only[if_true] at h;by_cases ho:dD env (r0::R0)=ζ
     .rw[if_pos ho] at h;have fg:=O9.forget (env':=kill (r0::R0) env) (dO _ _) λj d' t' ej=>(bZ ej).1
      have ow:∀k∈r0::R0,∃d',env[k]? = θ (θ (d',.own)):=λk hk=>by
       have:=bz.mp ho k hk;split at this
       .rename_i d' q;exact⟨d',q⟩
       .cases this
      have apart:∀a∈G,∀j,j≠i->a∉(match (kill (r0::R0) env)[j]? with|some (θ _)=>F j|_=>[]):=λa ha j hj m=>by
       split at m
       .rename_i q ej;obtain⟨dj,tj⟩:=q;obtain⟨e0,h1,h2⟩:=bZ ej;rcases m3 a ha with q|⟨k,d2,t2,hk,f,e2,o2⟩
        .exact re.nn e0 m q
        .exact h2 k hk ((re.one k d2 t2 e2 o2).2.2 a f j dj tj e0 m)
       .cases m
      refine h _ H' _ ⟨fg.put (by rw[dO];exact hi) rp (λ_=>⟨m1,m2,apart⟩) (λ_ a ha z=>?_) λa ha j d' t' hj ej o m=>absurd m (apart a ha j hj),qj (λj a ha=>?_) ez,nt,λj d' ej=>?_⟩
      .rcases m3 a ha with q|⟨k,d2,t2,hk,f,e2,o2⟩
       .exact re.pl a z q
       .obtain⟨d3,e3⟩:=ow k hk;exact re.wr k d3 e3 a f z
      .split at ha
       .exact hz j a ha
       .cases ha
      .by_cases hj:j=i
       .subst hj;rw[eE (by rw[dO];exact hi)] at ej;cases ej
       .obtain⟨t0,e0,q⟩:=jI hj ej;cases t0 with
        |lk=>
         refine⟨(bZ e0).1,?_⟩;rw[eH hj,e0]
        |own=>cases q
        |sh R=>cases q
     .rw[if_neg ho] at h;exact h.elim
 .simp only[hi,if_false] at h;exact h.elim
noncomputable def setM:List Nat->List V->L2.St->L2.St
 |i::is,v::vs,σ=>setM is vs (σ.set i (θ v))
 |_,_,σ=>σ
theorem qw:∀{is:List Nat}{ds:List D}{vs:List V}{G:List Addr}{env env':En}{σ:L2.St}{F:Nat->List Addr},RE K P env σ H F->(∀i,∀a∈F i,Z a)->aF K H ds vs G->G.Nodup->(∀a∈G,∃vs:ML,H a=θ vs.o)->(∀a∈G,¬ P a)->(∀a∈G,Z a) ->
  (∀a∈G,∀j,a∉F j)->bindM (λ_=>.own) is ds env=θ env'->∃F',RE K P env' (setM is vs σ) H F'/\(∀i,∀a∈F' i,Z a)/\wL env F env' F'/\is.length=vs.length
 |[],_,_,_,env,env',σ,F,re,hz,.nil,_,_,_,_,_,h=>by
  simp only[bindM,cz] at h;subst h;exact⟨F,re,hz,wL.refl _ _,rfl⟩
 |i::is,_,_,_,env,env',σ,F,re,hz,.cons (G:=G1) (G':=G2) r rs,nd,ll,np,gz,ap,h=>by
  simp only[bindM] at h;by_cases hi:i<env.length
  .rw[if_pos hi] at h;obtain⟨n1,n2,UQ⟩:=fh.mp nd;have NX:=re.put (t:=.own) hi r (λ_=>⟨n1,λa ha=>ll a (ax _ ha),λa ha j _=>ap a (ax _ ha) j⟩) (λ_ a ha=>np a (ax _ ha)) λa ha j _ _ _ _ _ m=>absurd m (ap a (ax _ ha) j)
   obtain⟨F',a1,a2,a3,a4⟩:=qw NX (qj hz λa ha=>gz a (ax _ ha)) rs n2 (λa ha=>ll a (ao _ ha)) (λa ha=>np a (ao _ ha)) (λa ha=>gz a (ao _ ha)) (λa ha j m=>by
    by_cases hj:j=i
    .subst hj;rw[eY] at m;exact UQ a m a ha rfl
    .rw[eH hj] at m;exact ap a (ao _ ha) j m) h
   exact⟨F',a1,a2,(oi hi (by intro z;cases z)).trans a3,by simp[a4]⟩
  .rw[if_neg hi] at h;cases h
 |[],_,_,_,_,_,_,_,_,_,.cons _ _,_,_,_,_,_,h=>by simp[bindM] at h
 |_::_,_,_,_,_,_,_,_,_,_,.nil,_,_,_,_,_,h=>by simp[bindM] at h
theorem vf:cU d R≠.lk:=by unfold cU;split<;>intro z<;>cases z
theorem yk (re:RE K P env σ H F)(hi:i<env.length)(rp:Rep K H d v G)(hs:∀a∈G,∀(j:Nat) (d':D) (t':Tg),env[j]? = θ (θ (d',t'))->be t'=ζ->a∈F j->j∈R) :
  RE K P (put env i d (cU d R)) (σ.set i (θ v)) H (uF F i G):=by
 unfold cU;cases hf:d.flat with
 |true=>
  have:G=[]:=rp.flat hf;subst this;simp only[if_true];exact re.put hi rp (λ_=>⟨bc,λ_ h=>(nomatch h),λ_ h=>(nomatch h)⟩) (λ_ _ h=>(nomatch h)) λ_ h=>(nomatch h)
 |false=>
  simp only[c9,if_false];exact re.put hi rp (λo=>by cases o) (λo=>by cases o) λa ha j d' t' hj ej o m=>hs a ha j d' t' ej o m
theorem n9:∀{is:List Nat}{ds:List D}{vs:List V}{G:List Addr}{env env':En}{σ:L2.St}{F:Nat->List Addr},RE K P env σ H F->(∀i,∀a∈F i,Z a)->aF K H ds vs G->(∀a∈G,Z a) ->
  (∀a∈G,∀(j:Nat) (d':D) (t':Tg),env[j]? = θ (θ (d',t'))->be t'=ζ->a∈F j->j∈R)->bindM (λd=>cU d R) is ds env=θ env'->∃F',RE K P env' (setM is vs σ) H F'/\(∀i,∀a∈F' i,Z a)/\wL env F env' F'/\is.length=vs.length
 |[],_,_,_,env,env',σ,F,re,hz,.nil,_,_,h=>by
  simp only[bindM,cz] at h;subst h;exact⟨F,re,hz,wL.refl _ _,rfl⟩
 |i::is,_,_,_,env,env',σ,F,re,hz,.cons (d:=d) (G:=G1) (G':=G2) r rs,gz,hs,h=>by
  simp only[bindM] at h;by_cases hi:i<env.length
  .rw[if_pos hi] at h;have NX:=yk re hi r λa ha=>hs a (ax _ ha)
   obtain⟨F',a1,a2,a3,a4⟩:=n9 NX (qj hz λa ha=>gz a (ax _ ha)) rs (λa ha=>gz a (ao _ ha)) (λa ha j d' t' ej o m=>by
    by_cases hj:j=i
    .subst hj;rw[eE hi] at ej;simp only[cz,ij] at ej;obtain⟨rfl,rfl⟩:=ej;rw[eY] at m;cases hf:d.flat with
     |true=>rw[r.flat hf] at m;cases m
     |false=>simp[cU,hf,be] at o
    .rw[eH hj] at m;obtain⟨t0,e0,rfl⟩:=jI hj ej;rw[mY] at o;exact hs a (ao _ ha) j d' t0 e0 o m) h
   exact⟨F',a1,a2,(oi hi vf).trans a3,by simp[a4]⟩
  .rw[if_neg hi] at h;cases h
 |[],_,_,_,_,_,_,_,_,_,.cons _ _,_,_,h=>by simp[bindM] at h
 |_::_,_,_,_,_,_,_,_,_,_,.nil,_,_,h=>by simp[bindM] at h
theorem uB (R:List Nat)(env:En):(lock R env).length=env.length:=by simp[lock]
theorem oY {env:En}(e:(lock R env)[i]? = θ (θ (d,t))) :
  (env[i]? = θ (θ (d,t))/\(t=.own->i∉R))\/(t=.lk/\i∈R/\env[i]? = θ (θ (d,.own))):=by
 unfold lock at e;rw[am] at e;cases q:env[i]? with
 |none=>rw[q] at e;cases e
 |some s=>
  rw[q] at e;cases s with
  |none=>cases e
  |some p=>
   obtain⟨a,b⟩:=p;simp only[cq,cz] at e;cases b with
   |own=>
    simp only at e;by_cases h:R.contains i=ζ
    .rw[if_pos h] at e;cases e;exact .inr ⟨rfl,by simpa using h,rfl⟩
    .rw[if_neg h] at e;cases e;exact .inl ⟨rfl,λ_ z=>h (by simpa using z)⟩
   |lk=>cases e;exact .inl ⟨rfl,λz=>by cases z⟩
   |sh Q=>cases e;exact .inl ⟨rfl,λz=>by cases z⟩
theorem CH {R:List Nat}{env:En}(e:env[i]? = θ (θ (d,t))):∃t',(lock R env)[i]? = θ (θ (d,t'))/\be t'=be t/\bA i t'=bA i t:=by
 unfold lock;rw[am,e];cases t with
 |own=>
  simp only[cq];by_cases h:R.contains i=ζ
  .exact⟨.lk,by rw[if_pos h],rfl,rfl⟩
  .exact⟨.own,by rw[if_neg h],rfl,rfl⟩
 |lk=>exact⟨.lk,rfl,rfl,rfl⟩
 |sh Q=>exact⟨.sh Q,rfl,rfl,rfl⟩
theorem fL {env:En}(e:(lock R env)[i]? = θ (θ (d,t))):∃t0,env[i]? = θ (θ (d,t0))/\be t0=be t/\bA i t0=bA i t:=by
 rcases oY e with ⟨h,_⟩|⟨rfl,_,h⟩
 .exact⟨t,h,rfl,rfl⟩
 .exact⟨.own,h,rfl,rfl⟩
theorem RE.locked (re:RE K P env σ H F)(hg:∀a∈G,H a≠η)(hc:∀a∈G,∀(i:Nat) (d:D) (t:Tg),env[i]? = θ (θ (d,t))->be t=ζ->a∈F i->i∈R) :
  RE K (λa=>P a\/a∈G) (lock R env) σ H F where
 len:=(uB R env).trans re.len
 val:=λi d t e=>let ⟨t0,e0,_⟩:=fL e;re.val i d t0 e0
 Oz:=λi h=>re.Oz i λd t e=>by
  obtain⟨t',e',_⟩:=CH (R:=R) e;exact h d t' e'
 one:=λi d t e o=>by
  obtain⟨t0,e0,o0,_⟩:=fL e;obtain⟨a,b,c⟩:=re.one i d t0 e0 (o0.trans o);refine⟨a,b,λx hx j d' t' ej m=>?_⟩;obtain⟨t1,e1,_,s1⟩:=fL ej;rw[<-s1];exact c x hx j d' t1 e1 m
 wr:=λi d e a ha z=>by
  rcases oY e with ⟨h,hn⟩|⟨q,_⟩
  .rcases z with z|z
   .exact re.wr i d h a ha z
   .exact hn rfl (hc a z i d .own h rfl ha)
  .cases q
 pl:=λa h=>h.elim (re.pl a) (hg a)
theorem pT (R:List Nat)(env0 env:En):(unlock R env0 env).length=env.length:=by simp[unlock]
theorem k9 {env:En}(e:(unlock R env0 env)[i]? = θ (θ (d,t))) :
  (env[i]? = θ (θ (d,t))/\(t=.lk->¬ (i∈R/\∃d0,env0[i]? = θ (θ (d0,.own)))))\/(t=.own/\i∈R/\env[i]? = θ (θ (d,.lk))/\∃d0,env0[i]? = θ (θ (d0,.own))):=by
 unfold unlock at e;rw[am] at e;cases q:env[i]? with
 |none=>rw[q] at e;cases e
 |some s=>
  rw[q] at e;cases s with
  |none=>cases e
  |some p=>
   obtain⟨a,b⟩:=p;simp only[cq,cz] at e;cases b with
   |own=>cases e;exact .inl ⟨rfl,λz=>by cases z⟩
   |sh Q=>cases e;exact .inl ⟨rfl,λz=>by cases z⟩
   |lk=>
    simp only at e;split at e
    .rename_i d0 q0;by_cases h:R.contains i=ζ
     .rw[if_pos h] at e;cases e;exact .inr ⟨rfl,by simpa using h,rfl,d0,q0⟩
     .rw[if_neg h] at e;cases e;exact .inl ⟨rfl,λ_ z=>h (by simpa using z.1)⟩
    .rename_i nq;cases e;exact .inl ⟨rfl,λ_ ⟨_,d0,q0⟩=>nq d0 q0⟩
theorem iE {env:En}(e:(unlock R env0 env)[i]? = θ (θ (d,t))):∃t0,env[i]? = θ (θ (d,t0))/\be t0=be t/\bA i t0=bA i t:=by
 rcases k9 e with ⟨h,_⟩|⟨rfl,_,h,_⟩
 .exact⟨t,h,rfl,rfl⟩
 .exact⟨.lk,h,rfl,rfl⟩
theorem vO {R:List Nat}{env0 env:En}(e:env[i]? = θ (θ (d,t))):∃t',(unlock R env0 env)[i]? = θ (θ (d,t')):=by
 unfold unlock;rw[am,e];cases t with
 |own=>exact⟨.own,rfl⟩
 |sh Q=>exact⟨.sh Q,rfl⟩
 |lk=>
  simp only[cq];split
  .by_cases h:R.contains i=ζ
   .exact⟨.own,by rw[if_pos h]⟩
   .exact⟨.lk,by rw[if_neg h]⟩
  .exact⟨.lk,rfl⟩
theorem After.Nt {env':En}{σ':L2.St}{F':Nat->List Addr}(re:RE K P env σ H F)(a:After K (λa=>P a\/a∈G) Z (lock R env) F H env' σ' H' F'):After K P Z env F H (unlock R env env') σ' H' F' where
 re:={
  len:=(pT R env env').trans a.re.len
  val:=λi d t e=>let ⟨t0,e0,_⟩:=iE e;a.re.val i d t0 e0
  Oz:=λi h=>a.re.Oz i λd t e=>by
   obtain⟨t',e'⟩:=vO (R:=R) (env0:=env) e;exact h d t' e'
  one:=λi d t e o=>by
   obtain⟨t0,e0,o0,_⟩:=iE e;obtain⟨x,y,c⟩:=a.re.one i d t0 e0 (o0.trans o);refine⟨x,y,λz hz j d' t' ej m=>?_⟩;obtain⟨t1,e1,_,s1⟩:=iE ej;rw[<-s1];exact c z hz j d' t1 e1 m
  wr:=λi d e b hb z=>by
   rcases k9 e with ⟨h,_⟩|⟨_,hR,h,d0,h0⟩
   .exact a.re.wr i d h b hb (.inl z)
   .obtain⟨h1,h2⟩:=a.lk i d h;rw[h2] at hb;exact re.wr i d0 h0 b hb z
  pl:=λb h=>a.re.pl b (.inl h) }
 z:=a.z
 ev:=a.ev.weak λ_ h=>.inl h
 lk:=λi d e=>by
  rcases k9 e with ⟨h,hn⟩|⟨q,_⟩
  .obtain⟨h1,h2⟩:=a.lk i d h;rcases oY h1 with ⟨h3,_⟩|⟨_,hR,h3⟩
   .exact⟨h3,h2⟩
   .exact absurd ⟨hR,d,h3⟩ (hn rfl)
  .cases q
end
variable {path:Option Int}{rs:List Rt}{x:Nat}
section
variable {K:Frag}{P Z:Addr->Prop}{env:En}{σ:L2.St}{H:Hp}{F:Nat->List Addr}
theorem bR (h:ownAt env x=θ d):env[x]? = θ (θ (d,.own)):=by
 unfold ownAt at h;split at h
 .rename_i d' q;cases h;exact q
 .cases h
theorem dJ (re:RE K P env σ H F){xs:List D}(hx:ownAt env x=θ d)(hv:σ[x]? = θ (θ v))(h:d.Mv path=θ xs) :
  ∃p,PV K H v path p/\∀H',aG H H'->∃ws Gx,H' p=θ (.lst ws)/\aF K H' xs ws Gx/\p∈F x/\(∀a∈Gx,a∈F x)/\Gx.Nodup/\p∉Gx /\
   ∀ys us Gy,aF K (upd H' p (.lst us)) ys us Gy->Gy.Nodup->p∉Gy->(∀a∈Gy,a∈Gx\/a∉F x)->∃G',Rep K (upd H' p (.lst us)) (d.M0 path ys) v G'/\G'.Nodup/\∀a∈G',a∈F x\/a∈Gy:=by
 have Na:=bR hx;obtain⟨u,e,rp⟩:=re.val x d .own Na;rw[hv] at e;cases e;obtain⟨a,b,_⟩:=re.one x d .own Na rfl;obtain⟨p,pv,f⟩:=zl rp a h;exact⟨p,pv,λH' e=>f H' e λy hy=>let ⟨ws,q⟩:=b y hy;⟨ws,e _ _ q⟩⟩
theorem mC {D:Ends}{d:Pc.D}{ys:List Pc.D}(h:post K P Z env F H D (bW x path env d ys rs)):ys.length<=lim:=by
 unfold bW at h;cases hR:dX rs with
 |none=>rw[hR] at h;exact h.elim
 |some R=>
  rw[hR] at h;simp only at h;by_cases hc:(decide R.Nodup&&dD env R && !R.contains x&&decide (ys.length<=lim))=ζ
  .simp only[ai,decide_eq_true_eq] at hc;exact hc.2
  .rw[if_neg hc] at h;exact h.elim
theorem iP {D:Ends}{d:Pc.D}{ys:List Pc.D}{p:Addr}{us:List V}{N:List Addr}
  (re:RE K P env σ H F) (hz:∀i,∀a∈F i,Z a) (zp:∀a,¬ P a->Z a) (e:aG H H1) (hx:ownAt env x=θ d) (hv:σ[x]? = θ (θ v)) (hp:p∈F x)
  (hN:∀R,dX rs=θ R->R.Nodup->N.Nodup/\(∀a∈N,∃vs:ML,H1 a=θ vs.o)/\∀a∈N,H a=η\/∃i d t,i∈R/\a∈F i/\env[i]? = θ (θ (d,t))/\be t=ζ)
  (Vg:(∀a∈N,a∉F x)->N.Nodup->∃G',Rep K (upd H1 p (.lst us)) (d.M0 path ys) v G'/\G'.Nodup/\∀a∈G',a∈F x\/a∈N)
  (h:post K P Z env F H D (bW x path env d ys rs)):D.nx σ (upd H1 p (.lst us)):=by
 unfold bW at h;cases hR:dX rs with
 |none=>rw[hR] at h;exact h.elim
 |some R=>
  rw[hR] at h;simp only at h;by_cases hc:(decide R.Nodup&&dD env R && !R.contains x&&decide (ys.length<=lim))=ζ
  .rw[if_pos hc] at h;simp only[ai,decide_eq_true_eq,fk] at hc;obtain⟨⟨⟨YM,YL⟩,YK⟩,hc4⟩:=hc;have hxR:x∉R:=λz=>by
    have:R.contains x=ζ:=by simpa using z
    rw[this] at YK;cases YK
   obtain⟨n1,n2,n3⟩:=hN R hR YM;have Na:=bR hx;have ow:∀k∈R,∃d',env[k]? = θ (θ (d',.own)):=λk hk=>by
    have:=bz.mp YL k hk;split at this
    .rename_i d' q;exact⟨d',q⟩
    .cases this
   have UN:∀a∈N,a∉F x:=λa ha m=>by
    rcases n3 a ha with q|⟨i,d2,t2,hi,f,e2,o2⟩
    .exact re.nn Na m q
    .have:=(re.one i d2 t2 e2 o2).2.2 a f x d .own Na m;simp only[bA,jm] at this;subst this;exact hxR hi
   obtain⟨G',g1,g2,g3⟩:=Vg UN n1;have NX:=re.same e;have pP:∀a∈N,¬ P a:=λa ha z=>by
    rcases n3 a ha with q|⟨i,d2,t2,hi,f,e2,o2⟩
    .exact re.pl a z q
    .obtain⟨d3,e3⟩:=ow i hi;exact re.wr i d3 e3 a f z
   have re2:=NX.Qr (R:=R) (N:=N) Na hv hp g1 g2 g3 λa ha=>⟨n2 a ha,pP a ha,λj dj tj ej m=>by
    rcases n3 a ha with q|⟨i,d2,t2,hi,f,e2,o2⟩
    .exact absurd q (re.nn ej m)
    .exact⟨i,aa _ hi,(re.one i d2 t2 e2 o2).2.2 a f j dj tj ej m⟩⟩
   obtain⟨_,Tp,_⟩:=NX.one x d .own Na rfl;obtain⟨ws,MP⟩:=Tp p hp;have nPp:¬ P p:=re.wr x d Na p hp;refine h σ _ _ ⟨re2,λj a ha=>?_,(jV.of_same re.pl e).trans ⟨λa z=>aL (λq=>nPp (q ▸ z)),λb xs r=>?_,my MP⟩,λj dj ej=>?_⟩
   .unfold ud at ha;split at ha
    .rcases g3 a ha with q|q
     .exact hz x a q
     .exact zp a (pP a q)
    .split at ha
     .exact hz j a ha
     .cases ha
   .refine (aL (λq=>?_)).trans r;subst q;rw[MP] at r;cases ws<;>cases r
   .by_cases hj:j=x
    .subst hj;rw[ω (by rw[dO];exact (χ.mp Na).1)] at ej;cases ej
    .rw[ο (bw hj)] at ej;refine⟨(bZ ej).1,?_⟩;unfold ud;rw[if_neg hj,ej]
  .rw[if_neg hc] at h;exact h.elim
end
end Pc
end
section
namespace Pc
open PySem PySem.Spec PyProof.Rows L2
variable {G:List Addr}{d:D}{ds:List D}{v:V}
section
variable {K:Frag}{H:Hp}
theorem aF.inv2 {e:D}{x y:V}(h:aF K H [d,e] [x,y] G):∃G1 G2,Rep K H d x G1/\Rep K H e y G2/\G=G1++G2:=by
 cases h with
 |cons r s=>
  cases s with
  |cons r' s'=>cases s';exact⟨_,_,r,r',by rw[aw]⟩
theorem Rep.int_inv {i:Int}(h:Rep K H (.int i) v G):v=.int i/\G=[]:=by cases h;exact⟨rfl,rfl⟩
theorem Rep.MG {i:Bool}(h:Rep K H (.bl i) v G):v=.bl i/\G=[]:=by cases h;exact⟨rfl,rfl⟩
theorem Rep.Mj (h:Rep K H (.tup ds) v G):∃p vs,v=.ref p/\qJ K H p vs/\aF K H ds vs G:=by
 cases h with
 |tup a b=>exact⟨_,_,rfl,a.sq,b⟩
theorem Rep.OC (h:Rep K H (.tup ds) v G):∃p vs,v=.ref p/\sL K H p vs/\aF K H ds vs G:=by
 cases h with
 |tup a b=>exact⟨_,_,rfl,a,b⟩
end
variable {H:Hp}{K:Frag}{l:Addr}{n:Nat}{op:At}{pins:List (Addr×Obj)}{s:μ}{vs xs:List V}
section
variable {X:Cx}
theorem Inv.Po {σ:L2.St}(I:Inv X pins σ H s)(hH:Rd H l (.lst xs)):xs.length<=sizeLine/\∃(aH:List Value) (n:Nat),aK xs aH/\xs.length=aH.length/\s.heap.get? l=θ { cls:=.type "list",data:=.seq aH.toArray n }:=by
 obtain⟨z,aH,n,r,e⟩:=hH.ok I.Mc;exact⟨z,aH,n,r,r.length,e⟩
noncomputable def J9:R2:=λx y H Q=>∃l b xs zs,x=.ref l/\y=.ref b/\Rd H l (.lst xs)/\Rd H b (.lst zs)/\xs.length+zs.length<=sizeLine/\∀p,H p=η->Q (.ref p) (upd H p (.lst (xs++zs)))
theorem EL:lh X (IN .Add) J9:=by
 intro pins s σ H x y v u Q I rx ry h;obtain⟨l,b,xs,zs,rfl,rfl,hH,hB,hz,q⟩:=h;cases rx;cases ry;obtain⟨z,aH,n,r,hl,e⟩:=Inv.Po I hH;obtain⟨z2,NS,n2,r2,P0,e2⟩:=Inv.Po I hB;refine PySem.P.add_list e e2 ?_ (by rw[ak,ak];omega);have ea:aH.toArray++NS.toArray=(aH++NS).toArray:=by simp
 rw[ea];exact⟨.ref _,_,I.Qu (t':=s.toks) (r.append r2) (by rw[ba];omega),rfl,q _ I.fresh⟩
noncomputable def Lr:R2:=λx y H Q=>∃l k xs,x=.ref l/\y=.int k/\Rd H l (.lst xs)/\-(2 ^ 63)<=k/\k<2 ^ 63/\xs.length*k.toNat<=sizeLine /\
 ∀p,H p=η->Q (.ref p) (upd H p (.lst (ξ k.toNat xs).flatten))
theorem EU:lh X (IN .Mult) Lr:=by
 intro pins s σ H x y v u Q I rx ry h;obtain⟨l,k,xs,rfl,rfl,hH,h1,h2,hz,q⟩:=h;cases rx;obtain⟨t,rfl⟩:=ry;obtain⟨z,aH,n,r,hl,e⟩:=Inv.Po I hH;have hlen:aH.toArray.size*k.toNat<=sizeLine:=by rw[ak,<-hl];exact hz
 have V9:¬ aH.toArray.size*k.toNat > (2 ^ 63-1) / 8:=by
  have:(sizeLine:Nat)<=(2 ^ 63-1) / 8:=by decide
  omega
 have VT:¬ (!Builtin.List.listFitsIndex k)=ζ:=by
  rw[m_ h1 h2];exact ay
 have ON:¬ GM (aH.toArray.size*k.toNat)=ζ:=by
  rw[uw hlen];exact ay
 have Vz:Ķ (λx1 x2=>x1++x2) #[] (ξ (if aH.toArray.isEmpty=ζ then 0 else k.toNat) aH.toArray)=(ξ k.toNat aH).flatten.toArray:=by
  have f0:∀m:Nat,Ķ (λx1 x2=>x1++x2) #[] (ξ m aH.toArray)=(ξ m aH).flatten.toArray:=λm=>by
   have:=foldl_rep aH m [];rw[Ä] at this;exact this
  rw[f0];cases aH with
  |nil=>simp
  |cons a r'=>rw[if_neg (by simp)]
 refine wpAny_binaryOp_repeat_ref (T:="list") (U:="int") (by decide) ⟨_,e,rfl⟩ (λs'=>Ğ s' k t) noFill_list_mul F.fills_int_mul b_ repeat_list F.slot_int_index.lookup
  (ZE b_ (Ğ s k t) F.entry_int_rmul (F.args_int_rmul_2 _ _) (int___rmul___int_list k t l aH.toArray n)
   ⟨e,rfl,⟨_,e,rfl⟩,ZE F.slot_list_mul ⟨_,e,rfl⟩ F.entry_list_mul (F.args_list_mul_2 _ _) (y_ l aH.toArray n k t VT V9 ON) ⟨e,?_⟩⟩)
 rw[Vz];exact⟨.ref _,_,I.Qu (t':=s.toks) (r.rep k.toNat) (by rw[len_rep,e_];exact hz),rfl,q _ I.fresh⟩
theorem aF.rep (h:aF K H ds vs []):∀n:Nat,aF K H (ξ n ds).flatten (ξ n vs).flatten []
 |0=>.nil
 |n+1=>by
  rw[dq,dq,dw,dw];exact h.append (h.rep n)
theorem xr {e:D}(h:ck n d=θ e):n<=lim/\e=d:=by
 unfold ck at h;split at h
 .cases h;exact⟨‹_›,rfl⟩
 .cases h
theorem qy {i:Int}:small i=ζ↔(-(2 ^ 64)<i/\i<2 ^ 64):=by unfold small;exact decide_eq_true_iff
theorem EZ {i j k:Int}(h:binI op i j=θ k):lh X (IN op) (λx y H Q=>x=.int i/\y=.int j/\Q (.int k) H):=by
 intro pins s σ H x y v u Q I rx ry q;obtain⟨rfl,rfl,q⟩:=q;cases op with
 |Add=>cases h;exact IB pins s σ H _ _ v u Q I rx ry ⟨i,j,rfl,rfl,q⟩
 |Sub=>cases h;exact HP pins s σ H _ _ v u Q I rx ry ⟨i,j,rfl,rfl,q⟩
 |Mult=>
  have h:(if small i || small j then θ (i*j) else η)=θ k:=h;by_cases hc:(small i || small j)=ζ
  .rw[if_pos hc] at h;cases h;refine GH pins s σ H _ _ v u Q I rx ry ⟨i,j,rfl,rfl,?_,q⟩;rw[gm,qy,qy] at hc;exact hc
  .rw[if_neg hc] at h;cases h
 |FloorDiv=>
  have h:(if 0<j/\j<1073741824 then θ (i / j) else η)=θ k:=h;by_cases hc:0<j/\j<1073741824
  .rw[if_pos hc] at h;cases h;exact Dj pins s σ H _ _ v u Q I rx ry ⟨i,j,rfl,rfl,hc,q⟩
  .rw[if_neg hc] at h;cases h
 |Mod=>
  have h:(if 0<j then θ (i%j) else η)=θ k:=h;by_cases hc:0<j
  .rw[if_pos hc] at h;cases h;exact IC pins s σ H _ _ v u Q I rx ry ⟨i,j,rfl,rfl,hc,q⟩
  .rw[if_neg hc] at h;cases h
 |RShift=>
  have h:(if 0<=j then θ (i / 2 ^ j.toNat) else η)=θ k:=h;by_cases hc:0<=j
  .rw[if_pos hc] at h;cases h;exact Iq pins s σ H _ _ v u Q I rx ry ⟨i,j,rfl,rfl,hc,q⟩
  .rw[if_neg hc] at h;cases h
 |BitAnd=>cases h;exact ID pins s σ H _ _ v u Q I rx ry ⟨i,j,rfl,rfl,q⟩
 |BitXor=>cases h;exact GG pins s σ H _ _ v u Q I rx ry ⟨i,j,rfl,rfl,q⟩
 |_=>cases h
theorem DK (op:At):lh X (IN op) (Eh X.K (qa op)):=by
 intro pins s σ H x y v u Q I rx ry h;obtain⟨d1,d2,d,G,rs,hd,k⟩:=h;obtain⟨G1,G2,r1,r2,rfl⟩:=rs.inv2;cases d1 with
 |int i=>
  cases d2 with
  |int j=>
   obtain⟨rfl,rfl⟩:=r1.int_inv;obtain⟨rfl,rfl⟩:=r2.int_inv;have:qa op (.int i) (.int j)=(binI op i j).map .int:=rfl;rw[this,ae] at hd;obtain⟨z,hz,rfl⟩:=hd;exact EZ hz pins s σ H _ _ v u Q I rx ry ⟨rfl,rfl,k _ H [] (.int z) kC.nil⟩
  |_=>cases hd
 |lst a=>
  obtain⟨p,vs,G',rfl,rfl,h1,h2⟩:=r1.lst_inv;cases d2 with
  |lst b=>
   cases op with
   |Add=>
    obtain⟨hl,rfl⟩:=xr hd;obtain⟨p',OA,Zz,rfl,rfl,Ni,MU⟩:=r2.lst_inv;refine EL pins s σ H _ _ v u Q I rx ry ⟨p,p',vs,OA,rfl,rfl,h1,Ni,by rw[<-h2.len,<-MU.len];exact sC hl,λq hq=>?_⟩;obtain⟨n1,n2⟩:=k7 (G0:=p::G'++p'::Zz) (h2.append MU) (λa ha=>by simp at ha ⊢;rcases ha with ha|ha<;>simp[ha]) hq;exact k _ _ _ n1 n2
   |_=>cases hd
  |int n=>
   cases op with
   |Mult=>
    have hd:(if -(2 ^ 63)<=n/\n<2 ^ 63 then (if D.Mk a then ck (a.length*n.toNat) (.lst (ξ n.toNat a).flatten) else η) else η)=θ d:=hd;by_cases hc : -(2 ^ 63)<=n/\n<2 ^ 63
    .rw[if_pos hc] at hd;by_cases hf:D.Mk a=ζ
     .rw[if_pos hf] at hd;obtain⟨hl,rfl⟩:=xr hd;obtain⟨rfl,rfl⟩:=r2.int_inv;have eG:G'=[]:=h2.flat hf;subst eG;refine EU pins s σ H _ _ v u Q I rx ry ⟨p,n,vs,rfl,rfl,h1,hc.1,hc.2,by rw[<-h2.len];exact sC hl,λq hq=>?_⟩;obtain⟨n1,n2⟩:=k7 (G0:=[p] ++ []) (h2.rep n.toNat) (λa ha=>(nomatch ha)) hq;exact k _ _ _ n1 n2
     .rw[if_neg hf] at hd;cases hd
    .rw[if_neg hc] at hd;cases hd
   |_=>cases hd
  |_=>cases op<;>cases hd
 |_=>cases hd
open SeqAt in
theorem kh {f:D->D->Option Bool}:∀{xs ys:List D}{b:Bool},jW f xs ys=θ b->xs.length=ys.length/\∃e:Nat->Bool,(∀j x y,xs[j]? = θ x->ys[j]? = θ y->f x y=θ (e j))/\b=(ρ xs.length).all e
 |[],[],b,h=>by cases h;exact⟨rfl,λ_=>ζ,λj x y hx=>by simp at hx,rfl⟩
 |x::xs,y::ys,b,h=>by
  simp only[jW,ah,ae] at h;obtain⟨a,h1,c,h2,rfl⟩:=h;obtain⟨hl,e,he,rfl⟩:=kh h2;refine⟨by simp[hl],λj=>match j with|0=>a|j+1=>e j,λj x' y' hx hy=>?_,?_⟩
  .cases j with
   |zero=>simp at hx hy;subst hx;subst hy;exact h1
   |succ j=>exact he j x' y' (by simpa using hx) (by simpa using hy)
  .rw[br,Ĕ,iw,ĕ];rfl
 |[],_::_,b,h=>by cases h
 |_::_,[],b,h=>by cases h
section
variable {pins:List (Addr×Obj)}{σ:L2.St}{H:Hp}{s:μ}
theorem wg (I:Inv X pins σ H s):∀(n:Nat) {d e:D}{v:V}{G G':List Addr}{b:Bool},Rep X.K H d v G->Rep X.K H e v G'->D.Mr n d e=θ b->b=ζ
 |0,_,_,_,_,_,_,_,_,h=>by cases h
 |n+1,d,e,v,G,G',b,r1,r2,h=>by
  have it:∀{xs ys:List D}{vs:List V}{g g':List Addr}{c:Bool},aF X.K H xs vs g->aF X.K H ys vs g'->jW (D.Mr n) xs ys=θ c->c=ζ:=λ{xs ys vs g g' c} a a' hc=>by
   obtain⟨hl,ee,he,rfl⟩:=kh hc;rw[bz];intro j hj;rw[pi] at hj;obtain⟨v1,g1,e1,p1,_⟩:=a.get (i:=j) (d:=xs[j]) (by simp[hj]);obtain⟨v2,g2,e2,p2,_⟩:=a'.get (i:=j) (d:=ys[j]) (by simp);rw[e1] at e2;cases e2;exact wg I n p1 p2 (he j _ _ (by simp[hj]) (by simp))
  cases d with
  |int a=>
   obtain⟨rfl,rfl⟩:=r1.int_inv;cases e with
   |int i=>obtain⟨z,rfl⟩:=r2.int_inv;cases z;cases h;exact gu _
   |_=>cases h
  |lst xs=>
   obtain⟨l,vs,g,rfl,rfl,a1,a2⟩:=r1.lst_inv;cases e with
   |lst ys=>
    obtain⟨m,ws,g',z,rfl,b1,b2⟩:=r2.lst_inv;cases z;obtain rfl:=I.Mt (.inl a1) (.inl b1);have h:(if xs.length=ys.length then jW (D.Mr n) xs ys else θ ε)=θ b:=h;rw[if_pos (a2.len.trans b2.len.symm)] at h;exact it a2 b2 h
   |_=>cases h
  |tup xs=>
   obtain⟨l,vs,rfl,a1,a2⟩:=r1.Mj;cases e with
   |tup ys=>
    obtain⟨m,ws,z,b1,b2⟩:=r2.Mj;cases z;obtain rfl:=I.MQ a1 b1;have h:(if xs.length=ys.length then jW (D.Mr n) xs ys else η)=θ b:=h;rw[if_pos (a2.len.trans b2.len.symm)] at h;exact it a2 b2 h
   |_=>cases h
  |_=>cases e<;>cases h
theorem CB (I:Inv X pins σ H s):∀(n:Nat) {x y d:D}{v:V}{G G':List Addr}{b c:Bool},Rep X.K H x v G->Rep X.K H y v G'->D.Mr n x d=θ b->D.Mr n y d=θ c->b=c
 |0,_,_,_,_,_,_,_,_,_,_,h,_=>by cases h
 |n+1,x,y,d,v,G,G',b,c,r1,r2,h,h'=>by
  have it:∀{xs ys ds:List D}{vs:List V}{g g':List Addr}{b c:Bool},aF X.K H xs vs g->aF X.K H ys vs g'->jW (D.Mr n) xs ds=θ b->jW (D.Mr n) ys ds=θ c->b=c:=λ{xs ys ds vs g g' b c} a a' hb hc=>by
   obtain⟨hl,ee,he,rfl⟩:=kh hb;obtain⟨Sj,ff,hf,rfl⟩:=kh hc;have q:∀j,j<xs.length->ee j=ff j:=λj hj=>by
    have VL:j<ys.length:=by omega
    have hd:j<ds.length:=by omega
    obtain⟨v1,g1,e1,p1,_⟩:=a.get (i:=j) (d:=xs[j]) (by simp[hj]);obtain⟨v2,g2,e2,p2,_⟩:=a'.get (i:=j) (d:=ys[j]) (by simp);rw[e1] at e2;cases e2;exact CB I n p1 p2 (he j _ ds[j] (by simp[hj]) (by simp)) (hf j _ ds[j] (by simp) (by simp))
   rw[show ys.length=xs.length by omega,fm,bz,bz];exact forall_congr' λj=>forall_congr' λhj=>by rw[q j (pi.mp hj)]
  cases x with
  |int a=>
   obtain⟨rfl,rfl⟩:=r1.int_inv;cases d with
   |int i=>
    cases y with
    |int k=>obtain⟨z,rfl⟩:=r2.int_inv;cases z;cases h;cases h';rfl
    |_=>cases h'
   |_=>cases h
  |lst xs=>
   obtain⟨l,vs,g,rfl,rfl,a1,a2⟩:=r1.lst_inv;cases d with
   |lst ds=>
    cases y with
    |lst ys=>
     obtain⟨m,ws,g',z,rfl,b1,b2⟩:=r2.lst_inv;cases z;obtain rfl:=I.Mt (.inl a1) (.inl b1);have h:(if xs.length=ds.length then jW (D.Mr n) xs ds else θ ε)=θ b:=h;have h':(if ys.length=ds.length then jW (D.Mr n) ys ds else θ ε)=θ c:=h';have e:=a2.len.trans b2.len.symm;by_cases hl:xs.length=ds.length
     .rw[if_pos hl] at h;rw[if_pos (e.symm.trans hl)] at h';exact it a2 b2 h h'
     .rw[if_neg hl] at h;rw[if_neg λz=>hl (e.trans z)] at h';cases h;cases h';rfl
    |_=>cases h'
   |_=>cases h
  |tup xs=>
   obtain⟨l,vs,rfl,a1,a2⟩:=r1.Mj;cases d with
   |tup ds=>
    cases y with
    |tup ys=>
     obtain⟨m,ws,z,b1,b2⟩:=r2.Mj;cases z;obtain rfl:=I.MQ a1 b1;have h:(if xs.length=ds.length then jW (D.Mr n) xs ds else η)=θ b:=h;have h':(if ys.length=ds.length then jW (D.Mr n) ys ds else η)=θ c:=h';by_cases hl:xs.length=ds.length
     .rw[if_pos hl] at h;rw[if_pos (b2.len.trans (a2.len.symm.trans hl))] at h';exact it a2 b2 h h'
     .rw[if_neg hl] at h;cases h
    |_=>cases h'
   |_=>cases h
  |_=>cases d<;>cases h
theorem uE {n:Nat}(f:∀(d e:D) (v w:V) (G G':List Addr) (u u':Value) (b:Bool),Rep X.K H d v G->Rep X.K H e w G'->RelV v u->RelV w u'->D.Mr n d e=θ b->Z7 A s u u' b){xs ys:List D}{vs ws:List V}{G1 G2:List Addr}{aH its':List Value}{c:Bool}(a1:aF X.K H xs vs G1)(a2:aF X.K H ys ws G2)(b1:aK vs aH)(b2:aK ws its')(hc:jW (D.Mr n) xs ys=θ c) :
  aH.toArray.size=its'.toArray.size/\∃ee:Nat->Bool,c=(ρ aH.toArray.size).all ee/\∀j (h1:j<aH.toArray.size) (h2:j<its'.toArray.size),Z7 A s aH.toArray[j] its'.toArray[j] (ee j):=by
 obtain⟨hl,ee,he,rfl⟩:=kh hc;have l1:=a1.len;have l2:=a2.len;have l3:=b1.length;have l4:=b2.length;have sz:aH.toArray.size=xs.length:=by rw[ak];omega
 refine⟨by rw[ak,ak];omega,ee,by rw[sz],λj h1 h2=>?_⟩;have j1:j<xs.length:=by rw[<-sz];exact h1
 have j2:j<ys.length:=by omega
 obtain⟨v1,g1,e1,p1,_⟩:=a1.get (i:=j) (d:=xs[j]) (by simp[j1]);obtain⟨v2,g2,e2,p2,_⟩:=a2.get (i:=j) (d:=ys[j]) (by simp[j2]);obtain⟨u1,f1,t1⟩:=b1.get e1;obtain⟨u2,f2,t2⟩:=b2.get e2;have x1:aH.toArray[j]=u1:=by
  have:=χ.mp f1;simpa using this.2
 have x2:its'.toArray[j]=u2:=by
  have:=χ.mp f2;simpa using this.2
 rw[x1,x2];exact f _ _ _ _ _ _ _ _ _ p1 p2 t1 t2 (he j _ _ (by simp[j1]) (by simp[j2]))
open SeqAt in
theorem xH (I:Inv X pins σ H s):∀(n:Nat) (A:Ρ) (d e:D) (v w:V) (G G':List Addr) (u u':Value) (b:Bool),A.units+n<cLine->Rep X.K H d v G->Rep X.K H e w G'->RelV v u->RelV w u'->D.Mr n d e=θ b->RcAt A s u u' b/\EqAt A s u u' b
 |0,_,_,_,_,_,_,_,_,_,_,_,_,_,_,_,h=>by cases h
 |n+1,A,d,e,v,w,G,G',u,u',b,hu,r1,r2,q1,q2,h=>by
  have Va:A.in1.units+n<cLine:=by show A.units+1+n<cLine;omega
  have QA:A.units<cLine:=by omega
  have items:=@uE X H s A.in1 n λd e v w G G' u u' b r1 r2 q1 q2 h=>(xH I n A.in1 d e v w G G' u u' b Va r1 r2 q1 q2 h).2
  have refs:∀{l m:Addr}{c:Bool},(l=m->c=ζ)->RcAt A s (.ref l) (.ref m) c->RcAt A s (.ref l) (.ref m) c/\EqAt A s (.ref l) (.ref m) c:=λ{l m c} hs hr=>⟨hr,by
   by_cases z:l=m
   .subst z;rw[hs rfl];exact EqAt.same _
   .exact EqAt.of_refs z hr⟩
  cases d with
  |Np _=>cases e<;>cases h
  |Mh=>cases e<;>cases h
  |bl _=>cases e<;>cases h
  |int a=>
   obtain⟨rfl,rfl⟩:=r1.int_inv;obtain⟨t0,rfl⟩:=q1;cases e with
   |int i=>obtain⟨rfl,rfl⟩:=r2.int_inv;obtain⟨t,rfl⟩:=q2;cases h;exact⟨RcAt.int_int a t0 i t,EqAt.int_int a t0 i t⟩
   |_=>cases h
  |lst xs=>
   obtain⟨l,vs,g,rfl,rfl,a1,a2⟩:=r1.lst_inv;cases q1;obtain⟨aH,rv,pl,_⟩:=I.list (.inl a1);cases e with
   |lst ys=>
    obtain⟨m,ws,g',rfl,rfl,b1,b2⟩:=r2.lst_inv;cases q2;obtain⟨its',Oc,OG,_⟩:=I.list (.inl b1);have same:l=m->b=ζ:=λz=>by
     subst z;exact wg I _ r1 r2 h
    have h:(if xs.length=ys.length then jW (D.Mr n) xs ys else θ ε)=θ b:=h;by_cases hl:xs.length=ys.length
    .rw[if_pos hl] at h;obtain⟨hz,ee,rfl,he⟩:=items a2 b2 rv Oc h;exact refs same (RcAt.lists pl.isList OG.isList hz QA he)
    .rw[if_neg hl] at h;cases h;have hz:(aH.toArray.size != its'.toArray.size)=ζ:=by
      have l1:=a2.len;have l2:=b2.len;have l3:=rv.length;have l4:=Oc.length;simp only[bne_iff_ne,ne_eq,ak];omega
     exact refs same (RcAt.lists_lengths pl.isList OG.isList hz QA)
   |_=>cases h
  |tup xs=>
   obtain⟨l,vs,rfl,a1,a2⟩:=r1.Mj;cases q1;obtain⟨aH,rv,pl,_⟩:=I.tuple a1;cases e with
   |tup ys=>
    obtain⟨m,ws,rfl,b1,b2⟩:=r2.Mj;cases q2;obtain⟨its',Oc,OG,_⟩:=I.tuple b1;have same:l=m->b=ζ:=λz=>by
     subst z;exact wg I _ r1 r2 h
    have h:(if xs.length=ys.length then jW (D.Mr n) xs ys else η)=θ b:=h;by_cases hl:xs.length=ys.length
    .rw[if_pos hl] at h;obtain⟨hz,ee,rfl,he⟩:=items a2 b2 rv Oc h;have q:=RcAt.tuples (e:=ee) pl OG QA he;rw[<-hz,e!,gu,ų] at q;exact refs same q
    .rw[if_neg hl] at h;cases h
   |_=>cases h
end
end
section
open PySem.SeqAt
open PySem.AutoSeq1 (wpAny_loadPart')
open PySem.MeetsSeq PySem.MeetsSeq2 PySem.MeetsSeq3
end
section
open PySem.SeqAt
open PySem.AutoSeq1 (wpAny_loadPart')
open PySem.MeetsSeq PySem.MeetsSeq2 PySem.MeetsSeq3
end
section
variable {X:Cx}{pins:List (Addr×Obj)}{σ:L2.St}{H:Hp}{s:μ}
end
section
variable {X:Cx}{pins:List (Addr×Obj)}{σ:L2.St}{H:Hp}{s:μ}
open SeqAt in
theorem Kq (I:Inv X pins σ H s)(n:Nat)(A:Ρ)(d e:D)(v w:V)(G G':List Addr)(u u':Value)(b:Bool)(hu:A.units+n<cLine)(r1:Rep X.K H d v G)(r2:Rep X.K H e w G')(q1:RelV v u)(q2:RelV w u')(h:D.Mr n d e=θ b):RcNeAt A s u u' (!b):=by
 cases n with
 |zero=>cases h
 |succ n=>
  have Va:A.in1.units+n<cLine:=by show A.units+1+n<cLine;omega
  have QA:A.units<cLine:=by omega
  have items:=@uE X H s A.in1 n λd e v w G G' u u' b r1 r2 q1 q2 h=>(xH I n A.in1 d e v w G G' u u' b Va r1 r2 q1 q2 h).2
  have RO:∀{ys:List D}{w:V}{g:List Addr}{u:Value},Rep X.K H (.lst ys) w g->RelV w u->∃m aH vs g',u=.ref m/\s.heap.IsList m aH.toArray/\aK vs aH/\aF X.K H ys vs g':=λ{ys w g u} r q=>by
   obtain⟨m,ws,g',rfl,rfl,a1,a2⟩:=r.lst_inv;cases q;obtain⟨aH,rv,pl,_⟩:=I.list (.inl a1);exact⟨m,aH,ws,g',rfl,pl.isList,rv,a2⟩
  have Rg:∀{ys:List D}{w:V}{g:List Addr}{u:Value},Rep X.K H (.tup ys) w g->RelV w u->∃m aH vs,u=.ref m/\s.heap.IsTuple m aH.toArray/\aK vs aH/\aF X.K H ys vs g:=λ{ys w g u} r q=>by
   obtain⟨m,ws,rfl,a1,a2⟩:=r.Mj;cases q;obtain⟨aH,rv,pl,_⟩:=I.tuple a1;exact⟨m,aH,ws,rfl,pl,rv,a2⟩
  cases d with
  |Np _=>cases e<;>cases h
  |Mh=>cases e<;>cases h
  |bl _=>cases e<;>cases h
  |int a=>
   obtain⟨rfl,rfl⟩:=r1.int_inv;obtain⟨t0,rfl⟩:=q1;cases e with
   |int i=>obtain⟨rfl,rfl⟩:=r2.int_inv;obtain⟨t,rfl⟩:=q2;cases h;exact RcNeAt.int_int a t0 i t
   |_=>cases h
  |lst xs=>
   obtain⟨l,aH,vs,g1,rfl,pl,rv,a2⟩:=RO r1 q1;cases e with
   |lst ys=>
    obtain⟨m,its',ws,g2,rfl,OG,Oc,b2⟩:=RO r2 q2;have h:(if xs.length=ys.length then jW (D.Mr n) xs ys else θ ε)=θ b:=h;by_cases hl:xs.length=ys.length
    .rw[if_pos hl] at h;obtain⟨hz,ee,rfl,he⟩:=items a2 b2 rv Oc h;exact RcNeAt.lists pl OG hz QA he
    .rw[if_neg hl] at h;cases h;have hz:(aH.toArray.size != its'.toArray.size)=ζ:=by
      have l1:=a2.len;have l2:=b2.len;have l3:=rv.length;have l4:=Oc.length;simp only[bne_iff_ne,ne_eq,ak];omega
     exact RcNeAt.lists_lengths pl OG hz QA
   |_=>cases h
  |tup xs=>
   obtain⟨l,aH,vs,rfl,pl,rv,a2⟩:=Rg r1 q1;cases e with
   |tup ys=>
    obtain⟨m,its',ws,rfl,OG,Oc,b2⟩:=Rg r2 q2;have h:(if xs.length=ys.length then jW (D.Mr n) xs ys else η)=θ b:=h;by_cases hl:xs.length=ys.length
    .rw[if_pos hl] at h;obtain⟨hz,ee,rfl,he⟩:=items a2 b2 rv Oc h;have q:=RcNeAt.tuples (e:=ee) pl OG QA he;rw[<-hz,e!,gu,ų] at q;exact q
    .rw[if_neg hl] at h;cases h
   |_=>cases h
end
variable {G':List Addr}
section
variable {X:Cx}
theorem oF (h:Rep K H d v G)(s:d.Mw=ζ):j6 v=ζ:=by
 cases h<;>simp_all [D.Mw,j6]
theorem mP:∀{ds:List D}{vs:List V}{G:List Addr},aF K H ds vs G->ds.all D.Mw=ζ->vs.all j6=ζ
 |_,_,_,.nil,_=>rfl
 |_,_,_,.cons h r,s=>by
  simp only[iw,ai] at s ⊢;exact⟨oF h s.1,mP r s.2⟩
theorem C6 {e:D}{w:V}(h:Rep K H d v G)(h':Rep K H e w G')(s:d.Mw=ζ)(s':e.Mw=ζ):C2 v w=D.QP d e:=by
 cases h<;>first | (cases s;done) | (cases h'<;>first | (cases s';done)|rfl|simp[C2,D.QP])
theorem vA {x:D}{w:V}{G0:List Addr}(hx:Rep K H x w G0)(sx:x.Mw=ζ):∀{ds:List D}{vs:List V}{G:List Addr},aF K H ds vs G->ds.all D.Mw=ζ->Tt w vs=ds.any λy=>D.QP y x
 |_,_,_,.nil,_=>rfl
 |_,_,_,.cons h r,s=>by
  simp only[iw,ai] at s;have ih:=vA hx sx r s.2;unfold Tt at ih ⊢;rw[jc,jc,ih,C6 h hx s.1 sx]
theorem qS {K:Frag}{H:Hp}:∀ks:List Int,aF K H (ks.map D.int) (ks.map V.int) []
 |[]=>.nil
 |k::ks=>.cons (G:=[]) (G':=[]) (.int k) (qS ks)
noncomputable def vV:Option Int->V
 |none=>.Mh
 |some i=>.int i
theorem EM:∀z:Option Int,Rep K H (T9 z) (vV z) []
 |none=>.Mh
 |some i=>.int i
theorem Ap (q:Key×Option Int)(kvs:List (Key×Option Int))(k:Key):zC (q::kvs) k=if q.1=k then θ q.2 else zC kvs k:=by
 unfold zC;rw[ř];by_cases h:q.1=k
 .rw[cu h,if_pos h];rfl
 .rw[cm h,if_neg h]
theorem sF (q:Key×Value)(kvs:List (Key×Value))(k:Key):ZB (q::kvs) k=if q.1=k then θ q.2 else ZB kvs k:=by
 unfold ZB;rw[ř];by_cases h:q.1=k
 .rw[cu h,if_pos h];rfl
 .rw[cm h,if_neg h]
theorem vJ.pairs {P:Program}{w:Ξ}:∀{es:List DictEntry}{kvs:List (Key×Option Int)},vJ es kvs->∃vs:List (Key×Value),Pairs (bX P w) es vs/\vs.map (·.1)=kvs.map (·.1) /\
  (∀k,(∀z,zC kvs k=θ z->∃u,RelV (vV z) u/\ZB vs k=θ u)/\(ZB vs k).isSome=(zC kvs k).isSome)/\(∀e∈es,∃k,(bX P w).is k e.key=ζ/\e.hash=(bX P w).hash k):=by
 have step:∀{e:DictEntry}{es:List DictEntry}{k:Key}{z:Option Int}{kvs:List (Key×Option Int)}{u:Value},(bX P w).is k e.key=ζ->e.hash=(bX P w).hash k->e.val=u->RelV (vV z) u ->
   (∃vs:List (Key×Value),Pairs (bX P w) es vs/\vs.map (·.1)=kvs.map (·.1)/\(∀k,(∀z,zC kvs k=θ z->∃u,RelV (vV z) u/\ZB vs k=θ u)/\(ZB vs k).isSome=(zC kvs k).isSome)/\(∀e∈es,∃k,(bX P w).is k e.key=ζ/\e.hash=(bX P w).hash k)) ->
   ∃vs:List (Key×Value),Pairs (bX P w) (e::es) vs/\vs.map (·.1)=((k,z)::kvs).map (·.1)/\(∀k',(∀z',zC ((k,z)::kvs) k'=θ z'->∃u,RelV (vV z') u/\ZB vs k'=θ u)/\(ZB vs k').isSome=(zC ((k,z)::kvs) k').isSome)/\(∀e'∈e::es,∃k,(bX P w).is k e'.key=ζ/\e'.hash=(bX P w).hash k):=by
  intro e es k z kvs u hk hh hv hr ⟨vs,p1,p2,p3,p4⟩;refine⟨(k,u)::vs,.cons hk hv p1,by rw[bo,bo,p2],λk'=>?_,λe' he=>?_⟩
  .rw[Ap,sF];by_cases h:k=k'
   .rw[if_pos h,if_pos h];exact⟨λz' q=>by cases q;exact⟨u,hr,rfl⟩,rfl⟩
   .rw[if_neg h,if_neg h];exact p3 k'
  .rcases dm.mp he with rfl|he
   .exact⟨k,hk,hh⟩
   .exact p4 e' he
 intro es kvs h
 induction h with
 |nil=>exact⟨[],.nil,rfl,λk=>⟨λz h=>(by cases h),rfl⟩,λ_ h=>(nomatch h)⟩
 |@cons e es k v kvs t u hh hk hv r ih=>exact step (by rw[hk];exact m7 P w k t) hh hv ⟨u,rfl⟩ ih
theorem IP {σ:L2.St}(hx:vX X.w X.K)(I:Inv X pins σ H s){p:Addr}{kvs:List (Key×Option Int)}(h:Kb X.K p kvs):∃vs,s.heap.DictOf (bX X.prog X.w) p vs /\
  (∀k,(∀z,zC kvs k=θ z->∃u,RelV (vV z) u/\ZB vs k=θ u)/\(ZB vs k).isSome=(zC kvs k).isSome):=by
 obtain⟨o,es,ep,h1,h2,h3,h4,h5⟩:=h;obtain⟨vs,p1,p2,p3,p4⟩:=h4.pairs (P:=X.prog) (w:=X.w);exact⟨vs,⟨o,es,ep,I.MX _ o h1,h2,h3,λe he=>p4 e (by simpa using he),p1,by rw[p2];exact h5⟩,p3⟩
theorem xb (op:Z2)(hx:X.A.units+40<cLine/\vX X.w X.K):lh X (Da op) (Eh X.K λx y=>(uv op x y).map .bl):=by
 have hu:=hx.1;intro pins s σ H x y v u Q I rx ry h;obtain⟨d1,d2,d,G,rs,hd,k⟩:=h;obtain⟨G1,G2,r1,r2,rfl⟩:=rs.inv2;rw[ae] at hd;obtain⟨b,hb,rfl⟩:=hd;have fin:Q (.bl b) H:=k _ H [] (.bl b) kC.nil;have ep:∀c,c=b->EP X pins σ Q (.bool c) s:=λc e=>⟨.bl b,H,I,by rw[e];rfl,fin⟩
 have OH:∀{f:Int->Int->Bool},(∀i j,uv op (.int i) (.int j)=θ (f i j))->(∀d1 d2,(∀i j,¬ (d1=.int i/\d2=.int j))->uv op d1 d2=η)->lh X (Da op) (yQ λi j=>.bl (f i j))->Β (Ζ X.prog X.w) X.A (Da op v u) (EP X pins σ Q) X.xe s:=by
  intro f h1 h2 ho;by_cases hi:∃i j,d1=.int i/\d2=.int j
  .obtain⟨i,j,rfl,rfl⟩:=hi;rw[h1] at hb;cases hb;obtain⟨rfl,rfl⟩:=r1.int_inv;obtain⟨rfl,rfl⟩:=r2.int_inv;exact ho pins s σ H _ _ v u Q I rx ry ⟨i,j,rfl,rfl,fin⟩
  .rw[h2 d1 d2 λi j z=>hi ⟨i,j,z⟩] at hb;cases hb
 have RB:∀(op:Z2),(op = .Gt\/op = .GtE)->∀d1 d2:D,(∀i j,¬ (d1=.int i/\d2=.int j))->uv op d1 d2=η:=by
  intro op ho d1 d2 hn;cases d1 with
  |int i=>
   cases d2 with
   |int j=>exact absurd ⟨rfl,rfl⟩ (hn i j)
   |_=>rcases ho with rfl|rfl<;>rfl
  |_=>rcases ho with rfl|rfl<;>rfl
 cases op with
 |Lt=>
  cases d1 with
  |int i=>
   cases d2 with
   |int j=>
    cases hb;obtain⟨rfl,rfl⟩:=r1.int_inv;obtain⟨rfl,rfl⟩:=r2.int_inv;exact Jp pins s σ H _ _ v u Q I rx ry ⟨i,j,rfl,rfl,fin⟩
   |_=>cases hb
  |_=>cases hb
 |LtE=>
  cases d1 with
  |int i=>
   cases d2 with
   |int j=>
    cases hb;obtain⟨rfl,rfl⟩:=r1.int_inv;obtain⟨rfl,rfl⟩:=r2.int_inv;exact Jt pins s σ H _ _ v u Q I rx ry ⟨i,j,rfl,rfl,fin⟩
   |_=>cases hb
  |_=>cases hb
 |Gt=>exact OH (λ_ _=>rfl) (RB .Gt (.inl rfl)) JQ
 |GtE=>exact OH (λ_ _=>rfl) (RB .GtE (.inr rfl)) Ki
 |Eq=>
  have hb:D.Mr 40 d1 d2=θ b:=hb;exact (xH I 40 X.A d1 d2 x y G1 G2 v u b hu r1 r2 rx ry hb).1 _ _ _ _ (ep b rfl)
 |NotEq=>
  have hb:(D.Mr 40 d1 d2).map (!·)=θ b:=hb;rw[ae] at hb;obtain⟨c,hc,rfl⟩:=hb;exact Kq I 40 X.A d1 d2 x y G1 G2 v u c hu r1 r2 rx ry hc _ _ _ _ (ep _ rfl)
 |Is=>cases hb
 |IsNot=>cases hb
 |In=>
  have hb:inD d1 d2=θ b:=hb;cases d2 with
  |lst ys=>
   have hb:(if d1.Mw&&ys.all D.Mw then θ (ys.any λy=>D.QP y d1) else η)=θ b:=hb;by_cases hc:(d1.Mw&&ys.all D.Mw)=ζ
   .rw[if_pos hc] at hb;cases hb;rw[ai] at hc;obtain⟨p,vs,g,rfl,rfl,a1,a2⟩:=r2.lst_inv;refine yG pins s σ H _ _ v u Q I rx ry ⟨p,vs,rfl,.inl (.inl a1),oF r1 hc.1,mP a2 hc.2,?_⟩;rw[vA r1 hc.1 a2 hc.2];exact fin
   .rw[if_neg hc] at hb;cases hb
  |_=>cases hb
 |NotIn=>
  have hb:(inD d1 d2).map (!·)=θ b:=hb;rw[ae] at hb;obtain⟨c,hi,rfl⟩:=hb;clear hb;cases d2 with
  |lst ys=>
   have hi:(if d1.Mw&&ys.all D.Mw then θ (ys.any λy=>D.QP y d1) else η)=θ c:=hi;by_cases hc:(d1.Mw&&ys.all D.Mw)=ζ
   .rw[if_pos hc] at hi;cases hi;rw[ai] at hc;obtain⟨p,vs,g,rfl,rfl,a1,a2⟩:=r2.lst_inv;refine sY pins s σ H _ _ v u Q I rx ry ⟨p,vs,rfl,.inl (.inl a1),oF r1 hc.1,mP a2 hc.2,?_⟩;rw[vA r1 hc.1 a2 hc.2];exact fin
   .rw[if_neg hc] at hi;cases hi
  |_=>cases hi
theorem BK (n:Nat)(i:Int):Pc.kH n i=L2.kH n i:=rfl
theorem Dt (hx:vX X.w X.K):EE X (Le X.K):=by
 intro value slice pins s σ H x y v u Q I rx ry h hs;obtain⟨d1,d2,d,G,rs,hd,k⟩:=h;obtain⟨G1,G2,r1,r2,rfl⟩:=rs.inv2;cases d2 with
 |int i=>
  obtain⟨rfl,rfl⟩:=r2.int_inv;rw[aw] at k;have seq:∀{xs:List D}{vs:List V}{g:List Addr},aF X.K H xs vs g->((kH xs.length i).bind λj=>xs[j]?)=θ d->∃w g',FA vs i=θ w/\Rep X.K H d w g'/\g'.Sublist g:=λ{xs vs g} r e=>by
   rw[ah] at e;obtain⟨j,e1,e2⟩:=e;obtain⟨w,g',a,b,c⟩:=r.get e2;refine⟨w,g',?_,b,c⟩;unfold FA;rw[<-r.len,<-BK,e1];exact a
  cases d1 with
  |lst xs=>
   obtain⟨p,vs,g,rfl,rfl,a1,a2⟩:=r1.lst_inv;obtain⟨w,g',e1,e2,e3⟩:=seq a2 hd;exact xO value slice pins s σ H _ _ v u Q I rx ry ⟨p,vs,i,w,rfl,rfl,.inl a1,e1,k w g' e2 (e3.trans (List.sublist_cons_self _ _))⟩ hs
  |tup xs=>
   obtain⟨p,vs,rfl,a1,a2⟩:=r1.Mj;obtain⟨w,g',e1,e2,e3⟩:=seq a2 hd;exact BH value slice pins s σ H _ _ v u Q I rx ry ⟨p,vs,i,w,rfl,rfl,a1,e1,k w g' e2 e3⟩ hs
  |Np kvs=>
   cases r1 with
   |Np hp=>
    have hd:(zC kvs (Z0 i)).map T9=θ d:=hd;rw[ae] at hd;obtain⟨z,hz,rfl⟩:=hd;cases rx;obtain⟨t,rfl⟩:=ry;obtain⟨vs,dd,p3⟩:=IP hx I hp;obtain⟨u',ru,hu⟩:=(p3 (.inl i)).1 z hz;have fin:EP X pins σ Q u' { s with toks:=s.toks+1 }:=⟨vV z,H,I.tok _,ru,k _ [] (EM z) (List.nil_sublist _)⟩;exact ZW (x:=u') dd.mapOf.typeIs slot_dict_getitem.lookup (wpAny_getItem_of (Q:=λr s'=>r=u'/\EP X pins σ Q r s') (m7 X.prog X.w i t) dd.mapOf hu ⟨rfl,fin⟩) hs
  |_=>cases hd
 |_=>cases d1<;>cases hd
end
variable {E:XK}{F:Nat->List Addr}{Q:VK}{e:Expr}{i:Nat}{x:Str}
section
variable {X:Cx}{T:Tb}{a b c:Expr}{ca cb cc:Ex}{pos:No}
theorem Hi (hN:X.N[i]? = θ x)(hv:yj X.env.scope x)(hd:(x==("__debug__" : Str))=ε) (MT:(x==("__classdict__" : Str))=ε):PE X (.Name x pos) (tE X.K T (.var i)):=by
 refine bJ (sH hN hv hd MT) λσ H Q ⟨P,env,F,re,p,Mb,k⟩=>?_
 unfold ev at Mb;cases hs:env[i]? with
 |none=>rw[hs] at Mb;cases Mb
 |some o=>
  cases o with
  |none=>rw[hs] at Mb;cases Mb
  |some q=>
   obtain⟨d,t⟩:=q;rw[hs] at Mb;cases Mb;obtain⟨v,e1,rp⟩:=re.val i d t hs;refine⟨v,e1,k v H (F i) (aG.refl _) rp ?_⟩;cases hf:d.flat with
   |true=>
    rw[rp.flat hf];exact bI.nil
   |false=>
    simp only[c9,if_false];have ow:be t=ζ->bI env F H (.mv [i]) H (F i):=λo=>by
     obtain⟨n1,n2,n3⟩:=re.one i d t hs o;refine⟨λa ha=>.inr ⟨i,d,t,ha,hs,λq hq=>by cases t<;>simp_all [bA,be,Rt.roots]⟩,λR e=>?_⟩;cases e;exact⟨n1,n2,λa ha=>.inr ⟨i,d,t,by simp,ha,hs,o⟩⟩
    cases t with
    |own=>exact ow rfl
    |lk=>exact ow rfl
    |sh R=>exact⟨λa ha=>.inr ⟨i,d,.sh R,ha,hs,λq hq=>hq⟩,λR' e=>by cases e⟩
theorem mq (h:PE X e (tC v))(hr:∀H,Rep X.K H d v []):PE X e (tE X.K T (.cst d)):=by
 refine bJ h λσ H Q ⟨P,env,F,re,p,Mb,k⟩=>?_
 unfold ev at Mb;cases Mb;exact k v H [] (aG.refl _) (hr H) bI.nil
theorem G9 (h:PE X e (tC v))(hr:∀H,Rep X.K H (T.gl i) v []):PE X e (tE X.K T (.NC i)):=by
 refine bJ h λσ H Q ⟨P,env,F,re,p,Mb,k⟩=>?_
 unfold ev at Mb;cases Mb;exact k v H [] (aG.refl _) (hr H) bI.nil
theorem He (ha:PE X a (tE X.K T ca)):PE X (.UnaryOp .USub a pos) (tE X.K T (.neg ca)):=by
 refine bJ (JJ Hx ha) λσ H Q ⟨P,env,F,re,p,Mb,k⟩=>?_
 unfold ev at Mb;obtain⟨q,h1,Mb⟩:=Rs.Ma Mb;refine⟨P,env,F,re,q,h1,λv H1 G s rp rt=>?_⟩;cases hq:q.1 with
 |int i=>
  rw[hq] at Mb rp;cases Mb;obtain⟨rfl,rfl⟩:=rp.int_inv;exact⟨i,rfl,k _ H1 [] s (.int _) bI.nil⟩
 |_=>rw[hq] at Mb;cases Mb
theorem Gp {op:Z2}(hu:X.A.units+40<cLine/\vX X.w X.K)(ha:PE X a (tE X.K T ca))(hb:PE X b (tE X.K T cb))(hm:xz op b=ε):PT X (.Compare a [op] [b] pos) (qF X.K T (.cmp op ca cb)):=by
 refine wA (D6 (xb op hu) ha hb hm) λσ H Q ⟨P,env,F,re,p0,bb,Mb,ht,k⟩=>?_
 unfold ev at Mb;obtain⟨p,h1,Mb⟩:=Rs.Ma Mb;obtain⟨q,h2,Mb⟩:=Rs.Ma Mb;obtain⟨d,h3,Mb⟩:=Rs.Ma Mb;have h3:=cJ h3;cases Mb;obtain rfl:d=bb:=dz ht;refine two re h1 h2 λx y H2 G ar=>⟨p.1,q.1,.bl d,G,ar.Mp,by simp[h3],λv H' G' rp nv=>?_⟩
 obtain⟨rfl,_⟩:=rp.MG;exact⟨d,rfl,k H' (ar.same.trans nv.same)⟩
variable {rest:List Expr}
theorem Iz (ha:PE X a (tE X.K T ca))(hb:PE X (.BoolOp .And (b::rest) pos) (tE X.K T cb)):PE X (.BoolOp .And (a::b::rest) pos) (tE X.K T (.and ca cb)):=by
 refine bJ (pC ha hb) λσ H Q ⟨P,env,F,re,p,Mb,k⟩=>?_
 unfold ev at Mb;obtain⟨q,h1,Mb⟩:=Rs.Ma Mb;refine⟨P,env,F,re,q,h1,λv H1 G s rp rt=>?_⟩;cases hq:q.1 with
 |bl kb=>
  rw[hq] at Mb rp;obtain⟨rfl,rfl⟩:=rp.MG;cases kb with
  |true=>exact⟨ζ,rfl,by rw[if_pos rfl];exact⟨P,env,F,re.same s,p,Mb,λv H' G s' Ov O8=>k v H' G (s.trans s') Ov (O8.back s)⟩⟩
  |false=>
   cases Mb;exact⟨ε,rfl,by rw[if_neg ay];exact k _ H1 [] s (.bl _) bI.nil⟩
 |_=>rw[hq] at Mb;cases Mb
theorem Kp (ha:PE X a (tE X.K T ca))(hb:PE X (.BoolOp .Or (b::rest) pos) (tE X.K T cb)):PE X (.BoolOp .Or (a::b::rest) pos) (tE X.K T (.or ca cb)):=by
 refine bJ (JR ha hb) λσ H Q ⟨P,env,F,re,p,Mb,k⟩=>?_
 unfold ev at Mb;obtain⟨q,h1,Mb⟩:=Rs.Ma Mb;refine⟨P,env,F,re,q,h1,λv H1 G s rp rt=>?_⟩;cases hq:q.1 with
 |bl kb=>
  rw[hq] at Mb rp;obtain⟨rfl,rfl⟩:=rp.MG;cases kb with
  |false=>exact⟨ε,rfl,by rw[if_neg ay];exact⟨P,env,F,re.same s,p,Mb,λv H' G s' Ov O8=>k v H' G (s.trans s') Ov (O8.back s)⟩⟩
  |true=>
   cases Mb;exact⟨ζ,rfl,by rw[if_pos rfl];exact k _ H1 [] s (.bl _) bI.nil⟩
 |_=>rw[hq] at Mb;cases Mb
theorem Gf (ha:PE X a (tE X.K T ca)):PE X (.UnaryOp .Not a pos) (tE X.K T (.not ca)):=by
 refine bJ (wJ ha) λσ H Q ⟨P,env,F,re,p,Mb,k⟩=>?_
 unfold ev at Mb;obtain⟨q,h1,Mb⟩:=Rs.Ma Mb;refine⟨P,env,F,re,q,h1,λv H1 G s rp rt=>?_⟩;cases hq:q.1 with
 |bl kb=>
  rw[hq] at Mb rp;obtain⟨rfl,rfl⟩:=rp.MG;cases Mb;exact⟨kb,rfl,k _ H1 [] s (.bl _) bI.nil⟩
 |_=>rw[hq] at Mb;cases Mb
theorem HC (ha:PT X a (qF X.K T ca))(hb:PW X (.BoolOp .And (b::rest) pos) (qF X.K T cb)):PW X (.BoolOp .And (a::b::rest) pos) (qF X.K T (.and ca cb)):=by
 intro wh pins s σ H Q I h;refine Ho ha hb wh pins s σ H Q I ?_;obtain⟨P,env,F,re,p,bb,Mb,ht,k⟩:=h;unfold ev at Mb;obtain⟨q,h1,Mb⟩:=Rs.Ma Mb;cases hq:q.1 with
 |bl kb=>
  rw[hq] at Mb;cases kb with
  |true=>exact⟨P,env,F,re,q,ζ,h1,by rw[hq];rfl,λH' s=>by show if ζ=ζ then _ else _;rw[if_pos rfl];exact⟨P,env,F,re.same s,p,bb,Mb,ht,λH2 s2=>k H2 (s.trans s2)⟩⟩
  |false=>
   cases Mb;cases ht;exact⟨P,env,F,re,q,ε,h1,by rw[hq];rfl,λH' s=>by show if ε=ζ then _ else _;rw[if_neg ay];exact k H' s⟩
 |_=>rw[hq] at Mb;cases Mb
theorem K8 (ha:PT X a (qF X.K T ca))(hb:PW X (.BoolOp .Or (b::rest) pos) (qF X.K T cb)):PW X (.BoolOp .Or (a::b::rest) pos) (qF X.K T (.or ca cb)):=by
 intro wh pins s σ H Q I h;refine Jv ha hb wh pins s σ H Q I ?_;obtain⟨P,env,F,re,p,bb,Mb,ht,k⟩:=h;unfold ev at Mb;obtain⟨q,h1,Mb⟩:=Rs.Ma Mb;cases hq:q.1 with
 |bl kb=>
  rw[hq] at Mb;cases kb with
  |false=>exact⟨P,env,F,re,q,ε,h1,by rw[hq];rfl,λH' s=>by show if ε=ζ then _ else _;rw[if_neg ay];exact⟨P,env,F,re.same s,p,bb,Mb,ht,λH2 s2=>k H2 (s.trans s2)⟩⟩
  |true=>
   cases Mb;cases ht;exact⟨P,env,F,re,q,ζ,h1,by rw[hq];rfl,λH' s=>by show if ζ=ζ then _ else _;rw[if_pos rfl];exact k H' s⟩
 |_=>rw[hq] at Mb;cases Mb
theorem IW (ha:PT X a (qF X.K T ca)):PT X (.UnaryOp .Not a pos) (qF X.K T (.not ca)):=by
 refine wA (IG ha) λσ H Q ⟨P,env,F,re,p,bb,Mb,ht,k⟩=>?_
 unfold ev at Mb;obtain⟨q,h1,Mb⟩:=Rs.Ma Mb;cases hq:q.1 with
 |bl kb=>
  rw[hq] at Mb;cases Mb;cases ht;exact⟨P,env,F,re,q,kb,h1,by rw[hq];rfl,λH' s=>k H' s⟩
 |_=>rw[hq] at Mb;cases Mb
theorem Ei {b:Bool}(rp:Rep K H d v G)(h:truth d=θ b):IH K v H b:=by
 cases rp with
 |Np _=>cases h
 |Mh=>cases h;rfl
 |bl c=>cases h;rfl
 |int i=>cases h;rfl
 |lst a r=>
  rename_i vs ds g;cases h;refine .inl ⟨vs,.inl a,?_⟩;have:=r.len;cases ds<;>cases vs<;>simp_all
 |tup a r=>
  rename_i vs ds;cases h;refine .inr (.inl ⟨vs,a.sq,?_⟩);have:=r.len;cases ds<;>cases vs<;>simp_all
theorem dE (h:PE X e (tE X.K T ca))(he:∀whole,isTrue e X.env whole=(do let v <- whole;ż e.pos;Ç [v] (l? v))):PT X e (qF X.K T ca):=by
 refine wA (BV h he) λσ H Q ⟨P,env,F,re,p,bb,Mb,ht,k⟩=>?_
 exact⟨P,env,F,re,p,Mb,λv H' G s rp rt=>⟨bb,Ei rp ht,k H' s⟩⟩
theorem Jd (hc:PT X c (qF X.K T cc))(ha:PE X a (tE X.K T ca))(hb:PE X b (tE X.K T cb)):PE X (.IfExp c a b pos) (tE X.K T (.ite cc ca cb)):=by
 refine bJ (BU hc ha hb) λσ H Q ⟨P,env,F,re,p,Mb,k⟩=>?_
 unfold ev at Mb;obtain⟨q,h1,Mb⟩:=Rs.Ma Mb;obtain⟨kb,h2,Mb⟩:=Rs.Ma Mb;refine⟨P,env,F,re,q,kb,h1,cJ h2,λH' s=>?_⟩;cases kb with
 |true=>rw[if_pos rfl];exact⟨P,env,F,re.same s,p,Mb,λv H2 G s' Ov O8=>k v H2 G (s.trans s') Ov (O8.back s)⟩
 |false=>rw[if_neg ay];exact⟨P,env,F,re.same s,p,Mb,λv H2 G s' Ov O8=>k v H2 G (s.trans s') Ov (O8.back s)⟩
variable {es:List Expr}{cs:kE}
theorem vx:PA X [] (tF X.K T .nil):=by
 refine Bn cY λσ H Q ⟨P,env,F,re,l,Mb,k⟩=>?_
 unfold aR at Mb;cases Mb;exact k [] H [] (.nil (aG.refl _))
theorem nQ (ha:PE X a (tE X.K T ca))(hr:PA X es (tF X.K T cs))(hs:Ι (a::es) X.env=(ε,eval a X.env)::Ι es X.env):PA X (a::es) (tF X.K T (.cons ca cs)):=by
 refine Bn (aM ha hr hs) λσ H Q ⟨P,env,F,re,l,Mb,k⟩=>?_
 unfold aR at Mb;obtain⟨p,h1,Mb⟩:=Rs.Ma Mb;obtain⟨q,h2,Mb⟩:=Rs.Ma Mb;cases Mb;exact⟨P,env,F,re,p,h1,λv H1 G s rp rt=>⟨P,env,F,re.same s,q,h2,λvs H2 G' ar=>k (v::vs) H2 _ (.cons s rp rt ar)⟩⟩
theorem bI.QT {env:En}{H1:Hp}{r:Rt}{p:Addr}(h:bI env F H r H1 G)(e:aG H H1)(hp:H1 p=η)(hl:∀a∈G,H1 a≠η):bI env F H r (upd H1 p (.lst vs)) (p::G) where
 cont:=λa ha=>by
  rcases dm.mp ha with rfl|ha
  .exact .inl (aG.no e hp)
  .exact h.cont a ha
 mv:=λR hr=>by
  obtain⟨a,b,c⟩:=h.mv R hr;refine⟨jy.mpr ⟨λz=>hl p z hp,a⟩,λx hx=>?_,λx hx=>?_⟩
  .rcases dm.mp hx with rfl|hx
   .exact⟨.l _,aZ⟩
   .obtain⟨ws,q⟩:=b x hx;exact⟨ws,aG.new hp _ _ q⟩
  .rcases dm.mp hx with rfl|hx
   .exact .inl (aG.no e hp)
   .exact c x hx
theorem Hl (h:PA X es (tF X.K T cs)):PE X (.List es pos) (tE X.K T (.lst cs)):=by
 refine bJ (GY h) λσ H Q ⟨P,env,F,re,p,Mb,k⟩=>?_
 unfold ev at Mb;obtain⟨l,h1,Mb⟩:=Rs.Ma Mb;by_cases hl:l.length<=lim
 .rw[if_pos hl] at Mb;cases Mb;refine⟨P,env,F,re,l,h1,λvs H1 G ar=>?_⟩;have rs:=ar.Mp;have hlen:=rs.len;rw[aj] at hlen;refine⟨by rw[<-hlen];exact sC hl,λq hq=>?_⟩;have e:=aG.new (o:=.lst vs) hq;exact k _ _ (q::G) (ar.same.trans e) (.lst (.inl aZ) (rs.same e)) ((ar.comb re).QT ar.same hq λa ha=>rs.nn ha)
 .rw[if_neg hl] at Mb;cases Mb
theorem Ig {x1:Nat}(h:PA X es (tF X.K T cs)):PE X (.Tuple es x1 pos) (tE X.K T (.tup cs)):=by
 refine bJ (vq h) λσ H Q ⟨P,env,F,re,p,Mb,k⟩=>?_
 unfold ev at Mb;obtain⟨l,h1,Mb⟩:=Rs.Ma Mb;by_cases hl:l.length<=lim
 .rw[if_pos hl] at Mb;cases Mb;refine⟨P,env,F,re,l,h1,λvs H1 G ar=>?_⟩;have rs:=ar.Mp;have hlen:=rs.len;rw[aj] at hlen;refine⟨by rw[<-hlen];exact sC hl,λq hq=>?_⟩;have e:=aG.new (o:=.tup vs) hq;exact k _ _ G (ar.same.trans e) (.tup (.inl aZ) (rs.same e)) ((ar.comb re).later e)
 .rw[if_neg hl] at Mb;cases Mb
def Dr (K:Frag)(n:Nat)(f:List D->Rs (D×Bool)):Sp:=λvs H Q E=>∃ds G,ds.length=n/\aF K H ds vs G/\∃r,f ds=.ok r/\∀v H' G',aG H H'->Rep K H' r.1 v G'->(∀a∈G',H a=η\/a∈G)->(r.2=ζ->G'.Nodup/\∀a∈G',H a=η/\∃vs:ML,H' a=θ vs.o)->Q v H'
theorem sU {f:List D->Rs (D×Bool)}(h:Dr K n f vs H Q E):vs.length=n:=by
 obtain⟨ds,G,h1,h2,_⟩:=h;rw[<-h1,h2.len]
theorem qG {f:Nat}{σ:L2.St}(hn:∀ds r,T.cl f ds=.ok r->ds.length=n)(h:tE X.K T (.call f cs) σ H Q):AI (Dr X.K n (T.cl f)) [] E0 (tF X.K T cs) σ H Q:=by
 obtain⟨P,env,F,re,p,Mb,k⟩:=h;unfold ev at Mb;obtain⟨l,h1,Mb⟩:=Rs.Ma Mb;obtain⟨r,h2,Mb⟩:=Rs.Ma Mb;cases Mb;refine⟨P,env,F,re,l,h1,λvs H1 G ar=>?_⟩;show Dr X.K n (T.cl f) (vs ++ []) H1 Q E0;rw[aw];refine⟨l.map (·.1),G,hn _ _ h2,ar.Mp,r,h2,λv H' G' s rp sub fr=>k v H' G' (ar.same.trans s) rp ?_⟩;cases hr:r.2 with
 |true=>
  obtain⟨a,b⟩:=fr hr;have c:∀x∈G',H x=η:=λx hx=>aG.no ar.same (b x hx).1
  exact⟨λx hx=>.inl (c x hx),λR e=>⟨a,λx hx=>(b x hx).2,λx hx=>.inl (c x hx)⟩⟩
 |false=>
  refine⟨λx hx=>?_,λR e=>by cases e⟩;rcases sub x hx with q|q
  .exact .inl (aG.no ar.same q)
  .exact ar.cont x q
end
def rL (K:Frag)(b:El):List V->Hp->VK->Prop:=λxs H Q=>∃ds d G,aF K H ds xs G/\lK b ds=θ d/\∀v H' G',Rep K H' d v G'->kC H H' G d G'->Q v H'
variable {cs:kE}{us:List Value}
section
variable {X:Cx}{T:Tb}
theorem uz {b:El}{σ:L2.St}(h:tE X.K T (.blt b cs) σ H Q):G8 (rL X.K b) (tF X.K T cs) σ H Q:=by
 obtain⟨P,env,F,re,p,Mb,k⟩:=h;unfold ev at Mb;obtain⟨l,h1,Mb⟩:=Rs.Ma Mb;obtain⟨d,h2,Mb⟩:=Rs.Ma Mb;cases Mb;exact⟨P,env,F,re,l,h1,λvs H1 G ar=>⟨l.map (·.1),d,G,ar.Mp,cJ h2,λv H' G' rp nv=>k v H' G' (ar.same.trans nv.same) rp (bI.new ar nv λ_ z=>z)⟩⟩
theorem aF.NQ (h:aF K H [d] xs G):∃x,xs=[x]/\Rep K H d x G:=by
 cases h with
 |cons r s=>cases s;exact⟨_,rfl,by rw[aw];exact r⟩
theorem zo:gY X (.builtin "len") (rL X.K .len):=by
 intro pins s σ H xs us Q I r h;obtain⟨ds,d,G,rs,hd,k⟩:=h
 match ds,hd with
 |[.lst ys],hd=>
  cases hd;obtain⟨x,rfl,rp⟩:=rs.NQ;obtain⟨p,vs,g,rfl,rfl,a1,a2⟩:=rp.lst_inv;exact lU pins s σ H _ us Q I r ⟨p,vs,rfl,.inl (.inl a1),by rw[<-a2.len];exact k _ H [] (.int _) kC.nil⟩
 |[.tup ys],hd=>
  cases hd;obtain⟨x,rfl,rp⟩:=rs.NQ;obtain⟨p,vs,rfl,a1,a2⟩:=rp.Mj;exact lU pins s σ H _ us Q I r ⟨p,vs,rfl,.inr a1,by rw[<-a2.len];exact k _ H [] (.int _) kC.nil⟩
theorem t9 {σ:L2.St}(I:Inv X pins σ H s)(r:aK xs us)(rs:aF X.K H ds xs G)(hd:lK .list ds=θ d)(k:∀v H' G',Rep X.K H' d v G'->kC H H' G d G'->Q v H'):Β (Ζ X.prog X.w) X.A (call (.type "list") us) (EP X pins σ Q) X.xe s:=by
 match ds,hd with
 |[.lst ys],hd=>
  cases hd;obtain⟨x,rfl,rp⟩:=rs.NQ;obtain⟨p,vs,g,rfl,rfl,a1,a2⟩:=rp.lst_inv;refine lN pins s σ H _ us Q I r ⟨p,vs,rfl,.inl (.inl a1),λl hl=>?_⟩;obtain⟨n1,n2⟩:=k7 (G0:=p::g) a2 (λa ha=>aa _ ha) hl;exact k _ _ _ n1 n2
 |[.tup ys],hd=>
  cases hd;obtain⟨x,rfl,rp⟩:=rs.NQ;obtain⟨p,vs,rfl,a1,a2⟩:=rp.Mj;refine lN pins s σ H _ us Q I r ⟨p,vs,rfl,.inr a1,λl hl=>?_⟩;obtain⟨n1,n2⟩:=k7 (G0:=G) a2 (λa ha=>ha) hl;exact k _ _ _ n1 n2
end
def mH (K:Frag)(P:Addr->Prop)(H0:Hp)(J:It)(ds:List D)(G:List Addr):Prop:=∀H,jV P H0 H->(∀(i:Nat) (d:D),ds[i]? = θ d->J.go i H/\∀x H',J.Q9 i H x H'->aG H H'/\∃G',Rep K H' d x G'/\∀a∈G',a∈G)/\J.stop ds.length H
noncomputable def tI (K:Frag)(T:Tb)(it:qc):TI:=λσ H R=>∃P env F,RE K P env σ H F/\∃p,iL T it env=.ok p/\∀J H' G,aG H H'->bI env F H (.sh p.2) H' G->(∀a∈G,H' a≠η)->(∀P',(∀a∈G,P' a)->mH K P' H' J p.1 G)->R J H'
variable {H0:Hp}
theorem y9 {P:Addr->Prop}{p:Addr}(h1:Rd H0 p (.lst vs))(h2:aF K H0 ds vs G)(hp:∀a∈p::G,P a):mH K P H0 (XE K p) ds (p::G):=λH e=>by
 have ep:=e.keep p (hp p ag);have Ni:Rd H p (.lst vs):=by
  rcases h1 with q|⟨o,q⟩
  .exact .inl (ep.trans q)
  .exact .inr ⟨o,ep.trans q⟩
 have MU:=e.Mp h2 λa ha=>hp a (aa _ ha)
 refine⟨λi d hd=>?_,⟨vs,.inl Ni,by rw[h2.len];exact au _⟩⟩;obtain⟨v,G',a,b,c⟩:=MU.get hd;refine⟨⟨vs,v,.inl Ni,a⟩,λx H' ⟨e1,e2⟩=>?_⟩;subst e1;have:=e2 vs (.inl Ni);rw[a] at this;cases this;exact⟨aG.refl _,G',b,λz hz=>aa _ (c.subset hz)⟩
theorem B6 {P:Addr->Prop}{p:Addr}(h1:sL K H0 p vs)(h2:aF K H0 ds vs G)(hp:∀a∈G,P a):mH K P H0 (XD K p) ds G:=λH e=>by
 have Ni:=e.QW h1;have MU:=e.Mp h2 hp;refine⟨λi d hd=>?_,⟨vs,Ni.sq,by rw[h2.len];exact au _⟩⟩;obtain⟨v,G',a,b,c⟩:=MU.get hd;refine⟨⟨vs,v,Ni.sq,a⟩,λx H' ⟨e1,e2⟩=>?_⟩;subst e1;have:=e2 vs Ni.sq;rw[a] at this;cases this;exact⟨aG.refl _,G',b,λz hz=>c.subset hz⟩
noncomputable def T1 (xs:List V):It:=⟨λi _=>i<xs.length,λi H x H'=>H'=H/\xs[i]? = θ x,λi _=>xs.length<=i⟩
theorem zj {P:Addr->Prop}(hr:∀H,aF K H ds vs []):mH K P H0 (T1 vs) ds []:=λH e=>by
 have hl:=(hr H).len;refine⟨λi d hd=>?_,by show vs.length<=ds.length;omega⟩;obtain⟨v,G',a,b,c⟩:=(hr H).get hd;refine⟨by show i<vs.length;rw[<-hl];exact (χ.mp hd).1,λx H' ⟨e1,e2⟩=>?_⟩;subst e1;rw[a] at e2;cases e2;exact⟨aG.refl _,G',b,λz hz=>c.subset hz⟩
variable {P:Program}{tg:Expr}{w:Ξ}
theorem y6 {it:Addr}{Pv:Nat->Value->Prop}{St:Nat->Heap->Prop}(W:∀A:Ρ,A.handled=η->B! P w A it [it] [it] xs.length Pv St)(hP:∀i v,Pv i v->∃x,xs[i]? = θ x/\RelV x v)
  (ob:∀i h,St i h->∃o n vs,h.get? it=θ o/\o.cls=.type n/\o.data=.fields vs/\["enumerate","zip","dict_itemiterator","dict_reverseitemiterator","odict_iterator","itertools.zip_longest","itertools.pairwise"].contains n=ε)
  (fr:∀i h h',St i h->(∀o,h.get? it=θ o->h'.get? it=θ o)->St i h') (le:∀i h,St i h->i<=xs.length) (slf:∀(A:Ρ) (i:Nat) (s:μ) (Q E:Value->μ->Prop),St i s.heap->Q (.ref it) s->Β (Ζ P w) A (ĝ (.ref it)) Q E s):Turn P w K tg (T1 xs) [it] it St where
 mem:=by simp
 obj:=λi h st b hb=>by
  have e:b=it:=by simpa using hb
  subst e;obtain⟨o,n,vs,h1,h2,h3,_⟩:=ob i h st;exact⟨o,h1,λv z=>by rw[h3] at z;cases z⟩
 keep:=λi h h' st k=>fr i h h' st λo e=>k it (by simp) o e
 item:=by
  intro X hp hw hK hc i pins s σ H E I hf st hg;subst hp hw hK;obtain⟨f0,f1,f2,f3,f4,f5⟩:=hf it (by simp);refine (W X.A (I.ok.hd hc)).item i s _ _ hg st λv h' tk hv NP kk=>?_
  obtain⟨x,ex,rx⟩:=hP i v hv;have I1:Inv X pins σ H { s with heap:=h',toks:=tk }:=I.turned (λb o hb e=>kk b o (by simpa using hb) e) f0 f1 f3 f4 f5;obtain⟨o,n,vs,h1,h2,h3,h4⟩:=ob (i+1) h' NP;exact⟨v,rfl,Ak (s:={ s with heap:=h',toks:=tk }) (n:=n) h1 h2 h3 h4 ⟨x,H,I1,rx,⟨rfl,ex⟩,NP,λb hb=>(hf b hb).1⟩⟩
 done:=by
  intro X hp hw hK hc i pins s σ H E I hf st hg;subst hp hw hK;obtain⟨f0,f1,f2,f3,f4,f5⟩:=hf it (by simp);have hi:i=xs.length:=Nat.le_antisymm (le i _ st) hg;subst hi;exact (W X.A (I.ok.hd hc)).done s _ _ st λh' tk kk=>⟨rfl,I.turned (λb o hb e=>kk b o (by simpa using hb) e) f0 f1 f3 f4 f5⟩
 self:=λA i s Q E st h=>slf A i s Q E st h
noncomputable def dU (a c:Int)(n:Nat):List V:=(ρ n).map λ(i:Nat)=>.int (a+(i:Int)*c)
theorem kW (a c:Int)(n:Nat):(dU a c n).length=n:=by simp[dU]
theorem k6 {K:Frag}{H:Hp}(c:Int):∀(n:Nat) (a:Int),aF K H (dZ a c n) (dU a c n) []
 |0,a=>.nil
 |n+1,a=>by
  have e:dU a c (n+1)=.int a::dU (a+c) c n:=by
   unfold dU;rw[Ĕ,bo,bh];congr 1
   .simp
   .refine du λi _=>?_
    refine dg V.int ?_;simp only[Nat.succ_eq_add_one]
    push_cast
    rw[Int.add_mul];omega
  rw[e];show aF K H (.int a::dZ (a+c) c n) _ ([] ++ []);exact .cons (.int a) (k6 c n (a+c))
theorem me (a b c:Int)(hc:c≠0):0<=im a b c:=by
 unfold im;split
 .rename_i h;split
  .have:0<=(b-a-1) / c:=Ŧ (by omega) (by omega);omega
  .omega
 .split
  .have:0<=(a-b-1) / (-c):=Ŧ (by omega) (by omega);omega
  .omega
theorem uj {a b c:Int}(ha:mK a=ζ)(hb:mK b=ζ)(hc:c≠0)(hs:c.natAbs<1073741824):Å a b c=ζ:=by
 unfold mK at ha hb;have ha:=az ha;have hb:=az hb;have hn:=me a b c hc;have hu:im a b c<2 ^ 63:=by
  unfold im;split
  .split
   .have:=Ś (b:=c) (a:=b-a-1) (by omega);omega
   .decide
  .split
   .have:=Ś (b:=-c) (a:=a-b-1) (by omega);omega
   .decide
 unfold Å;simp only[e?,ai,gm,decide_eq_true_eq,beq_iff_eq];refine⟨⟨⟨⟨⟨by omega,by omega⟩,by omega,by omega⟩,by omega,by omega⟩,by omega,hu⟩,.inr ?_⟩;split<;>simp only[ai,decide_eq_true_eq]<;>omega
variable {hi lo:Int}{tk:Nat}{u:Þ}
section
variable {X:Cx}{tg:Expr}
theorem qp {σ:L2.St}{R:It->Hp->Prop}{E:Value->μ->Prop}{c:Int}{t v:Þ}(I:Inv X pins σ H s)(h1:mK lo=ζ)(h2:mK hi=ζ)(h3:c≠0)(h4:c.natAbs<1073741824)
  (q:R (T1 (dU lo c (im lo hi c).toNat)) H):Β (Ζ X.prog X.w) X.A (ĝ (.ref s.heap.objs.size)) (TX X pins σ tg R) E { s with heap:=s.heap.push { cls:=.type "range",data:=.fields #[.int lo t,.int hi u,.int c v] },toks:=tk }:=by
 refine wpAny_pyIter_range (ŧ ..) (uj h1 h2 h3 h4) ?_;have I1:Inv X pins σ H { s with heap:=s.heap.push { cls:=.type "range",data:=.fields #[.int lo t,.int hi u,.int c v] },toks:=tk }:=I.kept λb o e=>τ _ e
 have hn:=me lo hi c h3;let n:=(im lo hi c).toNat;refine⟨(s.heap.push { cls:=.type "range",data:=.fields #[.int lo t,.int hi u,.int c v] }).objs.size,[(s.heap.push { cls:=.type "range",data:=.fields #[.int lo t,.int hi u,.int c v] }).objs.size],
  (λi h=>i<=n/\IsRangeIter h (s.heap.push { cls:=.type "range",data:=.fields #[.int lo t,.int hi u,.int c v] }).objs.size (lo+(i:Nat)*c) ((n:Int)-(i:Nat)) c),_,H,rfl,
  I1.kept (t':=tk) λb o e=>τ _ e,y6 (Pv:=λi v=>i<n/\∃t,v=.int (lo+i*c) t) (λA hA=>?_) (λi v hv=>?_) (λi h st=>?_) (λi h h' st k=>⟨st.1,k _ st.2⟩) (λi h st=>by rw[kW];exact st.1) (λA i s Q E st h=>wpAny_pyIter_rangeiter st.2 h),?_,λb hb=>?_,q⟩
 .rw[kW];have W:=Walks.range (prog:=X.prog) (w:=X.w) hA (s.heap.push { cls:=.type "range",data:=.fields #[.int lo t,.int hi u,.int c v] }).objs.size lo c n;exact⟨W.sub,λi h h' st k=>⟨st.1,W.frame i h h' st.2 k⟩,λi s Q E hi st hQ=>W.item i s Q E hi st.2 λv h' tk hv NP kk=>hQ v h' tk ⟨hi,hv⟩ ⟨hi,NP⟩ kk,λs Q E st hQ=>W.done s Q E st.2 hQ,λi s Q E st h=>W.self i s Q E st.2 h⟩
 .obtain⟨Oj,t',rfl⟩:=hv;exact⟨.int (lo+i*c),by unfold dU;rw[π,sw Oj];rfl,t',rfl⟩
 .exact⟨_,_,_,st.2,rfl,rfl,by decide⟩
 .refine⟨dh _,?_⟩;have e1:lo+((0:Nat):Int)*c=lo:=by simp
  have e2:((n:Nat):Int)-((0:Nat):Int)=im lo hi c:=by omega
  rw[e1,e2];exact Υ _ rfl
 .have e:b=(s.heap.push { cls:=.type "range",data:=.fields #[.int lo t,.int hi u,.int c v] }).objs.size:=by simpa using hb
  subst e;exact I1.ND (au _) (I1.Mc.fresh (au _))
end
variable {a:Addr}{c:Ex}{es:List Expr}{it:qc}{p pos:No}
section
variable {X:Cx}{tg:Expr}{T:Tb}{pins:List (Addr×Obj)}{σ:L2.St}{H:Hp}{s:μ}{R:It->Hp->Prop}{E:Value->μ->Prop}
theorem De (I:Inv X pins σ H s)(hq:mh X.K H a xs)(q:R (XE X.K a) H):Β (Ζ X.prog X.w) X.A (ĝ (.ref a)) (TX X pins σ tg R) E s:=by
 obtain⟨aH,rv,p,hz⟩:=I.list hq;refine ZJ p.isList ?_;refine⟨s.heap.objs.size,[s.heap.objs.size],_,_,H,rfl,I.kept (t':=s.toks) λb o e=>τ _ e,y8 a _,⟨_,Υ _ rfl,rfl,rfl⟩,λb hb=>?_,q⟩;have e:b=s.heap.objs.size:=by simpa using hb
 subst e;exact I.ND (au _) (I.Mc.fresh (au _))
theorem A8 (I:Inv X pins σ H s)(hq:qJ X.K H a xs)(q:R (XD X.K a) H):Β (Ζ X.prog X.w) X.A (ĝ (.ref a)) (TX X pins σ tg R) E s:=by
 obtain⟨aH,rv,p,hz⟩:=I.tuple hq;refine wpAny_pyIter_tuple (show s.heap.IsTuple a aH.toArray from p) ?_;refine⟨s.heap.objs.size,[s.heap.objs.size],_,_,H,rfl,I.kept (t':=s.toks) λb o e=>τ _ e,wm a _,⟨_,Υ _ rfl,rfl,rfl⟩,λb hb=>?_,q⟩;have e:b=s.heap.objs.size:=by simpa using hb
 subst e;exact I.ND (au _) (I.Mc.fresh (au _))
theorem AE (h:PE X e (tE X.K T c)):PI X tg e (tI X.K T (.seq c)):=by
 intro pins s σ H R I hq;obtain⟨P,env,F,re,p,Mb,k⟩:=hq;unfold iL at Mb;obtain⟨q,h1,Mb⟩:=Rs.Ma Mb;obtain⟨l,h2,Mb⟩:=Rs.Ma Mb;have h2:=cJ h2;cases Mb;refine cI (h pins s σ H (λv H'=>∃G,aG H H'/\Rep X.K H' q.1 v G/\bI env F H q.2 H' G) I ⟨P,env,F,re,q,h1,λv H' G s rp rt=>⟨G,s,rp,rt⟩⟩) λu s1 ⟨v,H1,I1,r1,G,e,rp,rt⟩=>?_
 have O8:bI env F H (.sh q.2.roots) H1 G:=rt.part (λ_ h=>h) (λ_ h=>h) λR e=>by cases e
 cases hd:q.1 with
 |lst xs=>
  rw[hd] at rp h2;cases h2;obtain⟨a,vs,g,rfl,rfl,a1,a2⟩:=rp.lst_inv;cases r1;exact De I1 (.inl a1) (k _ H1 (a::g) e O8 (λb hb=>rp.nn hb) λP' hP=>y9 a1 a2 hP)
 |tup xs=>
  rw[hd] at rp h2;cases h2;obtain⟨a,vs,rfl,a1,a2⟩:=rp.OC;cases r1;exact A8 I1 a1.sq (k _ H1 G e O8 (λb hb=>rp.nn hb) λP' hP=>B6 a1 a2 hP)
 |_=>rw[hd] at h2;cases h2
theorem m9 (a b:Int):(im a b 1).toNat=(b-a).toNat:=by
 rw[v?];split<;>omega
theorem GN {e0:Expr}{rest:List Expr}(Sn:es=e0::rest)(hg:Gl X "range") (hm:X.mg "range" = η) (ha:PA X es (tF X.K T cs)) (hs:Ι es X.env=(ε,eval e0 X.env)::Ι rest X.env) (MP:(Pi pos (Ι rest X.env)).any (·.1)=ε)
  (hit:∀env p,iL T it env=.ok p->p.2=[]/\∃l,aR T cs env=.ok l/\((∃j,l.map (·.1)=[.int j]/\mK j=ζ/\p.1=dZ 0 1 j.toNat)\/(∃i j,l.map (·.1)=[.int i,.int j]/\mK i=ζ/\mK j=ζ/\p.1=dZ i 1 (j-i).toNat))) :
  PI X tg (.Call (.Name "range" p) es [] pos) (tI X.K T it):=by
 subst Sn;intro pins s σ H R I hq;obtain⟨P,env,F,re,q,Mb,k⟩:=hq;obtain⟨hq2,l,hl,hc⟩:=hit env q Mb;refine m? (jL I hg hm boot_range (el (cI (ha pos pins s σ H (λvs H'=>∃G,Args X.K env F H H' l vs G) I ⟨P,env,F,re,l,hl,λvs H' G ar=>⟨G,ar⟩⟩) λus s1 ⟨vs,H1,I1,r1,G,ar⟩=>?_) hs MP));have rs:=ar.Mp;have fin:∀(a c:Int) (n:Nat),q.1=dZ a c n->R (T1 (dU a c n)) H1:=λa c n e=>by
  refine k _ H1 [] ar.same bI.nil (λ_ h=>(nomatch h)) λP' _=>?_
  rw[e];exact zj λH=>k6 c n a
 have one:∀{d:D}{ds:List D}{vs:List V}{us:List Value}{G:List Addr},aF X.K H1 (d::ds) vs G->aK vs us->∀i,d=.int i->∃t OB OA G',us=.int i t::OB/\vs=.int i::OA/\aF X.K H1 ds OA G'/\aK OA OB:=by
  intro d ds vs us G r rv i e;subst e;cases r with
  |cons r rr=>
   obtain⟨rfl,rfl⟩:=r.int_inv;cases rv with
   |cons x y=>
    obtain⟨t,rfl⟩:=x;exact⟨t,_,_,_,rfl,rfl,rr,y⟩
 have nil:∀{vs:List V}{us:List Value}{G:List Addr},aF X.K H1 [] vs G->aK vs us->us=[]:=by
  intro vs us G r rv;cases r;cases rv;rfl
 rcases hc with ⟨j,e1,e2,e3⟩|⟨i,j,e1,e2,e3,e4⟩
 .rw[e1] at rs;obtain⟨t,OB,OA,G',rfl,_,rs,r1⟩:=one rs r1 j rfl;obtain rfl:=nil rs r1;refine y! (qp (c:=1) I1 (by decide) e2 (by decide) (by decide) ?_);refine fin _ _ _ ?_;rw[e3,m9];simp
 .rw[e1] at rs;obtain⟨t,OB,OA,G',rfl,_,rs,r1⟩:=one rs r1 i rfl;obtain⟨t',us'',vs'',Zz,rfl,_,rs,r1⟩:=one rs r1 j rfl;obtain rfl:=nil rs r1;refine call_range_2 (qp (c:=1) I1 e2 e3 (by decide) (by decide) ?_);refine fin _ _ _ ?_;rw[e4,m9]
end
variable {h:Heap}{o':Obj}
theorem CA {o:Obj}{b:Addr}(e:(h.push o).get? b=θ o'):(b=h.objs.size/\o'=o)\/h.get? b=θ o':=by
 obtain⟨e1,e2⟩:=à.mp e;by_cases hb:b=h.objs.size
 .left;subst hb;refine⟨rfl,?_⟩;have:(h.push o).objs[h.objs.size]? = θ o:=by cases h;simp[n_]
  rw[this] at e1;exact (dz e1).symm
 .right;refine à.mpr ⟨?_,e2⟩;cases h;simpa[n_,Array.getElem?_push,hb] using e1
theorem j9 {b:Addr}{o:Obj}(e:h.get? a=θ o)(e':h.get? b=θ o')(n:o.cls≠o'.cls):a≠b:=by
 rintro rfl;rw[e] at e';cases e';exact n rfl
theorem iD (b i j:Nat)(h:i≠j):(b+i:Nat)≠b+j:=by omega
theorem jH (b n i:Nat)(h:b+4<n)(hi:i<=4):b+i<n:=by omega
theorem Hr (n b:Nat)(h:b=n+1\/b=n):n<=b:=by omega
theorem Dx (n b:Nat)(h:b=n+4\/b=n+2\/b=n+3\/b=n\/b=n+1):n<=b:=by omega
variable {h':Heap}
section
variable {X:Cx}{pins:List (Addr×Obj)}{σ:L2.St}{H:Hp}{s:μ}
theorem lT {t':Nat}{ch:List Addr}(I:Inv X pins σ H s)(k:∀b o,b∉ch->s.heap.get? b=θ o->h'.get? b=θ o)(hf:∀b∈ch,kF X pins H b):Inv X pins σ H { s with heap:=h',toks:=t' }:=by
 have RG:∀b u,H b=θ u->b∉ch:=λb u e z=>by
  have:=(hf b z).1;rw[this] at e;cases e
 refine I.step (g':=s.gens) (d':=s.drawn) (ch:=ch) (λb hb=>?_) (λb o _ _ hc e _=>k b o hc e) (λb o _ _ hc e _=>⟨o.slots,k b o hc e⟩) (λ_ _ _ _ n=>n)
  (λb o hc e=>⟨o,k b o hc e⟩) (λ_ _ e=>e) (λ_ _ _ e=>e) (λb ps e=>⟨#[],by rw[e];simp⟩) (λm hm=>?_) (λb u e=>?_) I.bare
 .obtain⟨f0,f1,f2,f3,f4,f5⟩:=hf b hb;exact⟨f3,f1,f4,f5⟩
 .obtain⟨o,es,ep,ho,r⟩:=hm;exact⟨o,es,ep,k _ o (λz=>(hf _ z).2.1 rfl) ho,r⟩
 .refine (I.Mc b u e).MK (λc v hc q=>k c v ?_ q) (λ_ q=>q) λ_ _ q=>q
  rcases hc with z|z
  .rw[z];exact RG b u e
  .exact RG c _ z
theorem paired {t':Nat}{ch:List Addr}{x y:V}{u v:Value}(I:Inv X pins σ H s)(hu:RelV x u)(hv:RelV y v)(hT:h'.get? s.heap.objs.size=θ { cls:=.type "tuple",data:=.seq #[u,v] })
  (k:∀b o,b∉ch->s.heap.get? b=θ o->h'.get? b=θ o) (hf:∀b∈ch,kF X pins H b) (hl:∀b∈ch,b<s.heap.objs.size):Inv X pins σ (upd H s.heap.objs.size (.tup [x,y])) { s with heap:=h',toks:=t' }:=by
 have I1:Inv X pins σ (upd H s.heap.objs.size (.tup [x,y])) { s with heap:=s.heap.push { cls:=.type "tuple",data:=.seq #[u,v] },toks:=t' } :=
  I.laid (λ_ _ q=>τ _ q) (au _) ⟨by show 2<=sizeLine;decide,[u,v],.cons hu (.cons hv .nil),⟨_,Υ _ rfl,rfl,_,rfl⟩⟩
 refine lT (s:={ s with heap:=s.heap.push { cls:=.type "tuple",data:=.seq #[u,v] },toks:=t' }) (ch:=ch) I1 (λb o hb q=>?_) λb hb=>?_
 .rcases CA q with ⟨rfl,rfl⟩|q
  .exact hT
  .exact k b o hb q
 .obtain⟨f0,f⟩:=hf b hb;exact⟨by rw[aL (a8 (hl b hb))];exact f0,f⟩
end
noncomputable def Zx (K:Frag)(l:Addr):It:=⟨λi H=>∃xs x,mh K H l xs/\xs[i]? = θ x,λi H v H'=>∃T x,v=.ref T/\H T=η/\(∀xs,mh K H l xs->xs[i]? = θ x)/\H'=upd H T (.tup [.int i,x]),λi H=>∃xs,mh K H l xs/\xs.length<=i⟩
variable {elts:List Expr}{x1:Nat}
theorem zc (l e it:Addr)(Oh:e≠it):Turn P w K (.Tuple elts x1 pos) (Zx K l) [e,it] e (λi h=>(∃old,IsEnum h e it (i:Nat) old)/\h.IsListIter it l i) where
 mem:=by simp
 obj:=λi h st b hb=>by
  obtain⟨⟨old,he⟩,hit⟩:=st;have hb:b=e\/b=it:=by simpa using hb
  rcases hb with rfl|rfl
  .exact⟨_,he,λv z=>by cases z⟩
  .obtain⟨o,e,c,d⟩:=hit;exact⟨o,e,λv z=>by rw[d] at z;cases z⟩
 keep:=λi h h' st k=>⟨let ⟨old,he⟩:=st.1;⟨old,k e (by simp) _ he⟩,st.2.at λo z=>k it (by simp) o z⟩
 item:=by
  intro X hP hw hK hc i pins s σ H E I hf st hg;subst hP hw hK;obtain⟨xs,x,hq,hx⟩:=hg;obtain⟨aH,rv,p,hz⟩:=I.list hq;obtain⟨u,hu,ru⟩:=rv.get hx;obtain⟨⟨old,he⟩,hit⟩:=st;have To:∀b∈[e,it],b<s.heap.objs.size:=λb hb=>by
   have hb:b=e\/b=it:=by simpa using hb
   rcases hb with rfl|rfl
   .exact Α he
   .obtain⟨o,e,_⟩:=hit;exact Α e
  refine wpAny_pyNext_enum_item he hit p.isList (x:=u) (by simpa using hu) Oh λh' ho VO hT Vc hk=>?_
  have I2:Inv X pins σ (upd H s.heap.objs.size (.tup [.int i,x])) { s with heap:=h',toks:=s.toks+1 } :=
   paired (ch:=[e,it]) I ⟨s.toks,rfl⟩ ru hT (λb o hb q=>hk b o (λz=>hb (by simp[z])) (λz=>hb (by simp[z])) q) hf To
  have f2:∀b∈[e,it],kF X pins (upd H s.heap.objs.size (.tup [.int i,x])) b:=λb hb=>by
   obtain⟨f0,f⟩:=hf b hb;exact⟨by rw[aL (a8 (To b hb))];exact f0,f⟩
  refine⟨_,rfl,wpAny_letOwnedTupleGo_enum (s:={ s with heap:=h',toks:=s.toks+1 }) ho λh2 P1 Tw=>?_⟩;refine⟨.ref s.heap.objs.size,_,lT (ch:=[e]) I2 (λb o hb q=>Tw.extBut b o (λz=>hb (by simp[z])) q) (λb hb=>f2 b (by simp at hb;simp[hb])),rfl,⟨_,x,rfl,I.fresh,λys hy=>by rw[I.Mt hy hq];exact hx,rfl⟩,⟨⟨_,by simpa using P1⟩,VO.at λo z=>Tw.extBut it o (bw Oh) z⟩,λb hb=>(f2 b hb).1⟩
 done:=by
  intro X hP hw hK hc i pins s σ H E I hf st hg;subst hP hw hK;obtain⟨xs,hq,hx⟩:=hg;obtain⟨aH,rv,p,hz⟩:=I.list hq;obtain⟨⟨old,he⟩,hit⟩:=st;have hl:=rv.length;exact wpAny_pyNext_enum_end (I.ok.hd hc) he hit p.isList (by simp;omega) λh' eb=>⟨rfl,lT (t':=s.toks) (ch:=[it]) I (λb o hb q=>eb b o (λz=>hb (by simp[z])) q) λb hb=>hf b (by simp at hb;simp[hb])⟩
 self:=λA i s Q E st h=>by
  obtain⟨⟨old,he⟩,_⟩:=st;exact b! he h
theorem zI {P:Addr->Prop}{p:Addr}(h1:Rd H0 p (.lst vs))(h2:aF K H0 ds vs G)(hp:∀a∈p::G,P a):mH K P H0 (Zx K p) (ds.zipIdx.map λq=>.tup [.int q.2,q.1]) (p::G):=λH e=>by
 have ep:=e.keep p (hp p ag);have Ni:Rd H p (.lst vs):=by
  rcases h1 with q|⟨o,q⟩
  .exact .inl (ep.trans q)
  .exact .inr ⟨o,ep.trans q⟩
 have MU:=e.Mp h2 λa ha=>hp a (aa _ ha)
 refine⟨λi d hd=>?_,⟨vs,.inl Ni,by rw[aj,List.length_zipIdx,h2.len];exact au _⟩⟩;have hd:∃d',ds[i]? = θ d'/\d=.tup [.int i,d']:=by
  rw[π,List.getElem?_zipIdx] at hd;cases q:ds[i]? with
  |none=>rw[q] at hd;cases hd
  |some d'=>rw[q] at hd;simp at hd;exact⟨d',rfl,hd.symm⟩
 obtain⟨d',NB,rfl⟩:=hd;obtain⟨v,G',a,b,c⟩:=MU.get NB;refine⟨⟨vs,v,.inl Ni,a⟩,λx H' ⟨T,x',e1,e2,e3,e4⟩=>?_⟩;subst e1 e4;have:=e3 vs (.inl Ni);rw[a] at this;cases this;have sm:aG H (upd H T (.tup [.int i,v])):=aG.new e2;refine⟨sm,G',.tup (.inl aZ) ?_,λz hz=>aa _ (c.subset hz)⟩;have r:=aF.cons (Rep.int (K:=K) (H:=upd H T (.tup [.int i,v])) (i:Int)) (aF.cons (b.same sm) .nil);rw[aw,Ä] at r;exact r
noncomputable def Zw (K:Frag)(l m:Addr):It:=⟨λi H=>∃xs ys x y,mh K H l xs/\mh K H m ys/\xs[i]? = θ x/\ys[i]? = θ y,
 λi H v H'=>∃T x y,v=.ref T/\H T=η/\(∀xs,mh K H l xs->xs[i]? = θ x)/\(∀ys,mh K H m ys->ys[i]? = θ y)/\H'=upd H T (.tup [x,y]),λi H=>∃xs ys,mh K H l xs/\mh K H m ys/\(xs.length<=i\/ys.length<=i)⟩
variable {j:Nat}
theorem qL {b m:Addr}{xs ys:Array Value}{u v:Value}(hz:IsZip h (b+4) (b+2) (b+3) .none)(Oy:IsPair h (b+3) u v)(h1:h.IsListIter b l i)(h2:h.IsListIter (b+1) m j)
  (p:h.IsList l xs) (q:h.IsList m ys):ZipApart (b+4) (b+2) (b+3) b (b+1) l m:=by
 obtain⟨o1,e1,c1,_⟩:=h1;obtain⟨o2,e2,c2,_⟩:=h2;obtain⟨o3,e3,c3,_⟩:=p;obtain⟨o4,e4,c4,_⟩:=q;refine⟨iD b 2 4 (by decide),iD b 3 4 (by decide),iD b 0 4 (by decide),iD b 1 4 (by decide),iD b 2 3 (by decide),iD b 2 0 (by decide),iD b 2 1 (by decide),iD b 3 0 (by decide),iD b 3 1 (by decide),iD b 0 1 (by decide),?_,?_,?_,?_,?_,?_,?_,?_⟩
 .exact j9 e3 hz (by rw[c3];simp)
 .exact j9 e3 Oy (by rw[c3];simp)
 .exact j9 e3 e1 (by rw[c3,c1];simp)
 .exact j9 e3 e2 (by rw[c3,c2];simp)
 .exact j9 e4 hz (by rw[c4];simp)
 .exact j9 e4 Oy (by rw[c4];simp)
 .exact j9 e4 e1 (by rw[c4,c1];simp)
 .exact j9 e4 e2 (by rw[c4,c2];simp)
theorem BG (l m b:Addr):Turn P w K (.Tuple elts x1 pos) (Zw K l m) [b+4,b+2,b+3,b,b+1] (b+4)
  (λi h=>IsZip h (b+4) (b+2) (b+3) .none/\IsPair h (b+2) (.ref b) (.ref (b+1))/\(∃u v,IsPair h (b+3) u v)/\h.IsListIter b l i/\h.IsListIter (b+1) m i) where
 mem:=by simp
 obj:=λi h st c hc=>by
  obtain⟨hz,P5,⟨u,v,Oy⟩,h1,h2⟩:=st;simp only[dm,cx,or_false] at hc;rcases hc with rfl|rfl|rfl|rfl|rfl
  .exact⟨_,hz,λv z=>by cases z⟩
  .exact⟨_,P5,λv z=>by cases z⟩
  .exact⟨_,Oy,λv z=>by cases z⟩
  .obtain⟨o,e,c,d⟩:=h1;exact⟨o,e,λv z=>by rw[d] at z;cases z⟩
  .obtain⟨o,e,c,d⟩:=h2;exact⟨o,e,λv z=>by rw[d] at z;cases z⟩
 keep:=λi h h' st k=>by
  obtain⟨hz,P5,⟨u,v,Oy⟩,h1,h2⟩:=st;exact⟨k _ (by simp) _ hz,k _ (by simp) _ P5,⟨u,v,k _ (by simp) _ Oy⟩,h1.at λo z=>k _ (by simp) o z,h2.at λo z=>k _ (by simp) o z⟩
 item:=by
  intro X hP hw hK hc i pins s σ H E I hf st hg;subst hP hw hK;obtain⟨xs,ys,x,y,hq,PY,hx,hy⟩:=hg;obtain⟨aH,rv,p,_⟩:=I.list hq;obtain⟨its',Oc,p',_⟩:=I.list PY;obtain⟨u,hu,ru⟩:=rv.get hx;obtain⟨v,hv,rv2⟩:=Oc.get hy;obtain⟨hz,P5,⟨u0,v0,Oy⟩,h1,h2⟩:=st;have A:=qL hz Oy h1 h2 p.isList p'.isList;have To:∀c∈[b+4,b+3,b,b+1],c<s.heap.objs.size:=λc hc=>by
   have:=Α hz;simp only[dm,cx,or_false] at hc;rcases hc with rfl|rfl|rfl|rfl
   .exact jH _ _ 4 this (by decide)
   .exact jH _ _ 3 this (by decide)
   .exact jH _ _ 0 this (by decide)
   .exact jH _ _ 1 this (by decide)
  have hf':∀c∈[b+4,b+3,b,b+1],kF X pins H c:=λc hc=>hf c (by
   simp only[dm,cx,or_false] at hc ⊢;rcases hc with rfl|rfl|rfl|rfl<;>simp)
  refine wpAny_pyNext_zip_item A hz P5 Oy h1 h2 p.isList p'.isList (x:=u) (y:=v) (by simpa using hu) (by simpa using hv) λh' a1 a2 a3 a4 a5 a6 hk=>?_
  have I2:Inv X pins σ (upd H s.heap.objs.size (.tup [x,y])) { s with heap:=h' } :=
   paired (t':=s.toks) (ch:=[b+4,b+3,b,b+1]) I ru rv2 a5 (λc o hc q=>hk c o (λz=>hc (by simp[z])) (λz=>hc (by simp[z])) (λz=>hc (by simp[z])) (λz=>hc (by simp[z])) q) hf' To
  have f2:∀c∈[b+4,b+2,b+3,b,b+1],kF X pins (upd H s.heap.objs.size (.tup [x,y])) c:=λc hc=>by
   obtain⟨f0,f⟩:=hf c hc;have:=Α hz;have Mx:c<s.heap.objs.size:=by
    simp only[dm,cx,or_false] at hc;rcases hc with rfl|rfl|rfl|rfl|rfl
    .exact jH _ _ 4 this (by decide)
    .exact jH _ _ 2 this (by decide)
    .exact jH _ _ 3 this (by decide)
    .exact jH _ _ 0 this (by decide)
    .exact jH _ _ 1 this (by decide)
   exact⟨by rw[aL (a8 Mx)];exact f0,f⟩
  refine⟨_,rfl,wpAny_letOwnedTupleGo_zip (s:={ s with heap:=h' }) a1 λh3 hz3 RZ=>?_⟩;refine⟨.ref s.heap.objs.size,_,lT (t':=s.toks) (ch:=[b+4]) I2 (λc o hc q=>RZ.extBut c o (λz=>hc (by simp[z])) q) (λc hc=>f2 c (by simp at hc;simp[hc])),rfl,
   ⟨_,x,y,rfl,I.fresh,λzs hz=>by rw[I.Mt hz hq];exact hx,λzs hz=>by rw[I.Mt hz PY];exact hy,rfl⟩,
   ⟨hz3,RZ.extBut _ _ A.TIz (hk _ _ A.TIz A.TITO A.TIi1 A.TIi2 P5),⟨_,_,RZ.extBut _ _ A.TOz a2⟩,a3.at λo z=>RZ.extBut _ o A.i1z z,a4.at λo z=>RZ.extBut _ o A.i2z z⟩,λc hc=>(f2 c hc).1⟩
 done:=by
  intro X hP hw hK hc i pins s σ H E I hf st hg;subst hP hw hK;obtain⟨xs,ys,hq,PY,hx⟩:=hg;obtain⟨aH,rv,p,_⟩:=I.list hq;obtain⟨its',Oc,p',_⟩:=I.list PY;have hl:=rv.length;have Sj:=Oc.length;obtain⟨hz,P5,⟨u0,v0,Oy⟩,h1,h2⟩:=st;have A:=qL hz Oy h1 h2 p.isList p'.isList;refine wpAny_pyNext_zip_end (I.ok.hd hc) A hz P5 Oy h1 h2 p.isList p'.isList ?_ λh' hk=>⟨rfl,lT (t':=s.toks) (ch:=[b+4,b+3,b,b+1]) I (λc o hc q=>hk c o (λz=>hc (by simp[z])) (λz=>hc (by simp[z])) (λz=>hc (by simp[z])) (λz=>hc (by simp[z])) q) λc hc=>hf c ?_⟩
  .rcases hx with hx|hx
   .left;simp;omega
   .right;simp;omega
  .simp only[dm,cx,or_false] at hc ⊢;rcases hc with rfl|rfl|rfl|rfl<;>simp
 self:=λA i s Q E st h=>f_ st.1 h
theorem A1 {P:Addr->Prop}{p q:Addr}{us:List V}{es:List D}(h1:Rd H0 p (.lst vs))(h2:aF K H0 ds vs G)(h3:Rd H0 q (.lst us))(h4:aF K H0 es us G')(hp:∀a∈(p::G)++(q::G'),P a) :
  mH K P H0 (Zw K p q) ((ds.zip es).map λz=>.tup [z.1,z.2]) ((p::G)++(q::G')):=λH e=>by
 have ep:=e.keep p (hp p (by simp));have eq:=e.keep q (hp q (by simp));have Ni:Rd H p (.lst vs):=by
  rcases h1 with q|⟨o,q⟩
  .exact .inl (ep.trans q)
  .exact .inr ⟨o,ep.trans q⟩
 have Wj:Rd H q (.lst us):=by
  rcases h3 with q|⟨o,q⟩
  .exact .inl (eq.trans q)
  .exact .inr ⟨o,eq.trans q⟩
 have MU:=e.Mp h2 λa ha=>hp a (by simp[ha])
 have h4':=e.Mp h4 λa ha=>hp a (by simp[ha])
 refine⟨λi d hd=>?_,⟨vs,us,.inl Ni,.inl Wj,?_⟩⟩
 .have hd:∃d1 d2,ds[i]? = θ d1/\es[i]? = θ d2/\d=.tup [d1,d2]:=by
   rw[π] at hd;rw[ae] at hd;obtain⟨⟨d1,d2⟩,hd,rfl⟩:=hd;rw[List.getElem?_zip_eq_some] at hd;exact⟨d1,d2,hd.1,hd.2,rfl⟩
  obtain⟨d1,d2,hd1,hd2,rfl⟩:=hd;obtain⟨v1,g1,a1,b1,c1⟩:=MU.get hd1;obtain⟨v2,g2,a2,b2,c2⟩:=h4'.get hd2;refine⟨⟨vs,us,v1,v2,.inl Ni,.inl Wj,a1,a2⟩,λx H' ⟨T,x',y',e1,e2,e3,e4,e5⟩=>?_⟩;subst e1 e5;have t1:=e3 vs (.inl Ni);rw[a1] at t1;cases t1;have t2:=e4 us (.inl Wj);rw[a2] at t2;cases t2;have sm:aG H (upd H T (.tup [v1,v2])):=aG.new e2;refine⟨sm,g1++(g2 ++ []),.tup (.inl aZ) (.cons (b1.same sm) (.cons (b2.same sm) .nil)),λz hz=>?_⟩;simp only[aw,ig] at hz;rcases hz with hz|hz
  .exact ax _ (aa _ (c1.subset hz))
  .exact ao _ (aa _ (c2.subset hz))
 .rw[aj,List.length_zip,h2.len,h4.len];omega
variable {H':Hp}{R:List Nat}{tp:No}
section
variable {X:Cx}{T:Tb}
theorem ql {env:En}{l:List (D×Rt)}(ar:Args X.K env F H H' l vs G)(h:∀q,q∈aO (l.map (·.2))->q∈R):bI env F H (.sh R) H' G where
 cont:=λa ha=>(ar.cont a ha).imp id λ⟨i,d,t,x,y,z⟩=>⟨i,d,t,x,y,λq hq=>h q (z q hq)⟩
 mv:=λR e=>by cases e
theorem mI {l:List D}(h:t5 d=θ l):d=.lst l:=by
 cases d<;>simp[t5] at h
 rw[h]
theorem D3 (hg:Gl X "enumerate") (hm:X.mg "enumerate" = η) (ha:PA X [e] (tF X.K T (.cons c .nil))) (hs:Ι [e] X.env=(ε,eval e X.env)::Ι [] X.env):PI X (.Tuple elts x1 tp) (.Call (.Name "enumerate" p) [e] [] pos) (tI X.K T (.enum c)):=by
 intro pins s σ H R I hq;obtain⟨P,env,F,re,q,Mb,k⟩:=hq;unfold iL at Mb;obtain⟨r,h1,Mb⟩:=Rs.Ma Mb;obtain⟨l,h2,Mb⟩:=Rs.Ma Mb;have h2:=mI (cJ h2);cases Mb;have hl:aR T (.cons c .nil) env=.ok [r]:=by unfold aR;rw[h1];unfold aR;rfl
 refine m? (jL I hg hm boot_enumerate (el (cI (ha pos pins s σ H (λvs H'=>∃G,Args X.K env F H H' [r] vs G) I ⟨P,env,F,re,[r],hl,λvs H' G ar=>⟨G,ar⟩⟩) λus s1 ⟨vs,H1,I1,r1,G,ar⟩=>?_) hs rfl));have rs:aF X.K H1 [r.1] vs G:=ar.Mp;obtain⟨x,rfl,rp⟩:=rs.NQ;rw[h2] at rp;obtain⟨a,vs,g,rfl,rfl,a1,a2⟩:=rp.lst_inv;obtain⟨u,rfl,ru⟩:=r1.one;cases ru;obtain⟨aH,rv,pl,hz⟩:=I1.list (.inl a1);refine call_enumerate_list pl.isList λh' he hit Vc hk=>b! he ⟨_,[s1.heap.objs.size+1,s1.heap.objs.size],_,_,H1,rfl,I1.kept (t':=s1.toks) hk,zc a _ _ (Nat.succ_ne_self _),⟨⟨_,he⟩,hit⟩,λb hb=>?_,k _ H1 (a::g) ar.same (ql ar λq hq=>by simpa[aO] using hq) (λb hb=>rp.nn hb) λP' hP=>zI a1 a2 hP⟩
 simp only[dm,cx,or_false] at hb;have hb:s1.heap.objs.size<=b:=Hr _ _ hb;exact I1.ND hb (I1.Mc.fresh hb)
theorem Iw {f:Expr}{d:Ex}(hg:Gl X "zip") (hm:X.mg "zip" = η) (ha:PA X [e,f] (tF X.K T (.cons c (.cons d .nil)))) (hs:Ι [e,f] X.env=(ε,eval e X.env)::Ι [f] X.env) (MP:(Pi pos (Ι [f] X.env)).any (·.1)=ε):PI X (.Tuple elts x1 tp) (.Call (.Name "zip" p) [e,f] [] pos) (tI X.K T (.zip c d)):=by
 intro pins s σ H R I hq;obtain⟨P,env,F,re,q,Mb,k⟩:=hq;unfold iL at Mb;obtain⟨r,h1,Mb⟩:=Rs.Ma Mb;obtain⟨t,h2,Mb⟩:=Rs.Ma Mb;obtain⟨l,h3,Mb⟩:=Rs.Ma Mb;obtain⟨m,h4,Mb⟩:=Rs.Ma Mb;have h3:=mI (cJ h3);have h4:=mI (cJ h4);cases Mb;have hl:aR T (.cons c (.cons d .nil)) env=.ok [r,t]:=by unfold aR;rw[h1];unfold aR;rw[h2];unfold aR;rfl
 refine m? (jL I hg hm boot_zip (el (cI (ha pos pins s σ H (λvs H'=>∃G,Args X.K env F H H' [r,t] vs G) I ⟨P,env,F,re,[r,t],hl,λvs H' G ar=>⟨G,ar⟩⟩) λus s1 ⟨vs,H1,I1,r1,G,ar⟩=>?_) hs MP));have rs:aF X.K H1 [r.1,t.1] vs G:=ar.Mp;rw[h3,h4] at rs;cases rs with
 |cons rp rs=>
  obtain⟨x',rfl,Ov⟩:=rs.NQ;obtain⟨a,vs,g,rfl,rfl,a1,a2⟩:=rp.lst_inv;obtain⟨a',OA,g',rfl,rfl,Zs,a2'⟩:=Ov.lst_inv;obtain⟨u,v,rfl,ru,rv⟩:=r1.two;cases ru;cases rv;obtain⟨aH,_,pl,_⟩:=I1.list (.inl a1);obtain⟨its',_,OG,_⟩:=I1.list (.inl Zs);refine call_zip_2 pl.isList OG.isList λh' q1 q2 q3 q4 q5 q6 hk=>f_ q1 ⟨_,_,_,_,H1,rfl,I1.kept (t':=s1.toks) hk,BG a a' s1.heap.objs.size,⟨q1,q2,⟨_,_,q3⟩,q4,q5⟩,λb hb=>?_,
   k _ H1 _ ar.same (ql ar λq hq=>by simpa[aO] using hq) (λb hb=>?_) λP' hP=>A1 a1 a2 Zs a2' hP⟩
  .simp only[dm,cx,or_false] at hb;have hb:s1.heap.objs.size<=b:=Dx _ _ hb;exact I1.ND hb (I1.Mc.fresh hb)
  .rcases ig.mp hb with hb|hb
   .exact rp.nn hb
   .exact Ov.nn hb
end
def tS (K:Frag)(T:Tb)(c:St):TS:=λD σ H=>∃P Z env F,RE K P env σ H F/\(∀i,∀a∈F i,Z a)/\(∀a,¬ P a->Z a)/\post K P Z env F H D (bH T c env)
def BA (K:Frag)(T:Tb)(c:aU):TS:=λD σ H=>∃P Z env F,RE K P env σ H F/\(∀i,∀a∈F i,Z a)/\(∀a,¬ P a->Z a)/\post K P Z env F H D (aE T c env)
section
variable {K:Frag}{P Z:Addr->Prop}{env:En}{σ:L2.St}{H:Hp}{F:Nat->List Addr}{D:Ends}
theorem bM {α:Type}{x:Rs α}{k:α->Fl}(h:post K P Z env F H D (j3 env x k)):∃a,x=.ok a/\post K P Z env F H D (k a):=by
 cases x with
 |ok a=>exact⟨a,rfl,h⟩
 |bad=>exact h.elim
theorem After.same (re:RE K P env σ H F)(hz:∀i,∀a∈F i,Z a)(e:aG H H'):After K P Z env F H env σ H' F:=⟨re.same e,hz,jV.of_same re.pl e,wL.refl _ _⟩
theorem Eo {r:Rt}(re:RE K P env σ H F)(hz:∀i,∀a∈F i,Z a)(zp:∀a,¬ P a->Z a)(rt:bI env F H r H' G):∀a∈G,Z a:=λa ha=>by
 rcases rt.cont a ha with q|⟨j,_,_,f,_⟩
 .exact zp a λz=>re.pl a z q
 .exact hz j a f
end
variable {b:List Stmt}{cb:aU}{ul:Expr}{mv:Bool}{pos':No}{st:Stmt}{t:md}
section
variable {X:Cx}{T:Tb}{pos:No}{e:Expr}{c:Ex}
theorem yo:hU X [] (BA X.K T .nil):=by
 refine fA nX λD σ H ⟨P,Z,env,F,re,hz,zp,h⟩=>?_
 unfold aE at h;exact h σ H F (After.same re hz (aG.refl _))
theorem uO {rest:List Stmt}{cs:St}{cr:aU}(h1:PS X st (tS X.K T cs))(h2:hU X rest (BA X.K T cr)):hU X (st::rest) (BA X.K T (.cons cs cr)):=by
 refine fA (eN h1 h2) λD σ H ⟨P,Z,env,F,re,hz,zp,h⟩=>⟨P,Z,env,F,re,hz,zp,?_⟩
 unfold aE at h;cases hs:bH T cs env with
 |nx env'=>
  rw[hs] at h;exact λσ' H' F' af=>⟨P,Z,env',F',af.re,af.z,zp,post.trans af h⟩
 |bk env'=>rw[hs] at h;exact h
 |ct env'=>rw[hs] at h;exact h
 |rt d fr=>rw[hs] at h;exact h
 |bad=>rw[hs] at h;exact h
theorem DM:PS X (.Pass pos) (tS X.K T .pass):=by
 refine bT Ey λD σ H ⟨P,Z,env,F,re,hz,zp,h⟩=>?_
 unfold bH at h;exact h σ H F (After.same re hz (aG.refl _))
theorem Io:PS X (.Expr (.Constant (.str x) j pos) pos') (tS X.K T .pass):=by
 refine bT IM λD σ H ⟨P,Z,env,F,re,hz,zp,h⟩=>?_
 unfold bH at h;exact h σ H F (After.same re hz (aG.refl _))
theorem IJ:PS X (.Continue pos) (tS X.K T .cnt):=by
 refine bT tW λD σ H ⟨P,Z,env,F,re,hz,zp,h⟩=>?_
 unfold bH at h;exact h σ H F (After.same re hz (aG.refl _))
theorem Dh:PS X (.Return η pos) (tS X.K T .Qk):=by
 refine bT Du λD σ H ⟨P,Z,env,F,re,hz,zp,h⟩=>?_
 unfold bH at h;exact h .Mh H [] .Mh (jV.refl _) (λ_ h=>(nomatch h)) λ_=>⟨bc,λ_ h=>(nomatch h)⟩
theorem Hu (he:PE X e (tE X.K T c)):PS X (.Return (θ e) pos) (tS X.K T (.ret c)):=by
 refine bT (wW he) λD σ H ⟨P,Z,env,F,re,hz,zp,h⟩=>?_
 unfold bH at h;obtain⟨p,hp,h⟩:=bM h;refine⟨P,env,F,re,p,hp,λv H' G s rp rt=>h v H' G rp (jV.of_same re.pl s) (Eo re hz zp rt) λfr=>?_⟩;cases hr:p.2 with
 |sh R=>rw[hr] at fr;cases fr
 |mv R=>
  rw[hr] at fr;obtain⟨a,b,d⟩:=rt.mv R hr;refine⟨a,λx hx=>⟨λz=>?_,b x hx⟩⟩;rcases d x hx with q|⟨i,d2,t2,hi,f,e2,o2⟩
  .exact re.pl x z q
  .have:=bz.mp fr i hi;split at this
   .rename_i d' q;exact re.wr i d' q x f z
   .cases this
theorem Em (he:PE X e (tE X.K T c))(hs:ZC e η pos.line X.env=pure ε):PS X (.Expr e pos) (tS X.K T (.expr c)):=by
 refine bT (kz he hs) λD σ H ⟨P,Z,env,F,re,hz,zp,h⟩=>?_
 unfold bH at h;obtain⟨p,hp,h⟩:=bM h;exact⟨P,env,F,re,p,hp,λv H' G s rp rt=>h σ H' F (After.same re hz s)⟩
theorem Im {a:List Stmt}{ca:aU}(hc:PT X e (qF X.K T c))(ha:hU X a (BA X.K T ca))(hb:hU X b (BA X.K T cb)):PS X (.If e a b pos) (tS X.K T (.ite c ca cb)):=by
 refine bT (Bu hc ha hb) λD σ H ⟨P,Z,env,F,re,hz,zp,h⟩=>?_
 unfold bH at h;obtain⟨p,hp,h⟩:=bM h;cases ht:truth p.1 with
 |none=>rw[ht] at h;exact h.elim
 |some k=>
  rw[ht] at h;refine⟨P,env,F,re,p,k,hp,ht,λH' s=>?_⟩;have af:=After.same (Z:=Z) re hz s;cases k with
  |true=>show if ζ=ζ then _ else _;rw[if_pos rfl];exact⟨P,Z,env,F,af.re,hz,zp,post.trans af h⟩
  |false=>show if ε=ζ then _ else _;rw[if_neg ay];exact⟨P,Z,env,F,af.re,hz,zp,post.trans af h⟩
theorem AB (hN:X.N.Nodup)(hi:X.N[i]? = θ x)(hx:Loc X.env.scope x)(he:PE X e (tE X.K T c))(hs:ZC e (θ (.Name x pos')) pos.line X.env=pure ε)(hf:X.fn x=ζ\/X.env.scope.names.lookup x=θ .local) :
  PS X (.Assign [.Name x pos'] e pos) (tS X.K T (.asg (.nm i) c mv)):=by
 refine bT (pQ hN hi hx he hs hf) λD σ H ⟨P,Z,env,F,re,hz,zp,h⟩=>?_
 unfold bH at h;obtain⟨p,hp,h⟩:=bM h;exact⟨P,env,F,re,p,hp,λv H' G s rp rt=>oK re hz zp s rp rt h⟩
theorem Gn (hN:X.N.Nodup)(hi:X.N[i]? = θ x)(hx:Loc X.env.scope x)(he:PE X e (tE X.K T c))(hf:X.fn x=ζ\/X.env.scope.names.lookup x=θ .local)(ho:op = .Add\/op = .Sub) :
  PS X (.AugAssign (.Name x pos') op e pos) (tS X.K T (.aug i op c)):=by
 have hop:Zv X op (λx y H Q=>∃a b k,x=.int a/\y=.int b/\Ic op a b=θ k/\Q (.int k) H):=by
  intro pins s σ H x y v u Q I rx ry h;obtain⟨a,b,k,rfl,rfl,hk,q⟩:=h;rcases ho with rfl|rfl
  .cases hk;exact Dc pins s σ H _ _ v u Q I rx ry ⟨a,b,rfl,rfl,q⟩
  .cases hk;exact Dn pins s σ H _ _ v u Q I rx ry ⟨a,b,rfl,rfl,q⟩
 refine bT (HU hN hi hx he hop hf) λD σ H ⟨P,Z,env,F,re,hz,zp,h⟩=>?_
 unfold bH at h;cases ha:intAt env i with
 |none=>rw[ha] at h;exact h.elim
 |some a=>
  rw[ha] at h;obtain⟨p,hp,h⟩:=bM h;have Wd:∃t,env[i]? = θ (θ (.int a,t)):=by
   unfold intAt at ha;split at ha
   .rename_i q;cases ha;exact⟨_,q⟩
   .cases ha
  obtain⟨t,Wd⟩:=Wd;obtain⟨v,hv,rv⟩:=re.val i _ _ Wd;obtain⟨rfl,_⟩:=rv.int_inv;refine⟨_,hv,P,env,F,re,p,hp,λv H' G s rp rt=>?_⟩;unfold KO at h;cases hq:p.1 with
  |int b=>
   rw[hq] at h rp;obtain⟨rfl,_⟩:=rp.int_inv;dsimp only at h;cases hk:Ic op a b with
   |none=>rw[hk] at h;exact h.elim
   |some k=>
    rw[hk] at h;exact⟨a,b,k,rfl,rfl,hk,oK re hz zp s (.int k) bI.nil h⟩
  |_=>rw[hq] at h;exact h.elim
noncomputable def jP:List Nat->Fj
 |[]=>Ku
 |i::is=>Fg (jZ i) (jP is)
theorem kO:∀{is:List Nat}{vs:List V}{σ:L2.St}{H:Hp}{Q:L2.St->Hp->Prop},is.length=vs.length->Q (setM is vs σ) H->jP is vs σ H Q
 |[],[],_,_,_,_,q=>⟨rfl,q⟩
 |i::is,v::vs,σ,H,Q,hl,q=>⟨v,vs,rfl,kO (is:=is) (vs:=vs) (by simpa using hl) q⟩
 |[],_::_,_,_,_,hl,_=>by simp at hl
 |_::_,[],_,_,_,hl,_=>by simp at hl
theorem DP {is:List Nat}(hg:PG X tg (Bw X.K is.length (jP is)))(he:PE X e (tE X.K T c))(hs:ĭ [tg] e pos.line X.env=pure ε)(hw:p_ [tg] e X.env=pure η)(h1:(FS [tg] X.env).map (·.2)=[ä tg X.env]) :
  PS X (.Assign [tg] e pos) (tS X.K T (.asg (.tp is) c mv)):=by
 refine bT (BQ he hg hs hw h1) λD σ H ⟨P,Z,env,F,re,hz,zp,h⟩=>?_
 unfold bH at h;obtain⟨p,hp,h⟩:=bM h;refine⟨P,env,F,re,p,hp,λv H' G s rp rt=>?_⟩;have O9:=re.same s;have ez:=Eo re hz zp rt;have nt:=jV.of_same (P:=P) re.pl s;unfold rR at h;cases hd:p.1 with
 |tup ds=>
  rw[hd] at h rp;obtain⟨a,vs,rfl,a1,a2⟩:=rp.Mj;have fin:∀{o:Option En},post X.K P Z env F H D (BN o)->(∀env',o=θ env'->∃F',RE X.K P env' (setM is vs σ) H' F'/\(∀i,∀a∈F' i,Z a)/\wL env F env' F'/\is.length=vs.length)->Bw X.K is.length (jP is) (.ref a) σ H' D.nx:=λ{o} h q=>by
   cases o with
   |none=>exact h.elim
   |some env'=>
    obtain⟨F',b1,b2,b3,b4⟩:=q env' rfl;exact⟨a,vs,rfl,a1,b4.symm,kO b4 (h _ H' F' ⟨b1,b2,nt,b3⟩)⟩
  have shared:post X.K P Z env F H D (if is.all (λi=>!p.2.roots.contains i) then BN (bindM (λd=>cU d p.2.roots) is ds env) else .bad)->Bw X.K is.length (jP is) (.ref a) σ H' D.nx:=λh=>by
   by_cases hc:is.all (λi=>!p.2.roots.contains i)=ζ
   .rw[if_pos hc] at h;refine fin h λenv' VX=>n9 O9 hz a2 ez (λx hx j d' t' ej o m=>?_) VX
    rcases rt.cont x hx with q|⟨k,d2,t2,f,e2,sr⟩
    .exact absurd q (re.nn ej m)
    .exact sr j ((re.one j d' t' ej o).2.2 x m k d2 t2 e2 f)
   .rw[if_neg hc] at h;exact h.elim
  cases hr:p.2 with
  |sh R=>rw[hr] at h shared;exact shared h
  |mv R=>
   cases R with
   |cons r0 R0=>rw[hr] at h shared;exact shared h
   |nil=>
    rw[hr] at h;obtain⟨m1,m2,m3⟩:=rt.mv [] hr;have fresh:∀a∈G,H a=η:=λa ha=>by
     rcases m3 a ha with q|⟨_,_,_,q,_⟩
     .exact q
     .cases q
    exact fin h λenv' VX=>qw O9 hz a2 m1 m2 (λx hx z=>re.pl x z (fresh x hx)) ez (λx hx j m=>by
     obtain⟨d2,t2,e2⟩:=re.at' m;exact re.nn e2 m (fresh x hx)) VX
 |_=>rw[hd] at h;exact h.elim
theorem Hk (hp:ZN (Ζ X.prog X.w) X.A X.env X.xe)(hc:PT X e (qF X.K T c))(hb:hU X b (BA X.K T cb)):PS X (.While e b [] pos) (tS X.K T (.Qd c cb)):=by
 refine bT (A9 hp hc hb) λD σ H ⟨P,Z,env,F,re,hz,zp,h⟩=>?_
 unfold bH at h;refine⟨λm σ' H'=>∃env' F',After X.K P Z env F H env' σ' H' F'/\post X.K P Z env' F' H' D (kG (λenv=>(ev T c env).bind λp=>pS (truth p.1)) (aE T cb) m env'),⟨T.fuel,env,F,After.same re hz (aG.refl _),h⟩,λm σ1 H1 ⟨QQ,F1,af,h1⟩=>?_⟩;cases m with
 |zero=>exact h1.elim
 |succ m=>
  unfold kG at h1;obtain⟨k,hk,h1⟩:=bM h1;obtain⟨p,Sd,hk⟩:=Rs.Ma hk;refine⟨P,QQ,F1,af.re,p,k,Sd,cJ hk,λH2 s2=>?_⟩;have MA:=After.same (Z:=Z) af.re af.z s2;cases k with
  |false=>
   show if ε=ζ then _ else _
   rw[if_neg ay];simp only[c9,if_false] at h1;exact h1 σ1 H2 F1 MA
  |true=>
   show if ζ=ζ then _ else _
   rw[if_pos rfl];simp only[if_true] at h1;refine⟨λσ' H'=>∃env' F',After X.K P Z env F H env' σ' H' F'/\post X.K P Z env' F' H' D (kG (λenv=>(ev T c env).bind λp=>pS (truth p.1)) (aE T cb) m env'),λσ' H' q=>⟨m,ja _,q⟩,P,Z,QQ,F1,MA.re,af.z,zp,?_⟩;have h1:=post.trans MA h1;cases hs:aE T cb QQ with
   |nx e'=>rw[hs] at h1;exact λσ' H' F' Ou=>⟨e',F',af.trans (MA.trans Ou),post.trans Ou h1⟩
   |ct e'=>rw[hs] at h1;exact λσ' H' F' Ou=>⟨e',F',af.trans (MA.trans Ou),post.trans Ou h1⟩
   |bk e'=>rw[hs] at h1;exact h1
   |rt d fr=>rw[hs] at h1;exact h1
   |bad=>rw[hs] at h1;exact h1
noncomputable def tD (K:Frag):md->TG
 |.nm i=>jZ i
 |.tp is=>Bw K is.length (jP is)
theorem pE {P Z:Addr->Prop}{env env':En}{σ:L2.St}{d:Pc.D}{Q:L2.St->Hp->Prop}(re:RE K P env σ H F)(hz:∀i,∀a∈F i,Z a)(rp:Rep K H d v G)(gz:∀a∈G,Z a)
  (hs:∀a∈G,∀(j:Nat) (d':Pc.D) (t':Tg),env[j]? = θ (θ (d',t'))->be t'=ζ->a∈F j->j∈R) (hb:bP R t d env=θ env') (hQ:∀σ' F',RE K P env' σ' H F'->(∀i,∀a∈F' i,Z a)->wL env F env' F'->Q σ' H):tD K t v σ H Q:=by
 cases t with
 |nm i=>
  simp only[bP] at hb;by_cases hi:i<env.length
  .rw[if_pos hi] at hb;cases hb;exact hQ _ _ (yk re hi rp hs) (qj hz gz) (oi hi vf)
  .rw[if_neg hi] at hb;cases hb
 |tp is=>
  cases d with
  |tup ds=>
   simp only[bP] at hb;obtain⟨a,vs,rfl,a1,a2⟩:=rp.Mj;obtain⟨F',b1,b2,b3,b4⟩:=n9 re hz a2 gz hs hb;exact⟨a,vs,rfl,a1,b4.symm,kO b4 (hQ _ F' b1 b2 b3)⟩
  |_=>cases hb
theorem lC {b:En->Fl}:∀(ds:List Pc.D) (env:En),(∀e,gK t R b ds env≠.bk e)/\∀e,gK t R b ds env≠.ct e
 |[],env=>⟨λe z=>(by cases z),λe z=>(by cases z)⟩
 |d::ds,env=>by
  unfold gK;cases bP R t d env with
  |none=>exact⟨λe z=>(by cases z),λe z=>(by cases z)⟩
  |some env'=>
   simp only;cases b env' with
   |nx e'=>exact lC ds e'
   |ct e'=>exact lC ds e'
   |bk e'=>exact⟨λe z=>(by cases z),λe z=>(by cases z)⟩
   |rt d fr=>exact⟨λe z=>(by cases z),λe z=>(by cases z)⟩
   |bad=>exact⟨λe z=>(by cases z),λe z=>(by cases z)⟩
theorem HW (hp:ZN (Ζ X.prog X.w) X.A X.env X.xe)(hc:X.calm=ζ)(hi:PI X tg ul (tI X.K T it))(hg:PG X tg (tD X.K t))(hb:hU X b (BA X.K T cb))(hs:∀x,Do ul X.env x=pure x) :
  PS X (.For tg ul b [] pos) (tS X.K T (.Mg t it cb)):=by
 refine bT (Br hp hc hi hg hb hs) λD σ H ⟨P,Z,env,F,re,hz,zp,h⟩=>?_
 unfold bH at h;obtain⟨p,hp,h⟩:=bM h;refine⟨P,env,F,re,p,hp,λJ H1 G s1 rt nn wk=>?_⟩;have QS:=After.same (Z:=Z) re hz s1;have h:=post.trans QS h;let P':Addr->Prop:=λa=>P a\/a∈G
 have wk:=wk P' λa ha=>.inr ha
 have y?:∀a∈G,∀(i:Nat) (d:Pc.D) (t:Tg),env[i]? = θ (θ (d,t))->be t=ζ->a∈F i->i∈p.2:=λa ha i d t e o m=>by
  rcases rt.cont a ha with q|⟨k,d2,t2,f,e2,sr⟩
  .exact absurd q (re.nn e m)
  .exact sr i ((re.one i d t e o).2.2 a m k d2 t2 e2 f)
 have UC:RE X.K P' (lock p.2 env) σ H1 F:=QS.re.locked nn y?;have gz:∀a∈G,Z a:=Eo re hz zp rt;let E':Ends:={ D with nx:=λσ' H'=>∀env' F',After X.K P' Z (lock p.2 env) F H1 env' σ' H' F'->D.nx σ' H' };have OD:∀{f:Fl},(∀e,f≠.bk e)->(∀e,f≠.ct e)->post X.K P Z env F H1 D (match f with|.nx e=>.nx (unlock p.2 env e)|x=>x)->post X.K P' Z (lock p.2 env) F H1 D f:=λ{f} nb nc h=>by
  cases f with
  |nx e=>exact λσ' H' F' af=>h σ' H' F' (af.Nt QS.re)
  |bk e=>exact absurd rfl (nb e)
  |ct e=>exact absurd rfl (nc e)
  |rt d fr=>exact λv H' G' rp ev z f=>h v H' G' rp (ev.weak λ_ q=>.inl q) z λw=>⟨(f w).1,λa ha=>⟨λq=>((f w).2 a ha).1 (.inl q),((f w).2 a ha).2⟩⟩
  |bad=>exact h
 have h:=OD (lC _ _).1 (lC _ _).2 h;have T3:∀a,¬ P' a->Z a:=λa ha=>zp a λq=>ha (.inl q)
 refine⟨λi m σ' H'=>m=p.1.length-i/\i<=p.1.length/\∃env' F',After X.K P' Z (lock p.2 env) F H1 env' σ' H' F'/\post X.K P' Z env' F' H' D (gK t p.2 (aE T cb) (p.1.drop i) env'),⟨p.1.length,by simp,dh _,lock p.2 env,F,After.same UC hz (aG.refl _),by simpa using h⟩,?_⟩;rintro i m σ2 H2 ⟨rfl,hi,OY,F2,MA,h2⟩;obtain⟨w1,w2⟩:=wk H2 MA.ev;by_cases Mx:i<p.1.length
 .right;have hd:p.1[i]? = θ p.1[i]:=by simp[Mx]
  obtain⟨g1,g2⟩:=w1 i _ hd;refine⟨g1,λσ' H'=>∃env' F',After X.K P' Z (lock p.2 env) F H1 env' σ' H' F'/\post X.K P' Z env' F' H' D (gK t p.2 (aE T cb) (p.1.drop (i+1)) env'),λσ' H' q=>⟨p.1.length-(i+1),by omega,rfl,Mx,q⟩,λx H3 y=>?_⟩;obtain⟨s3,G3,Rp,Nd⟩:=g2 x H3 y;have Ou:=After.same (Z:=Z) MA.re MA.z s3;have h2:=post.trans Ou h2;rw[gb Mx] at h2;unfold gK at h2;cases hb:bP p.2 t p.1[i] OY with
  |none=>rw[hb] at h2;exact h2.elim
  |some Nk=>
   rw[hb] at h2;refine pE Ou.re MA.z Rp (λa ha=>gz a (Nd a ha)) (λa ha j d' t' ej o m=>?_) hb λσ4 F4 PQ z4 UT=>?_
   .cases t' with
    |own=>exact absurd (.inr (Nd a ha)) (MA.re.wr j d' ej a m)
    |lk=>
     obtain⟨e5,e6⟩:=MA.lk j d' ej;rw[e6] at m;obtain⟨t0,e0,o0,_⟩:=fL e5;exact y? a (Nd a ha) j d' t0 e0 (o0.trans o) m
    |sh Q=>cases o
   .have SS:After X.K P' Z OY F2 H3 Nk σ4 H3 F4:=⟨PQ,z4,jV.refl _,UT⟩;refine⟨P',Z,Nk,F4,PQ,z4,T3,?_⟩;have h2:=post.trans SS h2;have all:=(MA.trans Ou).trans SS;cases hs:aE T cb Nk with
    |nx e'=>simp only[hs] at h2;exact λσ' H' F' O4=>⟨e',F',all.trans O4,post.trans O4 h2⟩
    |ct e'=>simp only[hs] at h2;exact λσ' H' F' O4=>⟨e',F',all.trans O4,post.trans O4 h2⟩
    |bk e'=>simp only[hs] at h2;exact h2
    |rt d fr=>simp only[hs] at h2;exact h2
    |bad=>simp only[hs] at h2;exact h2
 .left;have e:i=p.1.length:=by omega
  subst e;rw[û] at h2;exact⟨w2,h2 σ2 H2 F2 (After.same MA.re MA.z (aG.refl _))⟩
end
noncomputable def iV (cells:List (Str×Addr)):List (Str×NameKind)->List (Str×Addr)->List (Str×Addr)
 |[],acc=>acc
 | (n,k)::r,acc=>iV cells r (if k == .free then (match cells.lookup n with|some c=>(n,c)::acc|none=>acc) else acc)
variable {env:ù}{scope:Scope}
theorem vD (h:∀x,(x,Χ)∈scope.names->∃c,env.cells.lookup x=θ c):Ŵ scope env=pure (iV env.cells scope.names []):=by
 unfold Ŵ;have gen:∀(names:List (Str×NameKind)) (acc:List (Str×Addr)),(∀x,(x,Χ)∈names->∃c,env.cells.lookup x=θ c) ->
   (forIn names acc λ(p:Str×NameKind) (cs:List (Str×Addr))=>(match p with
    | (name,kind)=>if (kind == .free)=ζ then (do let c <- cellOf env name;pure (ZD ((name,c)::cs))) else pure (ZD cs):o? (ForInStep (List (Str×Addr)))))=(pure (iV env.cells names acc):o? (List (Str×Addr))):=by
  intro names
  induction names with
  |nil=>intro acc _;rfl
  |cons x r ih=>
   intro acc hx;obtain⟨n,k⟩:=x;rw[List.forIn_cons];simp only[iV];have hr:∀x,(x,Χ)∈r->∃c,env.cells.lookup x=θ c:=λx hm=>hx x (aa _ hm)
   by_cases hk:(k==Χ)=ζ
   .have e:k=.free:=by simpa using hk
    subst e;obtain⟨c,hc⟩:=hx n ag;simp only[hk,if_true,cellOf,hc];exact ih ((n,c)::acc) hr
   .simp only[hk,if_false];exact ih acc hr
 have:=gen scope.names [] h;simpa using this
variable {cells:List (Str×Addr)}
theorem qR {c:Addr}:∀{names:List (Str×NameKind)}{acc:List (Str×Addr)},(∀y d,acc.lookup y=θ d->cells.lookup y=θ d)->(iV cells names acc).lookup x=θ c->cells.lookup x=θ c
 |[],acc,ha,h=>ha x c h
 | (n,k)::r,acc,ha,h=>by
  simp only[iV] at h;refine qR (names:=r) (λy d q=>?_) h;by_cases hk:(k==Χ)=ζ
  .rw[if_pos hk] at q;cases hc:cells.lookup n with
   |none=>rw[hc] at q;exact ha y d q
   |some e=>
    rw[hc] at q;simp only[de] at q;cases hy:y==n with
    |true=>
     rw[hy] at q;have:=eq_of_beq hy;subst this;rw[hc];exact q
    |false=>rw[hy] at q;exact ha y d q
  .rw[if_neg hk] at q;exact ha y d q
theorem qQ:∀{names:List (Str×NameKind)}{acc:List (Str×Addr)},(∃c,acc.lookup x=θ c)->∃c,(iV cells names acc).lookup x=θ c
 |[],acc,h=>h
 | (n,k)::r,acc,h=>by
  simp only[iV];refine qQ (names:=r) ?_;by_cases hk:(k==Χ)=ζ
  .rw[if_pos hk];cases hc:cells.lookup n with
   |none=>exact h
   |some e=>
    simp only[de];cases hy:x==n with
    |true=>exact⟨e,rfl⟩
    |false=>exact h
  .rw[if_neg hk];exact h
theorem oA {c:Addr}(hc:cells.lookup x=θ c):∀{names:List (Str×NameKind)}{acc:List (Str×Addr)},(x,Χ)∈names->∃c,(iV cells names acc).lookup x=θ c
 |[],acc,h=>by cases h
 | (n,k)::r,acc,h=>by
  simp only[iV];rcases dm.mp h with e|h
  .cases e;refine qQ (names:=r) ?_;simp only[beq_self_eq_true,if_true,hc,de];exact⟨c,rfl⟩
  .exact oA hc (names:=r) h
noncomputable def inner (X:Cx)(scope:Scope)(N':List Str)(C:Addr)(s0:μ)(H0:Hp)(ex:List Addr):Cx :=
 { X with N:=N',s₀:=s0,H₀:=H0,env:=n! scope (ii (C+1) scope.names (iV X.env.cells scope.names [])) C X.env,outer:=X.stack,stack:=X.stack,ex:=ex,fn:=λx=>scope.names.lookup x==θ .cell,pn:=[],xe:=λ_ _=>False }
structure eW (X:Cx)(scope:Scope)(N':List Str)(pick:List (Option Nat)):Prop where
 kind:scope.kind=.function
 cells:∀y∈scope.names,y.2=.cell->scope.names.lookup y.1=θ .cell
 names:∀y∈scope.names,y.2=.local->scope.names.lookup y.1=θ .local
 len:pick.length=N'.length
 outer:∀x,scope.names.lookup x=θ .free->(X.env.kindOf x=θ .cell\/X.env.kindOf x=θ .free)
 free:∀x,(x,Χ)∈scope.names->scope.names.lookup x=θ .free
 pick:∀(i j:Nat) (x:Str),pick[i]? = θ (θ j)->N'[i]? = θ x->scope.names.lookup x=θ .free/\X.N[j]? = θ x
noncomputable def gX (σ:L2.St)(pick:List (Option Nat)):L2.St:=pick.map λo=>o.bind λj=>(σ[j]?).join
theorem fO:∀{names:List (Str×NameKind)}{x:Str}{k:NameKind},(names.map λ(n,k)=>if (k==Χ&&env.scope.kind == .function&&env.kindOf n==θ .cell) then (n,zn) else (n,k)).lookup x=θ k ->
  ∃k0,names.lookup x=θ k0/\(k=k0\/(k0=.free/\k=.cell))
 |[],_,_,h=>by simp at h
 | (n,k0)::r,x,k,h=>by
  rw[bo] at h;by_cases hc:(k0==Χ&&env.scope.kind == .function&&env.kindOf n==θ .cell)=ζ
  .simp only[hc,if_true,de] at h;simp only[de];cases hx:x==n with
   |true=>
    rw[hx] at h;cases h;rw[ai,ai] at hc;exact⟨k0,rfl,.inr ⟨by simpa using hc.1.1,rfl⟩⟩
   |false=>rw[hx] at h;exact fO h
  .have hc:(k0==Χ&&env.scope.kind == .function&&env.kindOf n==θ .cell)=ε:=by simpa using hc
   simp only[hc,c9,if_false,de] at h;simp only[de];cases hx:x==n with
   |true=>rw[hx] at h;cases h;exact⟨k0,rfl,.inl rfl⟩
   |false=>rw[hx] at h;exact fO h
theorem gN:∀{names:List (Str×NameKind)}{x:Str},names.lookup x=θ .free ->
  (names.map λ(n,k)=>if (k==Χ&&env.scope.kind == .function&&env.kindOf n==θ .cell) then (n,zn) else (n,k)).lookup x=θ .cell \/
  (names.map λ(n,k)=>if (k==Χ&&env.scope.kind == .function&&env.kindOf n==θ .cell) then (n,zn) else (n,k)).lookup x=θ .free
 |[],_,h=>by simp at h
 | (n,k0)::r,x,h=>by
  rw[bo];by_cases hc:(k0==Χ&&env.scope.kind == .function&&env.kindOf n==θ .cell)=ζ
  .simp only[hc,if_true,de] at h ⊢;cases hx:x==n with
   |true=>left;rfl
   |false=>rw[hx] at h;exact gN h
  .have hc:(k0==Χ&&env.scope.kind == .function&&env.kindOf n==θ .cell)=ε:=by simpa using hc
   simp only[hc,c9,if_false,de] at h ⊢;cases hx:x==n with
   |true=>rw[hx] at h;cases h;right;rfl
   |false=>rw[hx] at h;exact gN h
theorem jN:∀(names:List (Str×NameKind)) (n:Nat) (acc:List (Str×Addr)),ii n names acc=ii n names []++acc
 |[],_,_=>rfl
 | (nm,k)::r,n,acc=>by
  unfold ii;split
  .rw[jN r (n+1) ((nm,n)::acc),jN r (n+1) [(nm,n)],fi];rfl
  .exact jN r n acc
theorem vM:∀(names:List (Str×NameKind)) (n:Nat) {x:Str}{c:Addr},(x,c)∈ii n names []->(x,zn)∈names
 |[],_,_,_,h=>by cases h
 | (nm,k)::r,n,x,c,h=>by
  unfold ii at h;split at h
  .rename_i hk;rw[jN] at h;rcases ig.mp h with h|h
   .exact aa _ (vM r _ h)
   .have e:(x,c)=(nm,n):=by simpa using h
    cases e;rw[show k=.cell by simpa using hk];exact ag
  .exact aa _ (vM r _ h)
theorem rO:∀(names:List (Str×NameKind)) (n:Nat) {x:Str},(x,zn)∈names->∃c,(ii n names []).lookup x=θ c
 | (nm,k)::r,n,x,h=>by
  unfold ii;rcases dm.mp h with e|h
  .cases e;rw[if_pos (by decide),jN,i4];cases (ii (n+1) r []).lookup nm with
   |some c=>exact⟨c,rfl⟩
   |none=>exact⟨n,by simp⟩
  .split
   .obtain⟨c,hc⟩:=rO r (n+1) h;rw[jN,i4,hc];exact⟨c,rfl⟩
   .exact rO r n h
variable {A:Ρ}
theorem nfe {M:Ě}{E:Value->μ->Prop}{globals:Addr}{cl:List (Str×Addr)}{qual:Str}{Q:ù->μ->Prop}
  (h:Q { scope:=scope,locals:=s.heap.objs.size,globals:=globals,cells:=ii (s.heap.objs.size+1) scope.names cl,qual:=qual,func:=η,code:=env.code,frame:=env.frame,builtins:=env.builtins } { s with heap:=ZO (s.heap.push { cls:=.type "dict",data:=.dict #[] }) scope.names }) :
  Β M A (ġ scope globals cl [] qual η .none (θ env)) Q E s:=by
 simp only[ġ,Option.isSome_some,if_true];refine ν (wpAny_alloc (ν (wpAny_layCells _ (λname kind cells=>by cases VI:kind==zn<;>simp[VI]) _ _ _ _ ?_)));rw[show ({ s with heap:=s.heap.push { cls:=.type "dict",data:=.dict #[] } }:μ).heap.objs.size=s.heap.objs.size+1 from Op ..];exact Μ h
variable {fp:List Addr}
section
variable {X:Cx}{scope:Scope}{N':List Str}{pick:List (Option Nat)}{pins:List (Addr×Obj)}{σ:L2.St}{H:Hp}{s:μ}
theorem t4 (S:eW X scope N' pick)(I:Inv X pins σ H s)(hf:∀b∈fp,kF X pins H b)(hl:∀b∈fp,b<s.heap.objs.size) :
  Inv (inner X scope N' s.heap.objs.size s H fp) [] (gX σ pick) H { s with heap:=ZO (s.heap.push { cls:=.type "dict",data:=.dict #[] }) scope.names }:=by
 have old:∀x c,(iV X.env.cells scope.names []).lookup x=θ c->X.env.cells.lookup x=θ c:=λx c h=>qR (acc:=[]) (λy d q=>by simp at q) h
 have hk:∀b o,s.heap.get? b=θ o->(ZO (s.heap.push { cls:=.type "dict",data:=.dict #[] }) scope.names).get? b=θ o:=λb o e=>Ċ _ _ b o (τ _ e)
 have hn:(ZO (s.heap.push { cls:=.type "dict",data:=.dict #[] }) scope.names).Ns s.heap.objs.size (λ_=>η):=(Heap.Ns.new s.heap (.type "dict")).keeps (Ċ _ _);have ok:=cellsFrom_ok scope.names (s.heap.push { cls:=.type "dict",data:=.dict #[] }) (s.heap.objs.size+1) [] ⟨λ_ _ hm=>(nomatch hm),Ð⟩ (by rw[Op];exact au _);rw[Op] at ok;generalize hh:ZO (s.heap.push { cls:=.type "dict",data:=.dict #[] }) scope.names=h' at *;have PX:∀x c,X.env.cells.lookup x=θ c->c<s.heap.objs.size:=λx c h=>by
  obtain⟨v,hv⟩:=I.cell x c h;exact hv.lt
 have look:∀x c,(ii (s.heap.objs.size+1) scope.names (iV X.env.cells scope.names [])).lookup x=θ c->((x,c)∈ii (s.heap.objs.size+1) scope.names []/\s.heap.objs.size+1<=c)\/((x,zn)∉scope.names/\X.env.cells.lookup x=θ c):=λx c h=>by
  rw[jN,i4] at h;cases q:(ii (s.heap.objs.size+1) scope.names []).lookup x with
  |some c'=>
   rw[q] at h;cases h;have hm:=cj q;exact .inl ⟨hm,(ok.empty _ _ hm).2⟩
  |none=>
   rw[q] at h;refine .inr ⟨λz=>?_,old x c h⟩;obtain⟨c',OT⟩:=rO scope.names (s.heap.objs.size+1) z;rw[q] at OT;cases OT
 have sees:∀x c,scope.names.lookup x=θ .free->(iV X.env.cells scope.names []).lookup x=θ c->(ii (s.heap.objs.size+1) scope.names (iV X.env.cells scope.names [])).lookup x=θ c:=λx c hx h=>by
  rw[jN,i4];cases q:(ii (s.heap.objs.size+1) scope.names []).lookup x with
  |some c'=>
   have:=S.cells _ (vM _ _ (cj q)) rfl;rw[hx] at this;cases this
  |none=>rw[h];rfl
 refine⟨⟨I.ok.mod,S.kind,I.ok.glob,I.ok.blt,au _,λx y c h1 h2=>?inj,λx hx=>?_,λx c hx h=>?O1,I.ok.hd,I.ok.frames,.inl rfl,λb hb=>?_,I.bs,bp I.ok.Oo I.sz,λb o e hb=>?_,λb hb Ng=>?_,I.stack,I.MW⟩,
  rfl,I.bare,Un.kept hk,⟨_,hn,λi x v h1 h2 h3=>?_⟩,λx c h=>?_,I.Mc.fresh (au _),λx c h=>?frc,λp hp=>absurd (show p∈([]:List (Addr×Obj)) from hp) (by simp),I.Mc.kept hk,?_⟩
 case inj=>
  rcases look x c h1 with ⟨m1,l1⟩|⟨_,o1⟩<;>rcases look y c h2 with ⟨m2,l2⟩|⟨_,o2⟩
  .exact x_ ok.apart m1 m2
  .exact absurd (av (PX y c o2) (ö l1)) (fe _)
  .exact absurd (av (PX x c o1) (ö l2)) (fe _)
  .exact I.ok.inj x y c o1 o2
 case O1=>
  have hx:scope.names.lookup x=θ .cell:=by simpa[inner] using hx
  rcases look x c h with ⟨_,l1⟩|⟨n1,_⟩
  .exact bp (ZX _) l1
  .exact absurd (cj hx) n1
 case frc=>
  rcases look x c h with ⟨_,l1⟩|⟨_,o1⟩
  .exact I.Mc.fresh (bp (ZX _) l1)
  .exact I.Mn x c o1
 .have hx:(b? scope X.env).names.lookup x=θ .cell\/(b? scope X.env).names.lookup x=θ .free:=hx;have Mu:scope.names.lookup x=θ .free\/scope.names.lookup x=θ .cell:=by
   rcases hx with hx|hx
   .obtain⟨k0,h1,h2|⟨h2,_⟩⟩:=fO hx
    .subst h2;exact .inr h1
    .rw[h2] at h1;exact .inl h1
   .obtain⟨k0,h1,h2|⟨h2,h3⟩⟩:=fO hx
    .subst h2;exact .inl h1
    .cases h3
  rcases Mu with Mu|Mu
  .obtain⟨c,hc⟩:=I.ok.has x (S.outer x Mu);obtain⟨c',OT⟩:=oA (acc:=[]) hc (cj Mu);exact⟨c',sees x c' Mu OT⟩
  .obtain⟨c,hc⟩:=rO scope.names (s.heap.objs.size+1) (cj Mu);refine⟨c,?_⟩;show (ii (s.heap.objs.size+1) scope.names (iV X.env.cells scope.names [])).lookup x=θ c;rw[jN,i4,hc];rfl
 .refine⟨a8 (hl b hb),λx c h=>?_⟩;rcases look x c h with ⟨_,l1⟩|⟨_,o1⟩
  .exact λe=>fe _ (av (hl b hb) (e ▸ ö l1))
  .exact (hf b hb).2.2.2.2.1 x c o1
 .obtain⟨f0,f1,f2,f3,f4,f5⟩:=hf b hb;rcases f3 with f3|f3
  .exact I.ok.Nf b o e f3
  .exact absurd (av (Α e) (bp I.ok.Oo f3)) (fe _)
 .obtain⟨f0,f1,f2,f3,f4,f5⟩:=hf b hb;exact (dm.mp (I.NN b Ng)).elim f1 f2
 ·
  have MU:(pick.map λo=>o.bind λj=>(σ[j]?).join)[i]? = θ (θ v):=h2;rw[π] at MU;cases hp:pick[i]? with
  |none=>rw[hp] at MU;cases MU
  |some o=>
   rw[hp] at MU;cases o with
   |none=>simp at MU
   |some j=>
    simp only[cq,Option.bind_some,cz] at MU;have hj:σ[j]? = θ (θ v):=by
     cases q:σ[j]? with
     |none=>rw[q] at MU;cases MU
     |some o=>rw[q] at MU;cases o with
      |none=>cases MU
      |some w=>simp at MU;rw[MU]
    obtain⟨k1,k2⟩:=S.pick i j x hp h1;obtain⟨m0,hn0,Tz⟩:=I.loc;have Qe:yj X.env.scope x:=by
     rcases S.outer x k1 with q|q
     .exact .inr (.inl q)
     .exact .inr (.inr q)
    obtain⟨u,r,lk⟩:=Tz j x v k2 hj Qe;refine⟨u,r,?_⟩;rcases lk with ⟨z,_⟩|⟨_,c,hc,Nc⟩
    .rcases S.outer x k1 with q|q<;>· rw[z] at q;cases q
    .obtain⟨c',OT⟩:=oA (names:=scope.names) (acc:=[]) hc (cj k1);have:=old x c' OT;rw[hc] at this;cases this;refine .inr ⟨gN k1,c,sees x c k1 OT,?_⟩;obtain⟨o,ho,hd⟩:=Nc;exact⟨o,hk c o ho,hd⟩
 .rcases look x c h with ⟨m1,_⟩|⟨_,o1⟩
  .exact⟨η,(ok.empty _ _ m1).1⟩
  .obtain⟨v,o,ho,hd⟩:=I.cell x c o1;exact⟨v,o,hk c o ho,hd⟩
 .show (pick.map _).length=N'.length;rw[aj,S.len]
end
noncomputable abbrev w8 (ifs:List Expr)(env:ù):o? Bool:=forIn ifs ζ λc r=>if r=ζ then do let ok <- isTrue c env (eval c env);pure (ZD ok) else pure (ZD r)
noncomputable def Jh (X:Cx)(ifs:List Expr)(t:TT):Prop :=
 ∀(pins:List (Addr×Obj)) (s:μ) (σ:L2.St) (H:Hp) (Q:Bool->Hp->Prop),Inv X pins σ H s->t σ H Q->Β (Ζ X.prog X.w) X.A (w8 ifs X.env) (TP X pins σ Q) X.xe s
variable {X:Cx}
theorem C5:Jh X [] (λ_ H Q=>Q ζ H):=λ_ _ _ H Q I h=>wpAny_tests_nil ⟨H,I,h⟩
theorem D2 {c:Expr}{t:TT}(h:PT X c t):Jh X [c] t:=λpins s σ H Q I q=>wpAny_tests_one (h pins s σ H Q I q)
variable {elt:Expr}{ifs:List Expr}
section
variable {prog:Program}{w:Ξ}{A:Ρ}{R:Ô->μ->Prop}{s:μ}
theorem u9 {target:Expr}{it acc:Value}(I:Nat->μ->Prop)
  (turn:∀n s,I n s->Β (Ζ prog w) A (pyNext it) (λr s₁=>match r with
   |none=>R (.ok .next) s₁
   |some v=>Β (Ζ prog w) A (Z3 target it v) (λ_ s₀=>Β (Ζ prog w) A (ä target env v) (λ_ s₂=>
     Β (Ζ prog w) A (w8 ifs env) (λok s₃=>
      if ok=ζ then Β (Ζ prog w) A (eval elt env) (λx s₄=>
       Β (Ζ prog w) A (call (.builtin "list.append") [acc,x]) (λ_ s₅=>∃m,m<n/\I m s₅) (λ_ _=>False) s₄) (λ_ _=>False) s₃
      else ∃m,m<n/\I m s₃) (λ_ _=>False) s₂) (λ_ _=>False) s₀) (λ_ _=>False) s₁) (λ_ _=>False) s)
  (n:Nat) (h:I n s):On (Ζ prog w) A (.compLoop (.ListComp elt [⟨target,ul,ifs,0⟩] scope pos) 0 it acc env) R s:=by
 refine codeAny_loop rfl I (λn s hI=>?_) n h;show Β _ A ((compTurn (.ListComp elt [⟨target,ul,ifs,0⟩] scope pos) 0 it acc env).onRaise (λx=>do ê x env;theTreesLotGoes x)) _ _ s;refine wpAny_noted ?_;rw[compTurn_list];refine ν (EQ (ν (Θ (turn n s hI) (λr s₁ h₁=>?_) λ_ _ h'=>h'.elim)));cases r with
 |none=>exact Μ h₁
 |some v=>
  refine ν (Θ h₁ (λ_ s₀ h₀=>?_) λ_ _ h'=>h'.elim);refine ν (Θ h₀ (λ_ s₂ h₂=>ν (Θ h₂ (λok s₃ h₃=>?_) λ_ _ h'=>h'.elim)) λ_ _ h'=>h'.elim);cases ok with
  |false=>exact Μ ⟨rfl,h₃⟩
  |true=>
   exact ν (ν (Θ h₃ (λx s₄ h₄=>ν (Θ h₄ (λ_ s₅ h₅=>Μ (Μ ⟨rfl,h₅⟩)) λ_ _ h'=>h'.elim)) λ_ _ h'=>h'.elim))
end
def Bp (pick:List (Option Nat))(wi:TI)(g:TG)(tt:TT)(te:TE):TE:=λσ H Q=>wi σ H λJ H1=>∀l,H1 l=η->∃W:Nat->Nat->Hp->Prop,(∃m,W 0 m (upd H1 l (.lst [])))/\∀i m H,W i m H ->
 (J.stop i H/\Q (.ref l) H)\/(J.go i H/\∃N:Hp->Prop,(∀H',N H'->∃m',m'<m/\W (i+1) m' H')/\∀x H',J.Q9 i H x H'->g x (gX σ pick) H' λσ2 H2=>
  tt σ2 H2 λb H3=>if b=ζ then te σ2 H3 λy H4=>∃xs,H4 l=θ (.lst xs)/\xs.length<sizeLine/\N (upd H4 l (.lst (xs ++ [y]))) else N H3)
section
variable {X:Cx}{scope:Scope}{N':List Str}{pick:List (Option Nat)}{tg ul elt:Expr}{ifs:List Expr}{pos:No}{wi:TI}{g:TG}{tt:TT}{te:TE}
theorem pq (S:eW X scope N' pick)(hc:X.calm=ζ)(Py:∀C s0 H0 ex,PG (inner X scope N' C s0 H0 ex) tg g/\Jh (inner X scope N' C s0 H0 ex) ifs tt/\PE (inner X scope N' C s0 H0 ex) elt te)
  (gk:∀(v:V) (σ:L2.St) (H:Hp) (Q:L2.St->Hp->Prop),g v σ H Q->g v σ H λσ' H'=>Q σ' H'/\σ'.length=σ.length/\∀(i:Nat) u,pick[i]?≠θ η->σ[i]? = θ u->σ'[i]? = θ u)
  {σ:L2.St}{it:Addr}{tn:Nat->Heap->Prop}{J:It}{E:Value->μ->Prop}{RR:Value->Addr->Ô->μ->Prop}(I:Inv X pins σ H s) (T:Turn X.prog X.w X.K tg J fp it tn) (st:tn 0 s.heap) (hf:∀b∈fp,kF X pins H b)
  (Q:VK) (h:∀l,H l=η->∃W:Nat->Nat->Hp->Prop,(∃m,W 0 m (upd H l (.lst [])))/\∀i m H,W i m H ->
   (J.stop i H/\Q (.ref l) H)\/(J.go i H/\∃N:Hp->Prop,(∀H',N H'->∃m',m'<m/\W (i+1) m' H')/\∀x H',J.Q9 i H x H'->g x (gX σ pick) H' λσ2 H2=>
    tt σ2 H2 λb H3=>if b=ζ then te σ2 H3 λy H4=>∃xs,H4 l=θ (.lst xs)/\xs.length<sizeLine/\N (upd H4 l (.lst (xs ++ [y]))) else N H3))
  (hR:∀(l C:Addr) (s':μ) (H':Hp) (m:Str->Option Value),s'.heap.Ns C m->kF X pins H' C->Q (.ref l) H'->Inv X pins σ H' s'->RR (.ref l) C (.ok .next) s') :
  Β (Ζ X.prog X.w) X.A (newList []) (λacc s₃=>Β (Ζ X.prog X.w) X.A (ġ scope X.env.globals (iV X.env.cells scope.names []) [] X.env.qual η .none (θ X.env)) (λSJ s₄=>
   On (Ζ X.prog X.w) X.A (.compStart (.ListComp elt [⟨tg,ul,ifs,0⟩] scope pos) 0 (.ref it) acc { SJ with scope:=b? scope X.env }) (RR acc SJ.locals) s₄) E s₃) E s:=by
 have Sf:∀b∈fp,b<s.heap.objs.size:=λb hb=>let ⟨o,e,_⟩:=T.obj 0 _ st b hb;Α e
 refine Ê (nfe ?_);dsimp only;have I3:Inv X pins σ (upd H s.heap.objs.size (.lst [])) { s with heap:=s.heap.push { cls:=.type "list",data:=.seq ([]:List Value).toArray } }:=I.Qu (ys:=[]) (aH:=[]) (t':=s.toks) .nil (dh _);obtain⟨W,⟨m0,w0⟩,turn⟩:=h s.heap.objs.size I.fresh;have hC:(s.heap.push { cls:=.type "list",dict:=η,data:=.seq ([]:List Value).toArray }).objs.size=s.heap.objs.size+1:=Op ..;have YF:∀b∈fp,kF X pins (upd H s.heap.objs.size (.lst [])) b:=λb hb=>⟨by rw[aL (a8 (Sf b hb))];exact (hf b hb).1,(hf b hb).2⟩
 have RT:∀b o,(s.heap.push { cls:=.type "list",dict:=η,data:=.seq ([]:List Value).toArray }).get? b=θ o->(ZO ((s.heap.push { cls:=.type "list",dict:=η,data:=.seq ([]:List Value).toArray }).push { cls:=.type "dict",data:=.dict #[] }) scope.names).get? b=θ o:=λb o e=>Ċ _ _ b o (τ _ e)
 have I4:=t4 (s:={ s with heap:=s.heap.push { cls:=.type "list",dict:=η,data:=.seq ([]:List Value).toArray } }) S I3 YF (λb hb=>by show b<(s.heap.push _).objs.size;rw[hC];exact i8 (Sf b hb));dsimp only at I4;generalize hh₁:ZO ((s.heap.push { cls:=.type "list",dict:=η,data:=.seq ([]:List Value).toArray }).push { cls:=.type "dict",data:=.dict #[] }) scope.names=h₁ at *;have XT:tn 0 h₁:=T.keep 0 _ _ st λb hb o e=>RT b o (τ _ e)
 generalize hY:inner X scope N' (s.heap.push { cls:=.type "list",dict:=η,data:=.seq ([]:List Value).toArray }).objs.size { s with heap:=s.heap.push { cls:=.type "list",dict:=η,data:=.seq ([]:List Value).toArray } } (upd H s.heap.objs.size (.lst [])) fp=Y at I4;have Sz:=Py (s.heap.push { cls:=.type "list",dict:=η,data:=.seq ([]:List Value).toArray }).objs.size { s with heap:=s.heap.push { cls:=.type "list",dict:=η,data:=.seq ([]:List Value).toArray } } (upd H s.heap.objs.size (.lst [])) fp;rw[hY] at Sz;obtain⟨yg,yt,ye⟩:=Sz;have yE:Y.env=n! scope (ii ((s.heap.push { cls:=.type "list",dict:=η,data:=.seq ([]:List Value).toArray }).objs.size+1) scope.names (iV X.env.cells scope.names [])) (s.heap.push { cls:=.type "list",dict:=η,data:=.seq ([]:List Value).toArray }).objs.size X.env:=by rw[<-hY];rfl
 have hCL:(s.heap.push { cls:=.type "list",dict:=η,data:=.seq ([]:List Value).toArray }).objs.size≠X.env.locals:=by
  rw[hC];exact Ĝ (i8 I.lt)
 have back:∀{H5:Hp}{s5:μ},Inv Y [] (gX σ pick) H5 s5->Q (.ref s.heap.objs.size) H5->RR (.ref s.heap.objs.size) (s.heap.push { cls:=.type "list",dict:=η,data:=.seq ([]:List Value).toArray }).objs.size (.ok .next) s5:=λ{H5 s5} I5 q=>by
  subst hY;obtain⟨m,hn,_⟩:=I5.loc;have J5:Inv X pins σ H5 s5:=Inv.SK I3 I5.os I5.base I5.Mc I5.bare λb hb=>by
   obtain⟨f0,f1,f2,f3,f4,f5⟩:=hf b hb;exact⟨f3,f1,f4,f5⟩
  have Yl:∀{b:Addr}{o:Obj},s.heap.get? b=θ o->b≠(s.heap.push { cls:=.type "list",dict:=η,data:=.seq ([]:List Value).toArray }).objs.size:=λe=>by rw[hC];exact a8 (i8 (Α e))
  refine hR _ _ s5 H5 m hn ⟨I5.free,hCL,I.RD (by rw[hC];exact ZX _),.inr (by rw[hC];exact Ŋ I.sz),λx c e z=>?_,λp hp z=>?_⟩ q J5
  .obtain⟨v,o,ho,_⟩:=I.cell x c e;exact Yl ho z
  .exact Yl (I.pin p hp).1 z
 have yP:Y.prog=X.prog:=by rw[<-hY];rfl
 have yw:Y.w=X.w:=by rw[<-hY];rfl
 have yK:Y.K=X.K:=by rw[<-hY];rfl
 have yA:Y.A=X.A:=by rw[<-hY];rfl
 have yc:Y.calm=ζ:=by rw[<-hY];exact hc
 have yx:Y.xe=λ_ _=>False:=by rw[<-hY];rfl
 have yp:Y.pn=[]:=by rw[<-hY];rfl
 have yex:Y.ex=fp:=by rw[<-hY];rfl
 have NO:∀{H':Hp},(∀b∈fp,H' b=η)->∀b∈fp,kF Y [] H' b:=λ{H'} hn b hb=>by
  have Ng:b∈Y.ex:=by rw[yex];exact hb
  obtain⟨x1,x2⟩:=I4.ok.QO b Ng;exact⟨hn b hb,x1,I4.ok.Nj b Ng,.inl Ng,x2,λp hp=>by rw[yp] at hp;cases hp⟩
 rw[<-yP,<-yw,<-yA];have loop:On (Ζ Y.prog Y.w) Y.A (.compLoop (.ListComp elt [⟨tg,ul,ifs,0⟩] scope pos) 0 (.ref it) (.ref s.heap.objs.size) Y.env) (RR (.ref s.heap.objs.size) (s.heap.push { cls:=.type "list",dict:=η,data:=.seq ([]:List Value).toArray }).objs.size) { s with heap:=h₁ }:=by
  refine u9 (λn s5=>∃i H5,Inv Y [] (gX σ pick) H5 s5/\tn i s5.heap/\(∀b∈fp,H5 b=η)/\W i n H5) ?_ m0 ⟨0,_,I4,XT,λb hb=>(YF b hb).1,w0⟩;rintro n s5 ⟨i,H5,I5,QX,TL,w5⟩;rcases turn i n H5 w5 with ⟨stop,qn⟩|⟨go,N,hN,step⟩
  .have d:=T.done Y yP yw yK yc i [] s5 (gX σ pick) H5 (λ_ _=>False) I5 (NO TL) QX stop;rw[<-yP,<-yw] at d;refine cI d λr s6 ⟨hr,I6⟩=>?_
   subst hr;exact back I6 qn
  .have d:=T.item Y yP yw yK yc i [] s5 (gX σ pick) H5 (λ_ _=>False) I5 (NO TL) QX go;rw[<-yP,<-yw] at d;refine cI d λr s6 ⟨u,hr,h6⟩=>?_
   subst hr;refine cI h6 λ_ s7 ⟨x,H7,I7,r7,y7,Uq,fr7⟩=>?_
   have I7':=I7.pinned (NO fr7) (T.obj _ _ Uq);have XO:=yg _ s7 (gX σ pick) H7 x u _ I7' r7 (gk _ _ _ _ (step x H7 y7));rw[yx] at XO;refine cI XO λ_ s8 ⟨σ8,H8,I8,q8,l8,k8⟩=>?_
   have XN:=yt _ s8 σ8 H8 _ I8 q8;rw[yx] at XN;refine cI XN λb s9 ⟨H9,I9,q9⟩=>?_
   have again:∀{σ':L2.St}{H':Hp}{s':μ},Inv Y ([]++pf fp s7.heap) σ' H' s'->σ'=σ8->N H'->∃m,m<n/\∃i H5,Inv Y [] (gX σ pick) H5 s'/\tn i s'.heap/\(∀b∈fp,H5 b=η)/\W i m H5:=λ{σ' H' s'} J e nn=>by
    subst e;obtain⟨m',hm,w'⟩:=hN H' nn;refine⟨m',hm,i+1,H',(J.MC).weak (l8.symm) (λj v e=>?_),T.keep _ _ _ Uq λb hb o e=>(J.pin (b,o) (ao _ (ao _ (fX hb e)))).1,λb hb=>?_,w'⟩
    .refine k8 j _ (λz=>?_) e;unfold gX at e;rw[π,z] at e;simp at e
    .obtain⟨o,e,_⟩:=T.obj _ _ Uq b hb;exact (J.pin (b,o) (ao _ (ao _ (fX hb e)))).2.1
   cases b with
   |false=>
    rw[if_neg ay];exact again I9 rfl q9
   |true=>
    rw[if_pos rfl];have q9:te σ8 H9 λy H4=>∃xs,H4 s.heap.objs.size=θ (.lst xs)/\xs.length<sizeLine/\N (upd H4 s.heap.objs.size (.lst (xs ++ [y]))):=q9
    have XQ:=ye _ s9 σ8 H9 _ I9 q9;rw[yx] at XQ;refine cI XQ λv s10 ⟨y,H10,I10,r10,xs,PB,T4,n10⟩=>?_
    have ap:=qo _ s10 σ8 H10 (.ref s.heap.objs.size) [y] (.ref s.heap.objs.size) [v] (λ_ H'=>N H') I10 rfl (.cons r10 .nil) ⟨s.heap.objs.size,xs,y,rfl,rfl,PB,T4,n10⟩;rw[yx] at ap;exact cI ap λ_ s11 ⟨_,H11,I11,_,n11⟩=>again I11 rfl n11
 show On (Ζ Y.prog Y.w) Y.A (.compStart (.ListComp elt [⟨tg,ul,ifs,0⟩] scope pos) 0 (.ref it) (.ref s.heap.objs.size) (n! scope (ii ((s.heap.push { cls:=.type "list",dict:=η,data:=.seq ([]:List Value).toArray }).objs.size+1) scope.names (iV X.env.cells scope.names [])) (s.heap.push { cls:=.type "list",dict:=η,data:=.seq ([]:List Value).toArray }).objs.size X.env))
  (RR (.ref s.heap.objs.size) (s.heap.push { cls:=.type "list",dict:=η,data:=.seq ([]:List Value).toArray }).objs.size) { s with heap:=h₁ }
 rw[<-yE];refine codeAny_compStart_list loop ?_;have l2:=loop;rw[yP,yw] at l2 ⊢;exact T.self Y.A 0 _ _ _ XT l2
theorem gT (S:eW X scope N' pick)(hh:∀x,(X.env.kindOf x=θ .cell\/X.env.kindOf x=θ .free)->∃c,X.env.cells.lookup x=θ c):Ŵ scope X.env=pure (iV X.env.cells scope.names []) :=
 vD λx hx=>hh x (S.outer x (S.free x hx))
theorem D7 (S:eW X scope N' pick)(hc:X.calm=ζ)(hi:PI X tg ul wi)(Py:∀C s0 H0 ex,PG (inner X scope N' C s0 H0 ex) tg g/\Jh (inner X scope N' C s0 H0 ex) ifs tt/\PE (inner X scope N' C s0 H0 ex) elt te)
  (gk:∀(v:V) (σ:L2.St) (H:Hp) (Q:L2.St->Hp->Prop),g v σ H Q->g v σ H λσ' H'=>Q σ' H'/\σ'.length=σ.length/\∀(i:Nat) u,pick[i]?≠θ η->σ[i]? = θ u->σ'[i]? = θ u) (hs:∀x,Do ul X.env x=pure x) :
  PE X (.ListComp elt [⟨tg,ul,ifs,0⟩] scope pos) (Bp pick wi g tt te):=by
 intro pins s σ H Q I h;rw[eval_ListComp];refine į (use:=η) rfl hs (gT S I.ok.has) S.kind S.names (cI (hi pins s σ H _ I h) λv s1 h1=>cI h1 λRU s2 h2=>?_);obtain⟨it,fp,tn,J,H2,e,I2,T,Ri,f2,q⟩:=h2;subst e;refine pq (RR:=λacc C=>compPost (Ζ X.prog X.w) X.A X.xe η (EP X pins σ Q) acc C) S hc Py gk I2 T Ri f2 Q q λl C s' H' m hn fc hq J0=>?_
 obtain⟨f0,f1,f2,f3,f4,f5⟩:=fc;exact⟨m,hn,λh' sb=>⟨.ref l,H',J0.turned (t':=s'.toks) (λb o hb e=>sb.extBut b o hb e) f0 f1 f3 f4 f5,rfl,hq⟩⟩
theorem wj {Rj:No}(S:eW X scope N' pick)(hc:X.calm=ζ)(hi:PI X tg ul wi)(Py:∀C s0 H0 ex,PG (inner X scope N' C s0 H0 ex) tg g/\Jh (inner X scope N' C s0 H0 ex) ifs tt/\PE (inner X scope N' C s0 H0 ex) elt te)
  (gk:∀(v:V) (σ:L2.St) (H:Hp) (Q:L2.St->Hp->Prop),g v σ H Q->g v σ H λσ' H'=>Q σ' H'/\σ'.length=σ.length/\∀(i:Nat) u,pick[i]?≠θ η->σ[i]? = θ u->σ'[i]? = θ u) (hs:∀x,Do ul X.env x=pure x)
  (hN:X.N.Nodup) (hx:X.N[i]? = θ x) (hl:Loc X.env.scope x) (hf:X.fn x=ζ\/X.env.scope.names.lookup x=θ .local) (Q3:ZC (.ListComp elt [⟨tg,ul,ifs,0⟩] scope pos) (θ (.Name x pos')) Rj.line X.env=pure ζ) :
  PS X (.Assign [.Name x pos'] (.ListComp elt [⟨tg,ul,ifs,0⟩] scope pos) Rj) (r9 (Bp pick wi g tt te) (jZ i)):=by
 intro pins s σ H D I h;rw[exec_Assign_Name_used _ _ _ _ Q3];refine ν (EQ (ν ?_));show Β _ X.A (do let _ <- comprehension (.ListComp elt [⟨tg,ul,ifs,0⟩] scope pos) scope X.env _ (newList []) ε (eval ul X.env) (θ (ä (.Name x pos') X.env))) _ _ s;refine ν (Θ (į (use:=θ (ä (.Name x pos') X.env)) (Q:=λ_ s'=>SP X pins D .next s') rfl hs (gT S I.ok.has) S.kind S.names
  (cI (hi pins s σ H _ I h) λv s1 h1=>cI h1 λRU s2 h2=>?_)) (λ_ s' hq=>Μ (Μ hq)) λ_ _ e=>e)
 obtain⟨it,fp,tn,J,H2,e,I2,T,Ri,f2,q⟩:=h2;subst e;refine pq (RR:=λacc C=>compPost (Ζ X.prog X.w) X.A X.xe (θ (ä (.Name x pos') X.env)) (λ_ s'=>SP X pins D .next s') acc C) S hc Py gk I2 T Ri f2 (λx H1=>jZ i x σ H1 D.nx) q λl C s' H' m hn fc hq J0=>?_
 obtain⟨o,es,ep,ho,hd,hr⟩:=id hn;have J1:=J0.pinned (fp:=[C]) (λb hb=>by rw[jm.mp hb];exact fc) λb hb=>by rw[jm.mp hb];exact⟨o,ho,λv z=>by rw[hd] at z;cases z⟩
 show Β (Ζ X.prog X.w) X.A (ä (.Name x pos') X.env (.ref l)) _ _ s';refine ž (iO J1 hN hx hl (v:=.ref l) rfl (λs2 I2=>?_) hf);have Wg:=(I2.pin (C,o) (ao _ (ao _ (fX (by simp) ho)))).1;obtain⟨f0,f1,f2,f3,f4,f5⟩:=fc;refine⟨m,⟨o,es,ep,Wg,hd,hr⟩,λh' sb=>?_⟩;exact⟨_,H',I2.MC.turned (t':=s2.toks) (λb o hb e=>sb.extBut b o hb e) f0 f1 f3 f4 f5,hq⟩
end
noncomputable def fC (own:Nat)(pick:List Nat):List (Option Nat):=ξ own η++pick.map θ
theorem r8 (σ:L2.St)(pk:List (Option Nat)):(gX σ pk).length=pk.length:=by simp[gX]
theorem pV (env:En)(own:Nat)(pick:List Nat):(bU env own pick).length=own+pick.length:=by simp[bU]
noncomputable def qY (F:Nat->List Addr)(env:En)(own:Nat)(pick:List Nat):Nat->List Addr:=λi=>match (bU env own pick)[i]? with
 |some (θ _)=>match pick[i-own]? with
  |some j=>F j
  |none=>[]
 |_=>[]
variable {own:Nat}{pick:List Nat}
theorem fU {env:En}{d:D}{t:Tg}(h:(bU env own pick)[i]? = θ (θ (d,t))):t=.sh []/\own<=i/\∃j t0,pick[i-own]? = θ j/\env[j]? = θ (θ (d,t0)):=by
 unfold bU at h;by_cases hi:i<own
 .rw[Ν (by simpa using hi),bv] at h;split at h<;>cases h
 .have hi:own<=i:=jb hi;rw[Τ (by simpa using hi),bu,π] at h;cases hp:pick[i-own]? with
  |none=>rw[hp] at h;cases h
  |some j=>
   rw[hp] at h;simp only[cq,cz] at h;split at h
   .rename_i d0 t0 q;cases h;exact⟨rfl,hi,j,t0,rfl,q⟩
   .cases h
section
variable {K:Frag}{P:Addr->Prop}{env:En}{σ:L2.St}{H:Hp}{F:Nat->List Addr}
theorem RE.picked (re:RE K P env σ H F)(own:Nat)(pick:List Nat):RE K (λ_=>False) (bU env own pick) (gX σ (fC own pick)) H (qY F env own pick) where
 len:=by rw[pV,r8];simp[fC]
 val:=λi d t h=>by
  obtain⟨rfl,hi,j,t0,hp,he⟩:=fU h;obtain⟨v,e,r⟩:=re.val j d t0 he;refine⟨v,?_,?_⟩
  .unfold gX fC;rw[π,Τ (by simpa using hi),bu,π,hp];simp[e]
  .unfold qY;rw[h,hp];exact r
 Oz:=λi h=>by
  unfold qY;split
  .rename_i p q;exact absurd q (h p.1 p.2)
  .rfl
 one:=λi d t h o=>by
  obtain⟨rfl,_⟩:=fU h;cases o
 wr:=λi d h=>by
  obtain⟨q,_⟩:=fU h;cases q
 pl:=λ_ h=>h.elim
theorem zy (re:RE K P env σ H F)(h:a∈qY F env own pick i):∃j∈pick,∃d t,a∈F j/\env[j]? = θ (θ (d,t)):=by
 unfold qY at h;split at h
 .rename_i p q;obtain⟨_,hi,j,t0,hp,he⟩:=fU (d:=p.1) (t:=p.2) q;rw[hp] at h;exact⟨j,Κ hp,p.1,t0,h,he⟩
 .cases h
end
noncomputable def Hs (K:Frag)(T:Tb):nP->TT
 |.none=>λ_ H Q=>Q ζ H
 |.some c=>qF K T c
section
variable {X:Cx}{T:Tb}{scope:Scope}{N':List Str}{own:Nat}{pick:List Nat}{t:md}{it:qc}{c:nP}{e:Ex}
theorem GK {σ:L2.St}{Q:Bool->Hp->Prop}{P:Addr->Prop}{env:En}{k:Bool}(re:RE X.K P env σ H F)(hk:vY T c env=.ok k)(q:∀H',aG H H'->Q k H'):Hs X.K T c σ H Q:=by
 cases c with
 |none=>
  unfold vY at hk;cases hk;exact q H (aG.refl _)
 |some c=>
  unfold vY at hk;obtain⟨p,h1,h2⟩:=Rs.Ma hk;exact⟨P,env,F,re,p,k,h1,cJ h2,q⟩
theorem qr {σ:L2.St}(h:tE X.K T (.comp own pick t it c e) σ H Q):Bp (fC own pick) (tI X.K T it) (tD X.K t) (Hs X.K T c) (tE X.K T e) σ H Q:=by
 obtain⟨P,env,F,re,p0,Mb,k⟩:=h;unfold ev at Mb;obtain⟨p,h1,Mb⟩:=Rs.Ma Mb;obtain⟨S5,h2,Mb⟩:=Rs.Ma Mb;have Pw:p.1.length<=lim:=gi λhn=>by rw[if_neg hn] at Mb;cases Mb
 rw[if_pos Pw] at Mb;cases Mb;refine⟨P,env,F,re,p,h1,λJ H1 Gs s1 rt nn wk l hl=>?_⟩;have NX:=re.same s1;have wk:=wk (λa=>a∈Gs) λa ha=>ha
 let S0:Addr->Prop:=λa=>a∈Gs\/∃j∈pick,∃d t,a∈F j/\env[j]? = θ (θ (d,t))
 have S0n:∀a,S0 a->H1 a≠η:=λa ha=>by
  rcases ha with ha|⟨j,_,d,t,m,ej⟩
  .exact nn a ha
  .exact NX.nn ej m
 have lS:¬ S0 l:=λz=>S0n l z hl
 refine⟨λi m H2=>m=p.1.length-i/\i<=p.1.length/\∃(acc rest:List (D×Rt)) (vs:List V) (G:List Addr),ke (λd=>iZ (bP [] t d (bU env own pick)) (vY T c) (ev T e)) (p.1.drop i)=.ok rest/\S5=acc++rest/\acc.length<=i/\H2 l=θ (.lst vs)/\aF X.K H2 (acc.map (·.1)) vs G/\aG H1 H2/\l∉G /\
  (∀a∈G,H1 a=η\/S0 a)/\(acc.all (λq=>q.1.flat || ko q.2)=ζ->G.Nodup/\∀a∈G,H1 a=η/\∃ws:ML,H2 a=θ ws.o),?_,?_⟩
 .refine⟨p.1.length,by simp,dh _,[],S5,[],[],by simpa using h2,rfl,au _,aZ,.nil,aG.new hl,by simp,λ_ h=>(nomatch h),λ_=>⟨bc,λ_ h=>(nomatch h)⟩⟩
 .rintro i m H2 ⟨rfl,hi,acc,rest,vs,G,OO,Pt,OU,P0,rs,s2,Si,hG,VR⟩;obtain⟨w1,w2⟩:=wk H2 (jV.of_same (λa ha=>nn a ha) s2);by_cases Mx:i<p.1.length
  .right;have hd:p.1[i]? = θ p.1[i]:=by simp[Mx]
   obtain⟨g1,g2⟩:=w1 i _ hd;refine⟨g1,λH3=>i+1<=p.1.length/\∃(acc rest:List (D×Rt)) (vs:List V) (G:List Addr),ke (λd=>iZ (bP [] t d (bU env own pick)) (vY T c) (ev T e)) (p.1.drop (i+1))=.ok rest/\S5=acc++rest/\acc.length<=i+1/\H3 l=θ (.lst vs)/\aF X.K H3 (acc.map (·.1)) vs G/\aG H1 H3/\l∉G /\
    (∀a∈G,H1 a=η\/S0 a)/\(acc.all (λq=>q.1.flat || ko q.2)=ζ->G.Nodup/\∀a∈G,H1 a=η/\∃ws:ML,H3 a=θ ws.o),λH3 q=>⟨p.1.length-(i+1),by omega,rfl,q⟩,λx H3 y=>?_⟩
   obtain⟨s3,G3,Rp,Nd⟩:=g2 x H3 y;rw[gb Mx] at OO;unfold ke at OO;obtain⟨o,My,OO⟩:=Rs.Ma OO;obtain⟨PN,MS,OO⟩:=Rs.Ma OO;cases hb:bP [] t p.1[i] (bU env own pick) with
   |none=>rw[hb] at My;cases My
   |some Nk=>
    rw[hb] at My;unfold iZ at My;obtain⟨kc,VI,My⟩:=Rs.Ma My;have rep:=(NX.same (s2.trans s3)).picked own pick;let Z:Addr->Prop:=λa=>S0 a
    have zF:∀i,∀a∈qY F env own pick i,Z a:=λi a ha=>by
     obtain⟨j,hj,d,t,m,ej⟩:=zy (NX.same (s2.trans s3)) ha;exact .inr ⟨j,hj,d,t,m,ej⟩
    refine pE (Z:=Z) rep zF Rp (λa ha=>.inl (Nd a ha)) (λa ha j d' t' ej o m=>?_) hb λσ4 F4 PQ z4 _=>?_
    .obtain⟨rfl,_⟩:=fU ej;cases o
    .refine GK PQ VI λH5 s5=>?_
     have N7:=s2.trans (s3.trans s5);have l5:H5 l=θ (.lst vs):=s5 _ _ (s3 _ _ P0);cases kc with
     |false=>
      show if ε=ζ then _ else _
      rw[if_neg ay];simp only[c9,if_false] at My;cases My;cases OO;refine⟨Mx,acc,PN,vs,G,MS,Pt,Ŋ OU,l5,rs.same (s3.trans s5),N7,Si,hG,λf=>?_⟩;obtain⟨n1,n2⟩:=VR f;exact⟨n1,λa ha=>⟨(n2 a ha).1,let ⟨ws,q⟩:=(n2 a ha).2;⟨ws,s5 _ _ (s3 _ _ q)⟩⟩⟩
     |true=>
      show if ζ=ζ then _ else _
      rw[if_pos rfl];simp only[if_true] at My;obtain⟨q,hq,My⟩:=Rs.Ma My;cases My;cases OO;refine⟨_,Nk,F4,PQ.same s5,q,hq,λyv H6 Gy s6 X2 X1=>?_⟩;have l6:H6 l=θ (.lst vs):=s6 _ _ l5;have SQ:=N7.trans s6;have Rz:=s3.trans (s5.trans s6);have yS:∀a∈Gy,H5 a=η\/S0 a:=λa ha=>(X1.cont a ha).imp id λ⟨i,d,t,m,_⟩=>z4 i a m
      have ly:l∉Gy:=λz=>by
       rcases yS l z with q|q
       .rw[l5] at q;cases q
       .exact lS q
      have UX:vs.length=acc.length:=by have:=rs.len;rw[aj] at this;exact this.symm
      refine⟨vs,l6,ji (bp (d? UX) (bp OU (ó (av Mx Pw)))) (by decide),Mx,acc ++ [q],PN,vs ++ [yv],G++(Gy ++ []),MS,by rw[Pt];simp,by simp;exact OU,aZ,?_,?_,?_,?_,?_⟩
      .rw[gj];exact (aF.append (rs.same Rz) (.cons X2 .nil)).upd l6 (by simp;exact⟨Si,ly⟩)
      .intro b o e;rw[aL (λz=>by subst z;rw[hl] at e;cases e)];exact SQ _ _ e
      .simp;exact⟨Si,ly⟩
      .intro a ha;rw[aw] at ha;rcases ig.mp ha with ha|ha
       .exact hG a ha
       .exact (yS a ha).imp (aG.no N7) id
      .intro f;rw[List.all_append,ai] at f;obtain⟨n1,n2⟩:=VR f.1;have fy:Gy.Nodup/\∀a∈Gy,H5 a=η/\∃ws:ML,H6 a=θ ws.o:=by
        have f2:q.1.flat=ζ\/ko q.2=ζ:=by simpa using f.2
        rcases f2 with f2|f2
        .rw[X2.flat f2];exact⟨bc,λ_ h=>(nomatch h)⟩
        .have:q.2=.mv []:=by
          cases hr:q.2 with
          |sh R=>rw[hr] at f2;cases f2
          |mv R=>cases R with
           |nil=>rfl
           |cons a b=>rw[hr] at f2;cases f2
         obtain⟨m1,m2,m3⟩:=X1.mv [] this;refine⟨m1,λa ha=>⟨?_,m2 a ha⟩⟩;rcases m3 a ha with z|⟨_,_,_,z,_⟩
         .exact z
         .cases z
       rw[aw];refine⟨fh.mpr ⟨n1,fy.1,λa ha b hb z=>?_⟩,λa ha=>?_⟩
       .subst z;obtain⟨_,ws,w⟩:=n2 a ha;have:=s5 _ _ (s3 _ _ w);rw[(fy.2 a hb).1] at this;cases this
       .have ne:a≠l:=λz=>by
         subst z;rcases ig.mp ha with ha|ha
         .exact Si ha
         .exact ly ha
        rcases ig.mp ha with ha|ha
        .obtain⟨u1,ws,w⟩:=n2 a ha;exact⟨u1,ws,by rw[aL ne];exact Rz _ _ w⟩
        .obtain⟨u1,ws,w⟩:=fy.2 a ha;exact⟨aG.no N7 u1,ws,by rw[aL ne];exact w⟩
  .left;have ei:i=p.1.length:=by omega
   subst ei;refine⟨w2,?_⟩;rw[û] at OO;unfold ke at OO;cases OO;rw[aw] at Pt;subst Pt;refine k _ H2 (l::G) (s1.trans s2) (.lst (.inl P0) rs) ?_;have Tz:=aG.no s1 hl;cases hf:S5.all (λq=>q.1.flat || ko q.2) with
   |true=>
    obtain⟨n1,n2⟩:=VR hf;have new:∀a∈l::G,H a=η:=λa ha=>by
     rcases dm.mp ha with rfl|ha
     .exact Tz
     .exact aG.no s1 (n2 a ha).1
    refine⟨λa ha=>.inl (new a ha),λR e=>⟨jy.mpr ⟨Si,n1⟩,λa ha=>?_,λa ha=>.inl (new a ha)⟩⟩;rcases dm.mp ha with rfl|ha
    .exact⟨.l _,P0⟩
    .exact (n2 a ha).2
   |false=>
    refine⟨λa ha=>?_,λR e=>by cases e⟩;rcases dm.mp ha with rfl|ha
    .exact .inl Tz
    .rcases hG a ha with q|q|⟨j,hj,d,t,m,ej⟩
     .exact .inl (aG.no s1 q)
     .exact (rt.cont a q).imp id λ⟨i,d,t,x,y,z⟩=>⟨i,d,t,x,y,λr hr=>ax _ (z r hr)⟩
     .refine .inr ⟨j,d,t,m,ej,λr hr=>ao _ ?_⟩;unfold qM;rw[List.mem_flatten];exact⟨bA j t,Δ.mpr ⟨j,hj,by rw[ej]⟩,hr⟩
theorem qE {t:md}{pk:List (Option Nat)}(ht:∀i,(t=.nm i\/∃is,t=.tp is/\i∈is)->pk[i]? = θ η)(v:V)(σ:L2.St)(H:Hp)(Q:L2.St->Hp->Prop)(h:tD K t v σ H Q) :
  tD K t v σ H λσ' H'=>Q σ' H'/\σ'.length=σ.length/\∀(i:Nat) u,pk[i]?≠θ η->σ[i]? = θ u->σ'[i]? = θ u:=by
 cases t with
 |nm i=>exact⟨h,by simp,λj u hj e=>by rw[ο];exact e;rintro rfl;exact hj (ht i (.inl rfl))⟩
 |tp is=>
  obtain⟨a,xs,e1,e2,e3,h⟩:=h;refine⟨a,xs,e1,e2,e3,?_⟩;have gen:∀(is:List Nat) (xs:List V) (σ1:L2.St),(∀i∈is,pk[i]? = θ η)->σ1.length=σ.length->(∀(i:Nat) u,pk[i]?≠θ η->σ[i]? = θ u->σ1[i]? = θ u)->jP is xs σ1 H Q->jP is xs σ1 H λσ' H'=>Q σ' H'/\σ'.length=σ.length/\∀(i:Nat) u,pk[i]?≠θ η->σ[i]? = θ u->σ'[i]? = θ u:=by
   intro is
   induction is with
   |nil=>intro xs σ1 _ hl hk h;exact⟨h.1,h.2,hl,hk⟩
   |cons j js ih=>
    intro xs σ1 hi hl hk h;obtain⟨v,r,e,h⟩:=h;refine⟨v,r,e,ih r (σ1.set j (θ v)) (λi hm=>hi i (aa _ hm)) (by simp[hl]) (λi u Oj e'=>?_) h⟩;rw[ο];exact hk i u Oj e';rintro rfl;exact Oj (hi j ag)
  exact gen is xs σ (λi hm=>ht i (.inr ⟨is,rfl,hm⟩)) rfl (λ_ _ _ e=>e) h
end
def jY (K:Frag)(T:Tb)(x:Nat)(path:nP):TE:=λσ H Q=>∃P env F po v p,RE K P env σ H F/\nt T path env=.ok po/\σ[x]? = θ (θ v)/\PV K H v po p/\∀H',aG H H'->Q (.ref p) H'
section
variable {X:Cx}{T:Tb}{pos:No}{i:Nat}{x:Str}
theorem GP (hN:X.N[i]? = θ x)(hv:yj X.env.scope x)(hd:(x==("__debug__" : Str))=ε) (MT:(x==("__classdict__" : Str))=ε):PE X (.Name x pos) (jY X.K T i .none):=by
 refine bJ (sH hN hv hd MT) λσ H Q ⟨P,env,F,po,v,p,re,NJ,hv,pv,k⟩=>?_
 unfold nt at NJ;cases NJ;cases pv;exact⟨_,hv,k H (aG.refl _)⟩
theorem DE (hN:X.N[i]? = θ x)(hv:yj X.env.scope x)(hd:(x==("__debug__" : Str))=ε) (MT:(x==("__classdict__" : Str))=ε) (he:PE X e (tE X.K T c)) (hs:nW e):PE X (.Subscript (.Name x pos') e pos) (jY X.K T i (.some c)):=by
 refine bJ (Fk (xO.or BH) (sH hN hv hd MT) he hs) λσ H Q ⟨P,env,F,po,v,p,re,NJ,hv,pv,k⟩=>?_
 unfold nt at NJ;obtain⟨q,h1,NJ⟩:=Rs.Ma NJ;cases hq:q.1 with
 |int j=>
  rw[hq] at NJ;cases NJ;refine⟨v,hv,P,env,F,re,q,h1,λw H1 G s Rk rti=>?_⟩;rw[hq] at Rk;obtain⟨rfl,_⟩:=Rk.int_inv;cases pv with
  |item h hj e=>
   rename_i r ws n;have Nn:FA ws j=θ (.ref p):=by
    unfold FA;rw[<-BK,hj];exact e
   rcases h with h|h
   .exact .inl ⟨r,ws,j,.ref p,rfl,rfl,.inl (aG.rd s h),Nn,k H1 s⟩
   .exact .inr ⟨r,ws,j,.ref p,rfl,rfl,aG.sqT s h,Nn,k H1 s⟩
 |_=>rw[hq] at NJ;cases NJ
end
def uU (K:Frag)(m:vo):V->List V->Hp->VK->Prop:=λx vs H Q=>∃l ws xs ds Gx G ys,x=.ref l/\H l=θ (.lst ws)/\aF K H xs ws Gx/\aF K H ds vs G/\Ct m xs ds=θ ys/\ys.length<=lim/\l∉Gx/\l∉G/\Gx.Nodup /\
 ∀us Gy v,aF K (upd H l (.lst us)) ys us Gy->(∀a∈Gy,a∈Gx\/(m.MF=ε/\a∈G))->((∀a∈Gx,a∉G)->G.Nodup\/m.MF=ζ->Gy.Nodup)->Q v (upd H l (.lst us))
variable {T:Tb}{m:vo}{path:nP}{y:Nat}
section
variable {X:Cx}
def Cc:V->List V->Hp->VK->Prop:=λx vs H Q=>∃l b xs zs,x=.ref l/\vs=[.ref b]/\H l=θ (.lst xs)/\Rd H b (.lst zs)/\xs.length+zs.length<=sizeLine/\Q .Mh (upd H l (.lst (xs++zs)))
theorem wu:GL X "list.extend" Cc:=by
 intro pins s σ H x vs v us Q I rx rv h;obtain⟨l,b,xs,zs,rfl,rfl,hH,hB,hz,q⟩:=h;cases rx;obtain⟨u,rfl,ru⟩:=rv.one;cases ru;obtain⟨z,aH,n,r,hl,e⟩:=I.yT hH;obtain⟨z2,NS,n2,r2,P0,e2⟩:=Inv.Po I hB;have Vc:aH.toArray.size+NS.toArray.size<=sizeLine:=by rw[ak,ak];omega
 have ON:¬ (!aH.toArray.isEmpty&&GM (aH.toArray.size+NS.toArray.size))=ζ:=by
  rw[uw Vc,Bool.and_false];exact ay
 refine ZE F.slot_list_extend ⟨_,e,rfl⟩ F.entry_list_extend (F.args_list_extend_2 _ _)
  (B? l aH.toArray n b NS.toArray n2 ON (by rw[ak];omega) (by omega)) ⟨e,e2,?_⟩
 refine⟨.Mh,_,I.Pp (its':=aH++NS) hH e (by simp) (r.append r2) ?_,rfl,q⟩;rw[ba];omega
theorem kU:GL X "list.append" (uU X.K .append):=by
 intro pins s σ H x vs v us Q I rx rv h;obtain⟨l,ws,xs,ds,Gx,G,ys,rfl,hl,r1,r2,hm,hlen,n1,n2,nd,k⟩:=h
 match ds,hm with
 |[d],hm=>
  cases hm;obtain⟨y,rfl,rp⟩:=r2.NQ;refine qo pins s σ H _ _ v us Q I rx rv ⟨l,ws,y,rfl,rfl,hl,?_,k (ws ++ [y]) (Gx++(G ++ [])) _ ?_ (λa ha=>?_) λdj o=>?_⟩
  .rw[<-r1.len];simp only[ba,Ġ] at hlen;exact av (av (ja _) hlen) sT
  .exact (r1.append (.cons rp .nil)).upd hl (by simp;exact⟨n1,n2⟩)
  .simp at ha;exact ha.imp id λz=>⟨rfl,z⟩
  .rcases o with o|o
   .rw[aw];exact fh.mpr ⟨nd,o,λa ha b hb z=>by subst z;exact dj a ha hb⟩
   .cases o
theorem wy:GL X "list.extend" (uU X.K .extend):=by
 intro pins s σ H x vs v us Q I rx rv h;obtain⟨l,ws,xs,ds,Gx,G,ys,rfl,hl,r1,r2,hm,hlen,n1,n2,nd,k⟩:=h
 match ds,hm with
 |[.lst zs],hm=>
  have hm:(if D.Mk zs then θ (xs++zs) else η)=θ ys:=hm;by_cases hf:D.Mk zs=ζ
  .rw[if_pos hf] at hm;cases hm;obtain⟨y,rfl,rp⟩:=r2.NQ;obtain⟨b,wz,gz,rfl,rfl,a1,a2⟩:=rp.lst_inv;have eg:gz=[]:=a2.flat hf;subst eg;refine wu pins s σ H _ _ v us Q I rx rv ⟨l,b,ws,wz,rfl,rfl,hl,a1,?_,k (ws++wz) (Gx ++ []) _ ?_ (λa ha=>?_) λ_ _=>?_⟩
   .rw[<-r1.len,<-a2.len];simp only[ba] at hlen;exact bp hlen sT
   .exact (r1.append a2).upd hl (by simp;exact n1)
   .simp at ha;exact .inl ha
   .rw[aw];exact nd
  .rw[if_neg hf] at hm;cases hm
theorem aF.erase:∀{xs:List Pc.D}{ws:List V}{G:List Addr}{j:Nat}{r:Pc.D},aF K H xs ws G->xs[j]? = θ r->∃u B A,ws[j]? = θ u/\Rep K H r u B/\aF K H (xs.eraseIdx j) (ws.eraseIdx j) A/\List.Perm G (B++A)
 |_,_,_,_,_,.nil,e=>by simp at e
 |_,_,_,0,_,.cons (G:=G) (G':=G') h r,e=>by
  simp at e;subst e;exact⟨_,G,G',rfl,h,r,.refl _⟩
 |_,_,_,j+1,d,.cons (G:=G) (G':=G') h r,e=>by
  obtain⟨u,B,A,e1,e2,e3,e4⟩:=aF.erase (j:=j) r (by simpa using e);refine⟨u,B,G++A,by simpa using e1,e2,.cons h e3,?_⟩;refine (z_ G e4).trans ?_;rw[<-fi,<-fi];exact z! A Ģ
def AF (K:Frag):V->List V->Hp->VK->Prop:=λx vs H Q=>∃l ws xs ds Gx G q,x=.ref l/\H l=θ (.lst ws)/\aF K H xs ws Gx/\aF K H ds vs G/\pI xs ds=θ q/\l∉Gx/\Gx.Nodup /\
 ∀w us Gy,Rep K (upd H l (.lst us)) q.1 w []->aF K (upd H l (.lst us)) q.2 us Gy->(∀a∈Gy,a∈Gx)->Gy.Nodup->Q w (upd H l (.lst us))
theorem o9 {xs:List Pc.D}{ws:List V}{Gx:List Addr}{q:Pc.D×List Pc.D}(hl:H l=θ (.lst ws))(r1:aF K H xs ws Gx)(n1:l∉Gx)(nd:Gx.Nodup)(hp:pD xs j=θ q) :
  ∃u Gy,ws[j]? = θ u/\Rep K (upd H l (.lst (ws.eraseIdx j))) q.1 u []/\aF K (upd H l (.lst (ws.eraseIdx j))) q.2 (ws.eraseIdx j) Gy/\(∀a∈Gy,a∈Gx)/\Gy.Nodup:=by
 unfold pD at hp;cases hj:xs[j]? with
 |none=>rw[hj] at hp;cases hp
 |some r=>
  rw[hj] at hp;by_cases hf:r.flat=ζ
  .simp only[hf,if_true] at hp;cases hp;obtain⟨u,B,A,e1,e2,e3,e4⟩:=r1.erase hj;have eb:=e2.flat hf;subst eb;exact⟨u,A,e1,e2.upd hl (by simp),e3.upd hl (λz=>n1 (e4.symm.subset z)),λa ha=>e4.symm.subset ha,e4.nodup_iff.mp nd⟩
  .simp only[hf,if_false] at hp;cases hp
theorem AV (n:Nat)(i:Int)(h:Pc.kH n i=θ j):Õ i n=θ j:=by
 unfold Pc.kH at h;unfold Õ;by_cases h0:0<=i
 .rw[if_pos h0] at h;by_cases h1:i<n
  .rw[if_pos h1] at h;cases h;have:¬ i<0:=by omega
   simp[this];omega
  .rw[if_neg h1] at h;cases h
 .rw[if_neg h0] at h;by_cases h1 : -(n:Int)<=i
  .rw[if_pos h1] at h;cases h;have:i<0:=by omega
   simp[this];omega
  .rw[if_neg h1] at h;cases h
theorem xU:GL X "list.pop" (AF X.K):=by
 intro pins s σ H x vs v us Q I rx rv h;obtain⟨l,ws,xs,ds,Gx,G,q,rfl,hl,r1,r2,hm,n1,nd,k⟩:=h
 match ds,hm with
 |[],hm=>
  cases r2;obtain⟨u,Gy,e1,e2,e3,e4,e5⟩:=o9 hl r1 n1 nd hm;rw[r1.len] at e1 e2 e3;have kk:=k u _ Gy e2 e3 e4 e5;rw[pO] at kk;exact Je pins s σ H _ _ v us Q I rx rv ⟨l,ws,u,rfl,rfl,hl,e1,kk⟩
 |[.int i],hm=>
  simp only[pI] at hm;by_cases hi : -(2 ^ 63)<=i/\i<2 ^ 63
  .rw[if_pos hi,ah] at hm;obtain⟨j,hj,hm⟩:=hm;obtain⟨y,rfl,rp⟩:=r2.NQ;obtain⟨rfl,_⟩:=rp.int_inv;obtain⟨u,Gy,e1,e2,e3,e4,e5⟩:=o9 hl r1 n1 nd hm;rw[r1.len] at hj;exact Co pins s σ H _ _ v us Q I rx rv ⟨l,ws,i,j,u,rfl,rfl,hl,hi.1,hi.2,AV _ _ hj,e1,k u _ Gy e2 e3 e4 e5⟩
  .rw[if_neg hi] at hm;cases hm
theorem um {x:Nat}{p:Option Int}{env:En}{d:D}{ys:List D}{rs:List Rt}:(∃e,bW x p env d ys rs=.nx e)\/bW x p env d ys rs=.bad:=by
 unfold bW;split
 .exact .inr rfl
 .split
  .exact .inl ⟨_,rfl⟩
  .exact .inr rfl
theorem zZ {D:Ends}{σ:L2.St}(h:tS X.K T (.Ot y i cs) D σ H):uP (FK X.K "list" (uU X.K .append) (jY X.K T y .none) (cK (FK X.K "list" (AF X.K) (jY X.K T i .none) (tF X.K T cs)) mO)) D σ H:=by
 obtain⟨P,Z,env,F,re,hz,zp,h⟩:=h;unfold bH at h;by_cases Qx:y=i
 .rw[if_pos Qx] at h;exact h.elim
 rw[if_neg Qx] at h;cases hx:ownAt env i with
 |none=>rw[hx] at h;exact h.elim
 |some d=>
  rw[hx] at h;simp only at h;cases Nn:d.Mv η with
  |none=>rw[Nn] at h;exact h.elim
  |some xs=>
   rw[Nn] at h;obtain⟨l,hl,h⟩:=bM h;cases hm:pI xs (l.map (·.1)) with
   |none=>rw[hm] at h;exact h.elim
   |some q=>
    rw[hm] at h;simp only at h;rcases um (x:=i) (p:=η) (env:=env) (d:=d) (ys:=q.2) (rs:=[]) with ⟨env',Nb⟩|Nb
    rotate_left
    .rw[Nb] at h;exact h.elim
    rw[Nb] at h;have h:post X.K P Z env F H D (match ownAt env' y with
     |none=>.bad
     |some dy=>(match dy.Mv η with
      |none=>.bad
      |some ys=>bW y η env' dy (ys ++ [q.1]) [])):=h
    cases hy:ownAt env' y with
    |none=>rw[hy] at h;exact h.elim
    |some dy=>
     rw[hy] at h;simp only at h;cases Nh:dy.Mv η with
     |none=>rw[Nh] at h;exact h.elim
     |some ys=>
      rw[Nh] at h;simp only at h;have Na:=bR hx;have Q2:=bR hy;have RV:ownAt env y=θ dy:=by
       unfold bW at Nb;split at Nb
       .cases Nb
       .split at Nb
        .cases Nb;rw[ο (bw Qx)] at Q2;unfold ownAt;rw[(bZ Q2).1]
        .cases Nb
      have Qy:=bR RV;obtain⟨vy,Pa,_⟩:=re.val y dy .own Qy;obtain⟨py,Rw,fy⟩:=dJ re RV Pa Nh;obtain⟨v,hv,_⟩:=re.val i d .own Na;obtain⟨p,pv,f⟩:=dJ re hx hv Nn;refine⟨P,env,F,η,vy,py,re,rfl,Pa,Rw,λHa sa=>?_⟩;obtain⟨T5,ga,ea,_⟩:=fy Ha sa;refine⟨.inl ⟨rfl,T5,.inl (.inl ea)⟩,?_⟩;refine⟨P,env,F,η,v,p,re.same sa,rfl,hv,by cases pv;exact .top _,λH1 Uv=>?_⟩;have s1:=sa.trans Uv;obtain⟨Ra,g1,e1,_⟩:=f H1 s1;refine⟨.inl ⟨rfl,Ra,.inl (.inl e1)⟩,P,env,F,re.same s1,l,hl,λvs H2 G ar=>?_⟩;have s2:=s1.trans ar.same;obtain⟨ws,Gx,a1,a2,a3,a4,a5,a6,fs⟩:=f H2 s2;refine⟨p,ws,xs,l.map (·.1),Gx,G,q,rfl,a1,a2,ar.Mp,hm,a6,a5,λw us Gy eR rs sub nd=>?_⟩;have key:=iP (K:=X.K) (P:=P) (Z:=Z) (D:=⟨λσ' H'=>∃F',After X.K P Z env F H env' σ' H' F',λ_ _=>True,λ_ _=>True,λ_ _=>True⟩) (N:=[]) (us:=us) re hz zp s2 hx hv a3 (λR hR QZ=>⟨bc,λ_ h=>(nomatch h),λ_ h=>(nomatch h)⟩) (λhN P6=>by
       obtain⟨G',b1,b2,b3⟩:=fs q.2 us Gy rs nd (λz=>a6 (sub p z)) λa ha=>.inl (sub a ha)
       exact⟨G',b1,b2,λa ha=>.inl ((b3 a ha).elim id λz=>a4 a (sub a z))⟩) (by rw[Nb];exact λσ' H' F' af=>⟨F',af⟩)
      obtain⟨F',af⟩:=key;have hvy':=Pa;obtain⟨Rv,Ql,QM⟩:=dJ af.re hy Pa Nh;obtain⟨T6,SV,c1,c2,c3,c4,c5,c6,SD⟩:=QM _ (aG.refl _);have Wv:Rv=py:=by cases Rw;cases Ql;rfl
      subst Wv;have h':=post.trans af h;refine⟨Rv,T6,ys,[q.1],SV,[] ++ [],ys ++ [q.1],rfl,c1,c2,.cons eR .nil,rfl,mC h',c6,λz=>(nomatch z),c5,λOB SU w' Uy Qh UP=>?_⟩;refine iP (N:=[]) af.re af.z zp (aG.refl _) hy Pa c3 (λR hR QZ=>⟨bc,λ_ h=>(nomatch h),λ_ h=>(nomatch h)⟩) (λhN P6=>?_) h';have NM:∀a∈SU,a∈SV:=λa ha=>(Qh a ha).elim id λz=>(nomatch z.2)
      obtain⟨G',b1,b2,b3⟩:=SD (ys ++ [q.1]) OB SU Uy (UP (λ_ _ z=>nomatch z) (.inl bc)) (λz=>c6 (NM _ z)) λa ha=>.inl (NM a ha)
      exact⟨G',b1,b2,λa ha=>.inl ((b3 a ha).elim id λz=>c4 a (NM a z))⟩
theorem pj {D:Ends}{σ:L2.St}(h:tS X.K T (.mut i path m cs) D σ H):uP (FK X.K "list" (uU X.K m) (jY X.K T i path) (tF X.K T cs)) D σ H:=by
 obtain⟨P,Z,env,F,re,hz,zp,h⟩:=h;unfold bH at h;cases hx:ownAt env i with
 |none=>rw[hx] at h;exact h.elim
 |some d=>
  rw[hx] at h;obtain⟨po,NJ,h⟩:=bM h;cases Nn:d.Mv po with
  |none=>rw[Nn] at h;exact h.elim
  |some xs=>
   rw[Nn] at h;obtain⟨l,hl,h⟩:=bM h;cases hm:Ct m xs (l.map (·.1)) with
   |none=>rw[hm] at h;exact h.elim
   |some ys=>
    rw[hm] at h;have Na:=bR hx;obtain⟨v,hv,_⟩:=re.val i d .own Na;obtain⟨p,pv,f⟩:=dJ re hx hv Nn;refine⟨P,env,F,po,v,p,re,NJ,hv,pv,λH1 s1=>?_⟩;obtain⟨Ra,g1,e1,_⟩:=f H1 s1;refine⟨.inl ⟨rfl,Ra,.inl (.inl e1)⟩,P,env,F,re.same s1,l,hl,λvs H2 G ar=>?_⟩;have s2:=s1.trans ar.same;obtain⟨ws,Gx,a1,a2,a3,a4,a5,a6,fs⟩:=f H2 s2;by_cases OL:(aO (l.map (·.2))).contains i=ζ
    .simp only[OL,if_true] at h;exact h.elim
    simp only[OL,if_false] at h;have QR:∀a∈F i,a∉G:=λa ha hg=>by
     rcases ar.cont a hg with q|⟨j,d2,t2,m2,e2,sr⟩
     .exact (re.same s1).nn Na ha q
     .exact OL (by simpa using sr i ((re.one i d .own Na rfl).2.2 a ha j d2 t2 e2 m2))
    have nG:=QR p a3;refine⟨p,ws,xs,l.map (·.1),Gx,G,ys,rfl,a1,a2,ar.Mp,hm,mC h,a6,nG,a5,λus Gy w rs sub nd=>?_⟩;refine iP (N:=if m.MF then [] else G) re hz zp s2 hx hv a3 (λR hR QZ=>?_) (λhN P6=>?_) h
    .cases hc:m.MF with
     |true=>exact⟨bc,λ_ h=>(nomatch h),λ_ h=>(nomatch h)⟩
     |false=>
      rw[hc] at hR;obtain⟨n1,n2,n3⟩:=Args.mv (re.same s1) ar hR QZ;exact⟨n1,n2,λa ha=>(n3 a ha).imp (aG.no s1) id⟩
    .have ngy:Gy.Nodup:=nd (λa ha=>QR a (a4 a ha)) (by
      cases hc:m.MF with
      |true=>exact .inr rfl
      |false=>rw[hc] at P6;exact .inl P6)
     obtain⟨G',b1,b2,b3⟩:=fs ys us Gy rs ngy (λz=>(sub p z).elim a6 λq=>nG q.2) λa ha=>(sub a ha).imp id λq z=>QR a z q.2
     refine⟨G',b1,b2,λa ha=>?_⟩;rcases b3 a ha with q|q
     .exact .inl q
     .rcases sub a q with z|⟨z1,z2⟩
      .exact .inl (a4 a z)
      .rw[z1];exact .inr z2
theorem yW {D:Ends}{σ:L2.St}(h:tS X.K T (.mut i path m .nil) D σ H):uP (KD X.K "list" (uU X.K m) (jY X.K T i path)) D σ H:=by
 obtain⟨P,env,F,po,v,p,re,NJ,hv,pv,k⟩:=pj h;refine⟨P,env,F,po,v,p,re,NJ,hv,pv,λH' s=>?_⟩;obtain⟨ty,P',env',F',O9,l,hl,f⟩:=k H' s;unfold aR at hl;cases hl;exact⟨ty,f [] H' [] (.nil (aG.refl _))⟩
theorem CG {e:Ex}{D:Ends}{σ:L2.St}(h:tS X.K T (.MD i path c e) D σ H):r9 (tE X.K T e) (K6 (jY X.K T i path) (tE X.K T c) Fq) D σ H:=by
 obtain⟨P,Z,env,F,re,hz,zp,h⟩:=h;unfold bH at h;cases hx:ownAt env i with
 |none=>rw[hx] at h;exact h.elim
 |some d=>
  rw[hx] at h;obtain⟨q,hq,h⟩:=bM h;obtain⟨po,NJ,h⟩:=bM h;cases Nn:d.Mv po with
  |none=>rw[Nn] at h;exact h.elim
  |some xs=>
   rw[Nn] at h;obtain⟨qi,hqi,h⟩:=bM h;cases Vn:qi.1 with
   |int n=>
    rw[Vn] at h;cases hj:kH xs.length n with
    |none=>simp only[hj] at h;exact h.elim
    |some j=>
     simp only[hj] at h;have Na:=bR hx;obtain⟨v,hv,_⟩:=re.val i d .own Na;refine⟨P,env,F,re,q,hq,λw H1 G s1 rp rt=>?_⟩;have NX:=re.same s1;obtain⟨p,pv,f⟩:=dJ NX hx hv Nn;refine⟨P,env,F,po,v,p,NX,NJ,hv,pv,λH2 s2=>⟨P,env,F,NX.same s2,qi,hqi,λwi H3 Gi s3 Rk rti=>?_⟩⟩;rw[Vn] at Rk;obtain⟨rfl,_⟩:=Rk.int_inv;obtain⟨ws,Gx,a1,a2,a3,a4,a5,a6,fs⟩:=f H3 (s2.trans s3);have jl:=IX hj;refine⟨p,ws,n,j,rfl,rfl,a1,by rw[<-a2.len];exact hj,?_⟩;have Vk:∀R,q.2=.mv R->i∉R->∀a∈F i,a∉G:=λR hr hiR a ha hg=>by
      rcases rt.cont a hg with z|⟨k,d2,t2,m2,e2,sr⟩
      .exact re.nn Na ha z
      .have:=sr i ((re.one i d .own Na rfl).2.2 a ha k d2 t2 e2 m2);rw[hr] at this;exact hiR this
     have Uu:=s2.trans s3;refine iP (N:=G) re hz zp (s1.trans Uu) hx hv a3 (λR hR QZ=>?_) (λhN P6=>?_) h
     .have hr:q.2=.mv R:=by
       cases hr:q.2 with
       |sh Q=>rw[hr] at hR;cases hR
       |mv Q=>rw[hr] at hR;simp[dX] at hR;rw[hR]
      obtain⟨n1,n2,n3⟩:=rt.mv R hr;exact⟨n1,λa ha=>let ⟨ws,z⟩:=n2 a ha;⟨ws,Uu _ _ z⟩,n3⟩
     .obtain⟨u,A,B,C,e1,e2,r1,g⟩:=a2.split (i:=j) (d:=xs[j]) (υ jl);subst e2;have Sa:p∉G:=λz=>hN p z a3
      have pAC:∀b∈A++C,b≠p:=λb hb z=>by
       rw[z] at hb;refine a6 ?_;rcases ig.mp hb with hb|hb
       .exact ax _ hb
       .exact ao _ (ao _ hb)
      have rs:=g (upd H3 p (.lst (ws.set j w))) q.1 w G (λ_ _=>lF a1) (my (ws:=.l _) a1) (λb hb _ h=>(aL (pAC b hb)).trans h) ((rp.same Uu).upd a1 Sa);have QL:∀a∈A++(G++C),a∈A++(B++C)\/a∈G:=λa ha=>by
       simp only[ig] at ha ⊢;rcases ha with ha|ha|ha
       .exact .inl (.inl ha)
       .exact .inr ha
       .exact .inl (.inr (.inr ha))
      have ng:(A++(G++C)).Nodup:=by
       rw[fh] at a5;obtain⟨nA,nB,RL⟩:=a5;rw[fh] at nB;obtain⟨_,nC,_⟩:=nB;rw[fh];refine⟨nA,fh.mpr ⟨P6,nC,λa ha b hb z=>?_⟩,λa ha b hb z=>?_⟩
       .subst z;exact hN a ha (a4 a (by simp[hb]))
       .subst z;rcases ig.mp hb with hb|hb
        .exact hN a hb (a4 a (by simp[ha]))
        .exact RL a ha a (by simp[hb]) rfl
      obtain⟨G',b1,b2,b3⟩:=fs (xs.set j q.1) (ws.set j w) _ rs ng (λz=>(QL p z).elim a6 Sa) λa ha=>(QL a ha).imp id λz y=>hN a z y
      refine⟨G',b1,b2,λa ha=>?_⟩;rcases b3 a ha with z|z
      .exact .inl z
      .exact (QL a z).imp (a4 a) id
   |_=>rw[Vn] at h;exact h.elim
end
section
variable {X:Cx}
noncomputable def kj:List String:=["int","bool","list","tuple"]
theorem ty_type {T:String}(h:T∈kj):Ņ (.type T)=pure (.type "type"):=by
 simp only[kj,dm,cx,or_false] at h;rcases h with rfl|rfl|rfl|rfl<;>kernel_rfl
def La (K:Frag):List V->Hp->VK->Prop:=λxs H Q=>∃x T d G,xs=[x,.ty T]/\T∈kj/\FP T [d]=θ (.bl (tq T d))/\Rep K H d x G/\Q (.bl (tq T d)) H
theorem mM:gY X (.builtin "isinstance") (La X.K):=by
 intro pins s σ H xs us Q I r h;obtain⟨x,T,d,G,rfl,hT,Se,rp,q⟩:=h;obtain⟨u,w,rfl,rx,rt⟩:=r.two;obtain rfl:w=GT T:=rt;have Nz:=ty_type hT;have yes:∀{Tx:String},s.TypeIs u Tx->isSubtype (.type Tx) (.type T)=pure ζ->tq T d=ζ->Β (Ζ X.prog X.w) X.A (call (.builtin "isinstance") [u,.type T]) (EP X pins σ Q) X.xe s:=λh1 h2 h3=>
  jp (isinstance_true Nz h2) ⟨h1,⟨.bl ζ,H,I,rfl,by rw[h3] at q;exact q⟩⟩
 have no:tq T d=ε->EP X pins σ Q (.bool ε) { s with toks:=s.toks+1 }:=λh=>⟨.bl ε,H,I.tok _,rfl,by rw[h] at q;exact q⟩
 simp only[kj,dm,cx,or_false] at hT;cases d with
 |bl b=>
  obtain⟨rfl,_⟩:=rp.MG;cases rx;rcases hT with rfl|rfl|rfl|rfl
  .exact yes (ĸ s b) F.sub_bool_int rfl
  .exact yes (ĸ s b) F.sub_bool_bool rfl
  .exact jp (ŋ (by decide) Nz F.sub_bool_list) (no rfl)
  .exact jp (ŋ (by decide) Nz F.sub_bool_tuple) (no rfl)
 |int i=>
  obtain⟨rfl,_⟩:=rp.int_inv;obtain⟨t,rfl⟩:=rx;rcases hT with rfl|rfl|rfl|rfl
  .exact yes (Ğ s i t) F.sub_int_int rfl
  .exact jp (æ (by decide) Nz F.sub_int_bool) (no rfl)
  .exact jp (æ (by decide) Nz F.sub_int_list) (no rfl)
  .exact jp (æ (by decide) Nz F.sub_int_tuple) (no rfl)
 |lst ds=>
  obtain⟨p,vs,g,rfl,_,a1,_⟩:=rp.lst_inv;cases rx;obtain⟨aH,_,pl,_⟩:=I.list (.inl a1);obtain⟨o,ho,hc,_⟩:=pl.isList;rcases hT with rfl|rfl|rfl|rfl
  .exact jp (Z8 (by decide) Nz F.sub_list_int) ⟨⟨o,ho,hc⟩,no rfl⟩
  .exact jp (Z8 (by decide) Nz F.sub_list_bool) ⟨⟨o,ho,hc⟩,no rfl⟩
  .exact yes ⟨o,ho,hc⟩ F.sub_list_list rfl
  .exact jp (Z8 (by decide) Nz F.sub_list_tuple) ⟨⟨o,ho,hc⟩,no rfl⟩
 |tup ds=>
  obtain⟨p,vs,rfl,a1,_⟩:=rp.Mj;cases rx;obtain⟨aH,_,pl,_⟩:=I.tuple a1;obtain⟨o,ho,hc,_⟩:=pl;rcases hT with rfl|rfl|rfl|rfl
  .exact jp (ZY (by decide) Nz F.sub_tuple_int) ⟨⟨o,ho,hc⟩,no rfl⟩
  .exact jp (ZY (by decide) Nz F.sub_tuple_bool) ⟨⟨o,ho,hc⟩,no rfl⟩
  .exact jp (ZY (by decide) Nz F.sub_tuple_list) ⟨⟨o,ho,hc⟩,no rfl⟩
  .exact yes ⟨o,ho,hc⟩ F.sub_tuple_tuple rfl
 |_=>cases Se
theorem Cr {b:String}{σ:L2.St}(hb:b∈kj)(h:tE X.K T (.blt (.Q1 b) (.cons c .nil)) σ H Q):G8 (La X.K) (cK (tE X.K T c) (cK (tC (.ty b)) mO)) σ H Q:=by
 obtain⟨P,env,F,re,p,Mb,k⟩:=h;unfold ev aR aR at Mb;obtain⟨l,h1,Mb⟩:=Rs.Ma Mb;obtain⟨q,h2,h1⟩:=Rs.Ma h1;cases h1;obtain⟨d',h3,Mb⟩:=Rs.Ma Mb;have h3:lK (.Q1 b) [q.1]=θ d':=cJ h3;have hd:d'=.bl (tq b q.1):=by
  generalize q.1=z at h3;cases z<;>cases h3<;>rfl
 subst hd;cases Mb;exact⟨P,env,F,re,q,h2,λv H1 G s rp rt=>⟨v,b,q.1,G,rfl,hb,h3,rp,k _ H1 [] s (.bl _) bI.nil⟩⟩
theorem uI:∀{r:List D},r.all D.Ny=ζ->∃bs:List Bool,r=bs.map D.bl
 |[],_=>⟨[],rfl⟩
 |x::r,ha=>by
  rw[iw,ai] at ha;obtain⟨bs,rfl⟩:=uI ha.2;cases x with
  |bl c=>exact⟨c::bs,rfl⟩
  |_=>cases ha.1
theorem all_range (bs:List Bool):(ρ bs.length).all (λi=>bs[i]?.getD ζ)=bs.all id:=by
 rw[fm,bz,bz];constructor
 .intro h x hx;obtain⟨i,hi,rfl⟩:=Ī.mp hx;have:=h i (by simpa using hi);simpa[hi] using this
 .intro h i hi;have hi:i<bs.length:=by simpa using hi
  simpa[hi] using h bs[i] (iq hi)
theorem nY:∀{ds:List D}{b:Bool},allB ds=θ b->ds.all D.Ny=ζ->∃bs:List Bool,ds=bs.map D.bl/\b=bs.all id
 |[],b,h,_=>by cases h;exact⟨[],rfl,rfl⟩
 |.bl c::r,b,h,ha=>by
  have Ox:r.all D.Ny=ζ:=by simpa[D.Ny] using ha
  cases c with
  |false=>
   cases h;have:=uI Ox;obtain⟨bs,rfl⟩:=this;exact⟨ε::bs,rfl,by simp⟩
  |true=>
   obtain⟨bs,rfl,rfl⟩:=nY (ds:=r) h Ox;exact⟨ζ::bs,rfl,by simp⟩
 |.Mh::r,b,h,_=>by cases h
 |.int _::r,b,h,_=>by cases h
 |.lst _::r,b,h,_=>by cases h
 |.tup _::r,b,h,_=>by cases h
theorem oZ:∀{bs:List Bool}{vs:List V}{G:List Addr}{us:List Value},aF K H (bs.map D.bl) vs G->aK vs us->us=bs.map Ch
 |[],_,_,_,.nil,.nil=>rfl
 |b::bs,_,_,_,.cons h r,.cons x y=>by
  obtain⟨rfl,_⟩:=h.MG;cases x;rw[bo,<-oZ r y]
theorem yF (hc:X.calm=ζ):gY X (.builtin "all") (rL X.K .all):=by
 intro pins s σ H xs us Q I r h;obtain⟨ds,d,G,rs,hd,k⟩:=h
 match ds,hd with
 |[.lst ys],hd=>
  simp only[lK,FE] at hd;by_cases hb:ys.all D.Ny=ζ
  .rw[if_pos hb,ae] at hd;obtain⟨b,Ng,rfl⟩:=hd;obtain⟨bs,rfl,rfl⟩:=nY Ng hb;obtain⟨x,rfl,rp⟩:=rs.NQ;obtain⟨p,vs,g,rfl,rfl,a1,a2⟩:=rp.lst_inv;obtain⟨u,rfl,ru⟩:=r.one;cases ru;obtain⟨aH,rv,pl,_⟩:=I.list (.inl a1);have ei:=oZ a2 rv;subst ei;have Mx:p<s.heap.objs.size:=by
    obtain⟨o,ho,_⟩:=pl.isList;exact Α ho
   refine call_all_walk (ZJ pl.isList ⟨s.heap.objs.size,[s.heap.objs.size,p],[s.heap.objs.size],(bs.map Ch).toArray.size,_,_,λi=>bs[i]?.getD ζ,rfl,İ (A:=X.A.in1) (show X.A.in1.handled=η from I.ok.hd hc) s.heap.objs.size p (a8 Mx) (bs.map Ch).toArray,⟨⟨_,Υ _ rfl,rfl,rfl⟩,pl.isList.at λo e=>τ _ e⟩,λi v s' Q' E' hP hQ=>?_,λh' tk hk=>?_⟩)
   .have hP:(bs.map Ch).toArray[i]? = θ v:=hP;rw[ZK,π,ae] at hP;obtain⟨b,e1,rfl⟩:=hP;have hQ:Q' (bs[i]?.getD ζ) s':=hQ;rw[e1] at hQ;exact wS hQ
   .have e:(ρ (bs.map Ch).toArray.size).all (λi=>bs[i]?.getD ζ)=bs.all id:=by
     simp only[ak,aj];exact all_range bs
    rw[e];refine⟨.bl (bs.all id),H,?_,rfl,k _ H [] (.bl _) kC.nil⟩;have I1:Inv X pins σ H { s with heap:=s.heap.push { cls:=.type "list_iterator",data:=.fields #[.ref p,.int 0 0] } }:=I.kept (t':=s.toks) λb o e=>τ _ e
    obtain⟨f0,f1,f2,f3,f4,f5⟩:=I.ND (b:=s.heap.objs.size) (au _) (I.Mc.fresh (au _));exact I1.turned (t':=tk) (λb o hb e=>hk b o (by simpa using hb) e) f0 f1 f3 f4 f5
  .rw[if_neg hb] at hd;cases hd
theorem rf:∀{ds:List D}{a r:Int},wV a ds=θ r->∃ns:List Int,ds=ns.map D.int/\r=a+ns.sum
 |[],a,r,h=>by cases h;exact⟨[],rfl,by simp⟩
 |.int i::ds,a,r,h=>by
  obtain⟨ns,rfl,rfl⟩:=rf (ds:=ds) (a:=a+i) h;exact⟨i::ns,rfl,by rw[ą];omega⟩
 |.Mh::_,_,_,h=>by cases h
 |.bl _::_,_,_,h=>by cases h
 |.lst _::_,_,_,h=>by cases h
 |.tup _::_,_,_,h=>by cases h
theorem kY:∀{ns:List Int}{vs:List V}{G:List Addr}{us:List Value},aF K H (ns.map D.int) vs G->aK vs us->us.length=ns.length/\∀i u,us[i]? = θ u->∃t,u=Ψ (ns.getD i 0) t
 |[],_,_,_,.nil,.nil=>⟨rfl,λi u h=>by simp at h⟩
 |n::ns,_,_,_,.cons h r,.cons x y=>by
  obtain⟨rfl,_⟩:=h.int_inv;obtain⟨t,rfl⟩:=x;obtain⟨a,b⟩:=kY r y;refine⟨by simp[a],λi u h=>?_⟩;cases i with
  |zero=>simp at h;exact⟨t,by simp[<-h]⟩
  |succ i=>
   obtain⟨t',e⟩:=b i u (by simpa using h);exact⟨t',by simpa using e⟩
theorem z0 (hc:X.calm=ζ):gY X (.builtin "sum") (rL X.K .sum):=by
 intro pins s σ H xs us Q I r h;obtain⟨ds,d,G,rs,hd,k⟩:=h
 match ds,hd with
 |[.lst ys],hd=>
  simp only[lK,FJ] at hd;rw[ae] at hd;obtain⟨b,Ng,rfl⟩:=hd;obtain⟨ns,rfl,rfl⟩:=rf Ng;obtain⟨x,rfl,rp⟩:=rs.NQ;obtain⟨p,vs,g,rfl,rfl,a1,a2⟩:=rp.lst_inv;obtain⟨u,rfl,ru⟩:=r.one;cases ru;obtain⟨aH,rv,pl,_⟩:=I.list (.inl a1);obtain⟨hl,hv⟩:=kY a2 rv;have Mx:p<s.heap.objs.size:=by
   obtain⟨o,ho,_⟩:=pl.isList;exact Α ho
  refine call_sum_walkG (ZJ pl.isList ⟨s.heap.objs.size,[s.heap.objs.size,p],[s.heap.objs.size],aH.toArray.size,_,_,λi=>ns.getD i 0,rfl,İ (A:=X.A.in1) (show X.A.in1.handled=η from I.ok.hd hc) s.heap.objs.size p (a8 Mx) aH.toArray,⟨⟨_,Υ _ rfl,rfl,rfl⟩,pl.isList.at λo e=>τ _ e⟩,λb hb=>?_,λi v hP=>?_,λh' tk t' hk=>?_⟩)
  .simp only[dm,cx,or_false] at hb;rw[Op];rcases hb with rfl|rfl
   .exact ja _
   .exact i8 Mx
  .have hP:aH.toArray[i]? = θ v:=hP;rw[ZK] at hP;exact hv i v hP
  .rw[preSum_getD,ak,hl,Ō];refine⟨.int ns.sum,H,?_,⟨_,rfl⟩,by have:=k (.int (0+ns.sum)) H [] (.int _) kC.nil;rwa [f?] at this⟩;have I1:Inv X pins σ H { s with heap:=s.heap.push { cls:=.type "list_iterator",data:=.fields #[.ref p,.int 0 0] } }:=I.kept (t':=s.toks) λb o e=>τ _ e
   obtain⟨f0,f1,f2,f3,f4,f5⟩:=I.ND (b:=s.heap.objs.size) (au _) (I.Mc.fresh (au _));exact I1.turned (t':=tk) (λb o hb e=>hk b o (by simpa using hb) e) f0 f1 f3 f4 f5
end
section
variable {prog:Program}{w:Ξ}{A:Ρ}{E:Value->μ->Prop}{s:μ}
end
section
variable {X:Cx}{T:Tb}
end
theorem yd:∀(xs:List V) (us:List Value),xs.length=us.length->(∀(i:Nat) (x:V),xs[i]? = θ x->∃u,us[i]? = θ u/\RelV x u)->aK xs us
 |[],[],_,_=>.nil
 |[],_::_,h,_=>by simp at h
 |_::_,[],h,_=>by simp at h
 |x::xs,u::us,h,f=>by
  obtain⟨u',e,r⟩:=f 0 x rfl;cases e;exact .cons r (yd xs us (by simpa using h) λi y hy=>by simpa using f (i+1) y (by simpa using hy))
theorem vT {a c:Int}{acc:Array Value}(h:ItemsOf (λi v=>∃t,v=.int (a+i*c) t) acc n):aK (dU a c n) acc.toList:=by
 obtain⟨h1,h2⟩:=h;refine yd _ _ (by simp[dU,h1]) λi x hx=>?_
 unfold dU at hx;rw[π,ae] at hx;obtain⟨k,hk,rfl⟩:=hx;obtain⟨hk1,Px⟩:=χ.mp hk;have Sk:i<n:=by simpa using hk1
 have hik:k=i:=by rw[<-Px];simp
 subst hik;have Mx:k<acc.toList.length:=by simp[h1];exact Sk
 refine⟨acc.toList[k],υ Mx,?_⟩;obtain⟨t,ht⟩:=h2 k acc[k] (by simp[h1,Sk]);have:acc.toList[k]=acc[k]'(by simpa using Mx):=by simp
 rw[this,ht];exact⟨t,rfl⟩
section
variable {X:Cx}{T:Tb}
theorem Ac {σ:L2.St}{E:Value->μ->Prop}{t v:Þ}(hc:X.calm=ζ)(I:Inv X pins σ H s)(h1 : -(2 ^ 62)<=lo)(h2:lo<2 ^ 62)(h3 : -(2 ^ 62)<=hi)(h4:hi<2 ^ 62)(h5:hi-lo<=1000000)
  (q:∀l,H l=η->Q (.ref l) (upd H l (.lst (dU lo 1 (hi-lo).toNat)))):Β (Ζ X.prog X.w) X.A (call (.type "list") [.ref s.heap.objs.size]) (EP X pins σ Q) E { s with heap:=s.heap.push { cls:=.type "range",data:=.fields #[.int lo t,.int hi u,.int 1 v] },toks:=tk }:=by
 have I1:Inv X pins σ H { s with heap:=s.heap.push { cls:=.type "range",data:=.fields #[.int lo t,.int hi u,.int 1 v] },toks:=tk }:=I.kept λb o e=>τ _ e
 refine call_list_range (n:=(hi-lo).toNat) (I1.ok.hd hc) (ŧ ..) (small_one h1 h2 h3 h4) (by rw[v?];split<;>omega) (by omega) λh' S6 Xx c' hk hS OU=>?_
 have hv:=vT OU;have h0:H (s.heap.push { cls:=.type "range",data:=.fields #[.int lo t,.int hi u,.int 1 v] }).objs.size=η:=I1.fresh;have I2:=I1.laid (a:=(s.heap.push { cls:=.type "range",data:=.fields #[.int lo t,.int hi u,.int 1 v] }).objs.size) (o:=.lst (dU lo 1 (hi-lo).toNat)) (t':=S6) (h':=h') hk (au _) ⟨by rw[kW];have:=sT;have:lim=1000000:=rfl;omega,Xx.toList,c',hv,hS⟩;exact⟨.ref _,_,I2,rfl,q _ h0⟩
theorem xB {q:No}(hc:X.calm=ζ)(hg:Gl X "list") (hm:X.mg "list" = η) (VQ:Gl X "range") (Oi:X.mg "range" = η) (ha:PA X es (tF X.K T cs)) (hs:∃e r,es=e::r/\Ι es X.env=(ε,eval e X.env)::Ι r X.env/\((Pi pos' (Ι r X.env)).any λx=>x.1)=ε) :
  PE X (.Call (.Name "list" p) [.Call (.Name "range" q) es [] pos'] [] pos) (tE X.K T (.blt .OJ cs)):=by
 intro pins s σ H Q I h;obtain⟨P,env,F,re,r,Mb,k⟩:=h;unfold ev at Mb;obtain⟨l,h1,Mb⟩:=Rs.Ma Mb;obtain⟨d,h2,Mb⟩:=Rs.Ma Mb;have h2:=cJ h2;cases Mb;obtain⟨e,rs,rfl,hs1,Tw⟩:=hs;refine m? (jL I hg hm g_ (el ?_ rfl rfl));show Β _ _ (ź ((ε,eval (.Call (.Name "range" q) (e::rs) [] pos') X.env) :: [])) _ _ s;refine KF ?_;refine m? (jL I VQ Oi boot_range (el (cI (ha pos' pins s σ H (λvs H'=>∃G,Args X.K env F H H' l vs G) I ⟨P,env,F,re,l,h1,λvs H' G ar=>⟨G,ar⟩⟩) λus s1 ⟨vs,H1,I1,r1,G,ar⟩=>?_) hs1 Tw));have X3:aF X.K H1 (l.map (·.1)) vs G:=ar.Mp;generalize hl:l.map (·.1)=ds at h2 X3
 match ds,h2 with
 |[.int n],h2=>
  simp only[lK,CC] at h2;by_cases hk:mK n=ζ/\n<=1000000
  .rw[if_pos hk] at h2;cases h2;obtain⟨x,rfl,rp⟩:=X3.NQ;obtain⟨rfl,rfl⟩:=rp.int_inv;obtain⟨u,rfl,t,rfl⟩:=r1.one;unfold mK at hk;simp only[decide_eq_true_eq] at hk;refine y! (XV (Ac hc I1 (by omega) (by omega) hk.1.1 hk.1.2 (by omega) λa h0=>?_));obtain⟨n1,n2⟩:=k7 (G0:=[]) (k6 (K:=X.K) (H:=H1) 1 (n-0).toNat 0) (λz hz=>hz) h0;rw[Int.sub_zero] at n1 n2 ⊢;exact k _ _ _ (ar.same.trans n2.same) n1 (bI.new ar n2 λ_ z=>z)
  .rw[if_neg hk] at h2;cases h2
end
noncomputable def Dk (val:Nat->Int):Nat->Nat->Int->Int
 |0,_,m=>m
 |k+1,j,m=>Dk val k (j+1) (if val j > m then val j else m)
theorem yC:(toString "max" ++ toString ".loop" : String) = "max.loop":=by decide
variable {prog:Program}
theorem ES {E:Value->μ->Prop}{a b:Int}{t:Þ}{Q:Value->μ->Prop}(h:Q (.bool (decide (a > b))) s):Β (Ζ prog w) A (C_ .Gt (.int a t) (.int b u)) Q E s :=
 CmpOf.ints_gt (P:=λi v=>∃t,v=.int (if i=0 then a else b) t) (λi=>if i=0 then a else b) (λi v h=>h) 0 1 _ _ s Q E ⟨t,rfl⟩ ⟨u,rfl⟩ h
section
variable {prog:Program}{w:Ξ}{A:Ρ}{R:Ô->μ->Prop}{it:Addr}{fp wr:List Addr}{n:Nat}{P:Nat->Value->Prop}{PD:Nat->Heap->Prop}{dv:Value}{bx:Addr}
theorem Dm (W:B! prog w A.in1 it fp wr n P PD)(val:Nat->Int)(Og:∀i v,P i v->∃t,v=.int (val i) t)(hb:bx∉fp) :
  ∀(k j:Nat) (s:μ) (m:Int) (t:Þ) (c:Nat),n-j=k->j<=n->PD j s.heap->s.heap.get? bx=θ { cls:=.type "list",dict:=η,data:=.seq #[.int m t,.int m t] c,slots:=#[] } ->
  (∀hp tk t',(∀b o,b∉wr->b≠bx->s.heap.get? b=θ o->hp.get? b=θ o)->R (.ok (.ret (.int (Dk val k j m) t'))) { s with heap:=hp,toks:=tk }) ->
  On (Ζ prog w) A (.builtin "max.loop" ⟨[.ref it,.none,.ref bx],[("default",dv)]⟩) R s:=by
 have hw:bx∉wr:=λh=>hb (W.sub _ h)
 intro k
 induction k with
 |zero=>
  intro j s m t c hk hj st hB q;have e:j=n:=by omega
  subst e;refine WF Ë (by
   rw[ZL Fa _];show Β _ A.in1 (g! (.ref bx) >>= _) _ _ s;refine ν (ZF hB rfl (ν (ZG (W.done s _ _ st λhp tk N4=>?_))));have P7:=N4 bx _ hw hB;show Β _ A.in1 (updateSeq bx (λ_=>#[]) >>= _) _ _ _;exact ν (ċ P7 rfl (ν (Ć (Μ (q _ tk t λb o h1 h2 e=>(Λ _ _ (bw h2)).trans (N4 b o h1 e)))))))
 |succ k ih=>
  intro j s m t c hk hj st hB q;have Mx:j<n:=by omega
  refine WF Ë (by
   rw[ZL Fa _];show Β _ A.in1 (g! (.ref bx) >>= _) _ _ s;refine ν (ZF hB rfl (ν (ZG (W.item j s _ _ Mx st λv hp tk hv NP N4=>?_))));have P7:=N4 bx _ hw hB;obtain⟨t2,rfl⟩:=Og j v hv;show Β _ A.in1 (tryCatch (Ç [Ψ (val j) t2,Ψ (val j) t2] (C_ .Gt (.int (val j) t2) (.int m t) >>= _)) _ >>= _) _ _ _;refine ν (ZG (xL (ν (ES (ν (xL (wS (ν (Ć (Μ ?_))))))))));by_cases hg:val j > m
   .rw[cu hg];simp only[if_true];refine ν (ċ P7 rfl (ν (Ć ?_)));rw[yC];refine Μ ⟨ü Fa _,ih (j+1) _ (val j) t2 _ (by omega) Mx (W.frame _ _ _ NP λb Wa o e=>(Λ _ _ (λh:bx=b=>hb (h ▸ Wa))).trans e) (Ω _ P7 rfl) λSb Rh t3 Px=>?_⟩;have:=q Sb Rh t3 λb o h1 h2 e=>Px b o h1 h2 ((Λ _ _ (bw h2)).trans (N4 b o h1 e))
    unfold Dk at this
    rwa [if_pos hg] at this
   .rw[cm hg];simp only[c9,if_false];refine ν (Ć ?_);rw[yC];refine Μ ⟨ü Fa _,ih (j+1) _ m t c (by omega) Mx NP P7 λSb Rh t3 Px=>?_⟩;have:=q Sb Rh t3 λb o h1 h2 e=>Px b o h1 h2 (N4 b o h1 e)
    unfold Dk at this
    rwa [if_neg hg] at this)
theorem Cq (W:B! prog w A.in1 it fp wr n P PD)(val:Nat->Int)(Og:∀i v,P i v->∃t,v=.int (val i) t)(hb:bx∉fp){c:Nat}(st:PD 0 s.heap)(hB:s.heap.get? bx=θ { cls:=.type "list",dict:=η,data:=.seq #[] c,slots:=#[] })
  (q:∀r hp tk,(∀b o,b∉wr->b≠bx->s.heap.get? b=θ o->hp.get? b=θ o)->(n=0->r=dv)->(0<n->∃t,r=.int (Dk val (n-1) 1 (val 0)) t)->R (.ok (.ret r)) { s with heap:=hp,toks:=tk }) :
  On (Ζ prog w) A (.builtin "max.loop" ⟨[.ref it,.none,.ref bx],[("default",dv)]⟩) R s:=by
 have hw:bx∉wr:=λh=>hb (W.sub _ h)
 refine WF Ë (by
  rw[ZL Fa _];show Β _ A.in1 (g! (.ref bx) >>= _) _ _ s;rcases Nat.eq_zero_or_pos n with h0|h0
  .subst h0;refine ν (ZF hB rfl (ν (ZG (W.done s _ _ st λhp tk N4=>?_))));refine ν (wpAny_rule ?_);exact Μ (q dv hp tk (λb o h1 h2 e=>N4 b o h1 e) (λ_=>rfl) λh=>absurd h (fe 0))
  .refine ν (ZF hB rfl (ν (ZG (W.item 0 s _ _ h0 st λv hp tk hv NP N4=>?_))));have P7:=N4 bx _ hw hB;obtain⟨t2,rfl⟩:=Og 0 v hv;show Β _ A.in1 (updateSeq bx (λ_=>#[Ψ (val 0) t2,Ψ (val 0) t2]) >>= _) _ _ _;refine ν (ċ P7 rfl ?_);rw[yC];refine Μ ⟨ü Fa _,Dm W val Og hb (n-1) 1 _ (val 0) t2 _ rfl h0 (W.frame _ _ _ NP λb Wa o e=>(Λ _ _ (λh:bx=b=>hb (h ▸ Wa))).trans e) (Ω _ P7 rfl) λSb Rh t3 Px=>?_⟩;exact q _ Sb Rh (λb o h1 h2 e=>Px b o h1 h2 ((Λ _ _ (bw h2)).trans (N4 b o h1 e))) (λh=>absurd h (by omega)) λ_=>⟨t3,rfl⟩)
end
theorem yR (x d:Value):argsOk "max" ⟨[x],[("default",d)]⟩:=by unfold argsOk;kernel_rfl
theorem zR {E:Value->μ->Prop}{x dv:Value}{Q:Value->μ->Prop}
  (h:Β (Ζ prog w) A.in1 (ĝ x) (λiv s₂=>∃it fp wr n P PD val,iv=.ref it/\B! prog w A.in1 it fp wr n P PD/\PD 0 s₂.heap/\(∀b∈fp,b<s₂.heap.objs.size)/\(∀i v,P i v->∃t,v=.int (val i) t) /\
   ∀r hp tk,(∀b o,b∉wr->s₂.heap.get? b=θ o->hp.get? b=θ o)->(n=0->r=dv)->(0<n->∃t,r=.int (Dk val (n-1) 1 (val 0)) t)->Q r { s₂ with heap:=hp,toks:=tk }) E s) :
  Β (Ζ prog w) A (call (.builtin "max") [x] [("default",dv)]) Q E s:=by
 refine SC (Ev F.plain_max F.entry_max ?_);have hc:Β (Ζ prog w) A.in1 (ë.«max» ⟨[x],[("default",dv)]⟩) (λfin s'=>match fin with
   |.done f=>(match (Except.ok f:Ô) with|.ok (.ret v)=>Q v s'|.ok _=>False|.error e=>E e s')
   |.again c=>c.quiet=ζ/\On (Ζ prog w) A c (λr s2=>match r with|.ok (.ret v)=>Q v s2|.ok _=>False|.error e=>E e s2) s') E s:=by
  show Β _ A.in1 (ZP "max" ["key","default"] 0 ⟨[],[("default",dv)]⟩ >>= _) _ _ s;refine ν (C! (show ZP "max" ["key","default"] 0 ⟨[],[("default",dv)]⟩=pure [η,θ dv] from rfl) (ν (Μ (ν (Θ h (λiv s₂ h₂=>?_) λ_ _ e=>e)))));obtain⟨it,fp,wr,n,P,PD,val,rfl,W,st,hfp,Og,q⟩:=h₂;refine ν (Ê ?_);rw[yC];refine Μ ⟨ü Fa _,Cq W val Og (λhm=>fe _ (hfp _ hm)) (W.frame _ _ _ st λb _ o e=>τ _ e) (Υ _ rfl) λr hp tk hk h0 h1=>?_⟩;exact q r hp tk (λb o hbw e=>hk b o hbw (a8 (Α e)) (τ _ e)) h0 h1
 have ha:=yR x dv;simp only[SZ,F.kind_max];cases Vf:C? "max" with
 |none=>exact Μ hc
 |some sig=>
  simp only[argsOk,Vf] at ha;have h2:Ũ "max" sig ⟨[x],[("default",dv)]⟩=pure ():=ha;show Β _ A.in1 (Ũ "max" sig ⟨[x],[("default",dv)]⟩) _ _ s;rw[h2];exact Μ hc
theorem oq:∀{xs:List D}{a b:Int},qX a xs=θ b->∃ns:List Int,xs=ns.map .int
 |[],_,_,_=>⟨[],rfl⟩
 |.int i::r,a,b,h=>by
  obtain⟨ns,rfl⟩:=oq (xs:=r) (show qX (if i > a then i else a) r=θ b from h);exact⟨i::ns,rfl⟩
theorem rk (f:Nat->Int):∀(ns:List Int) (j:Nat) (a:Int),(∀i,i<ns.length->f (j+i)=ns.getD i 0)->qX a (ns.map .int)=θ (Dk f ns.length j a)
 |[],_,_,_=>rfl
 |n::ns,j,a,h=>by
  have h0:=h 0 (by simp);simp only[Nat.add_zero,List.getD_cons_zero] at h0;show qX (if n > a then n else a) (ns.map .int)=θ (Dk f ns.length (j+1) (if f j > a then f j else a));rw[h0];exact rk f ns (j+1) _ λi hi=>by
   have:=h (i+1) (by simpa using hi);rw[ı] at this;rw[<-this];congr 1;omega
variable {ca:Ex}
section
variable {X:Cx}{T:Tb}
theorem EI {a d:Expr}{cd:Ex}{kp:No}(hc:X.calm=ζ)(hg:Gl X "max") (hm:X.mg "max" = η) (ha:PE X a (tE X.K T ca)) (hd:PE X d (tE X.K T cd)) (hs:Ι [a] X.env=(ε,eval a X.env)::Ι [] X.env) :
  PE X (.Call (.Name "max" p) [a] [⟨θ "default",d,kp⟩] pos) (tE X.K T (.blt .Od (.cons ca (.cons cd .nil)))):=by
 intro pins s σ H Q I h;obtain⟨P,env,F,re,r,Mb,k⟩:=h;unfold ev aR aR aR at Mb;obtain⟨l,h1,Mb⟩:=Rs.Ma Mb;obtain⟨pa,e1,h1⟩:=Rs.Ma h1;obtain⟨l2,h3,h1⟩:=Rs.Ma h1;obtain⟨pd,e2,h3⟩:=Rs.Ma h3;cases h3;cases h1;obtain⟨dd,h2,Mb⟩:=Rs.Ma Mb;have h2:=cJ h2;cases Mb;refine wP (jL I hg hm boot_max (j! ?_ (by rw[hs];rfl) (by rw[hs];rfl)));rw[hs];show Β _ _ (ź ((ε,eval a X.env)::Pi pos (Ι [] X.env))) _ _ s;refine KF (cI (ha pins s σ H (λv H1=>∃G,aG H H1/\Rep X.K H1 pa.1 v G/\bI env F H pa.2 H1 G) I ⟨P,env,F,re,pa,e1,λv H1 G z1 z2 z3=>⟨G,z1,z2,z3⟩⟩) λu s1 ⟨va,H1,I1,r1,G1,sa,Rm,rta⟩=>?_);refine XV (kws_cons (cI (hd pins s1 σ H1 (λv H2=>∃G,aG H1 H2/\Rep X.K H2 pd.1 v G/\bI env F H1 pd.2 H2 G) I1 ⟨P,env,F,re.same sa,pd,e2,λv H2 G z1 z2 z3=>⟨G,z1,z2,z3⟩⟩) λu2 s2 ⟨vd,H2,I2,r2,G2,sd,Uz,rtd⟩=>kws_nil ?_));have ar:Args X.K env F H H2 [pa,pd] [va,vd] (G1++(G2 ++ [])):=.cons sa Rm rta (.cons sd Uz rtd (.nil (aG.refl _)));have Rl:=Rm.same sd;have fin:∀ns:List Int,∀m:Int,pa.1=.lst (ns.map .int)->pd.1=.int m->dd=.int (match ns with|[]=>m|n::r=>Dk (λi=>(n::r).getD i 0) r.length 1 n)->Β (Ζ X.prog X.w) X.A (call (.builtin "max") [u] [("default",u2)]) (EP X pins σ Q) X.xe s2:=by
  intro ns m ea ed edd;rw[ea] at Rl;rw[ed] at Uz;obtain⟨b,vs,g,rfl,_,a1,a2⟩:=Rl.lst_inv;obtain⟨rfl,_⟩:=Uz.int_inv;cases r1;obtain⟨t,rfl⟩:=r2;obtain⟨aH,rv,pl,_⟩:=I2.list (.inl a1);obtain⟨hl,hv⟩:=kY a2 rv;have Mx:b<s2.heap.objs.size:=by
   obtain⟨o,ho,_⟩:=pl.isList;exact Α ho
  refine zR (ZJ pl.isList ⟨s2.heap.objs.size,[s2.heap.objs.size,b],[s2.heap.objs.size],aH.toArray.size,_,_,λi=>ns.getD i 0,rfl,İ (A:=X.A.in1) (show X.A.in1.handled=η from I2.ok.hd hc) s2.heap.objs.size b (a8 Mx) aH.toArray,⟨⟨_,Υ _ rfl,rfl,rfl⟩,pl.isList.at λo e=>τ _ e⟩,λc hb=>?_,λi v hP=>?_,λr hp tk hk q0 q1=>?_⟩)
  .simp only[dm,cx,or_false] at hb;rw[Op];rcases hb with rfl|rfl
   .exact ja _
   .exact i8 Mx
  .have hP:aH.toArray[i]? = θ v:=hP;rw[ZK] at hP;exact hv i v hP
  .have J1:Inv X pins σ H2 { s2 with heap:=s2.heap.push { cls:=.type "list_iterator",data:=.fields #[.ref b,.int 0 0] } }:=I2.kept (t':=s2.toks) λb o e=>τ _ e
   obtain⟨f0,f1,f2,f3,f4,f5⟩:=I2.ND (b:=s2.heap.objs.size) (au _) (I2.Mc.fresh (au _));have J2:=J1.turned (t':=tk) (λb o hb e=>hk b o (by simpa using hb) e) f0 f1 f3 f4 f5;rw[ak,hl] at q0 q1;have kk:=k (.int _) H2 [] ar.same (by rw[edd];exact Rep.int _) (bI.new ar (d:=dd) kC.nil λ_ z=>z);cases ns with
   |nil=>
    cases q0 rfl;exact⟨.int m,H2,J2,⟨_,rfl⟩,kk⟩
   |cons n ns=>
    obtain⟨t',rfl⟩:=q1 (by simp);exact⟨.int _,H2,J2,⟨_,rfl⟩,kk⟩
 show Β _ _ (call (.builtin "max") [u] [("default",u2)]) _ _ s2;generalize hxa:pa.1=xa at h2 fin;generalize hxd:pd.1=xd at h2 fin;revert h2;show lK .Od [pa.1,pd.1]=θ dd->_;rw[hxa,hxd];intro h2
 match xa,xd,h2 with
 |.lst [],.int m,h2=>
  cases h2;exact fin [] m rfl rfl rfl
 |.lst (.int i::r),.int m,h2=>
  simp only[lK,BR] at h2;rw[ae] at h2;obtain⟨z,hz,rfl⟩:=h2;obtain⟨ns,rfl⟩:=oq hz;refine fin (i::ns) m rfl rfl ?_;rw[rk (λj=>(i::ns).getD j 0) ns 1 i (λj hj=>by rw[õ,ı])] at hz;cases hz;rfl
end
section
variable {X:Cx}{T:Tb}
theorem qz:∀{xs:List D}{k:List Int}{vs:List V}{G:List Addr},rX xs=θ k->aF K H xs vs G->vs=k.map V.int
 |[],k,vs,G,h,r=>by cases h;cases r;rfl
 |.int i::xs,k,vs,G,h,r=>by
  have h:(rX xs).map (i :: ·)=θ k:=h;rw[ae] at h;obtain⟨k',h1,rfl⟩:=h;cases r with
  |cons r1 r2=>
   obtain⟨rfl,_⟩:=r1.int_inv;rw[qz h1 r2];rfl
 |.Mh::_,_,_,_,h,_=>by cases h
 |.bl _::_,_,_,_,h,_=>by cases h
 |.lst _::_,_,_,_,h,_=>by cases h
 |.tup _::_,_,_,_,h,_=>by cases h
 |.Np _::_,_,_,_,h,_=>by cases h
theorem vC (hc:X.calm=ζ):gY X (.type "list") (rL X.K .list):=by
 intro pins s σ H xs us Q I r h;obtain⟨ds,d,G,rs,hd,k⟩:=h;exact t9 I r rs hd k
end
theorem dN.N3 {o:HO}(x:dN P w H h a o):∃ob,h.get? a=θ ob:=by
 cases o with
 |lst xs=>obtain⟨_,_,_,_,e⟩:=x;exact⟨_,e⟩
 |tup xs=>obtain⟨_,_,_,ob,e,_⟩:=x;exact⟨_,e⟩
 |dK kvs=>obtain⟨_,_,_,_,o,_,_,e,_⟩:=x;exact⟨_,e⟩
 |dT kvs=>obtain⟨_,_,_,_,o,_,_,e,_⟩:=x;exact⟨_,e⟩
 |set S n=>obtain⟨o,_,_,_,e,_⟩:=x;exact⟨_,e⟩
 |ins C dx fs=>obtain⟨_,_,_,e,_⟩:=x;exact⟨_,e⟩
 |own y=>obtain⟨_,e⟩:=x;exact⟨_,e⟩
 |xd fs=>obtain⟨_,⟨_,_,_,e,_⟩,_⟩:=x;exact⟨_,e⟩
 |Td lo hi=>obtain⟨_,_,_,e⟩:=x;exact⟨_,e⟩
 |Om ob u=>obtain⟨e,_⟩:=x;exact⟨_,e⟩
 |PJ ps=>exact⟨_,(show h.get? a=θ _ from x)⟩
 |met f y=>exact⟨_,(show h.get? a=θ _ from x)⟩
 |ext φ=>obtain⟨_,⟨_,e⟩,_⟩:=x;exact⟨_,e⟩
theorem Cv {σ:L2.St}{m:Str->Option Value}{B:Addr}{o:HO}{t':Nat}(I:Inv X pins σ H s)(hn:s.heap.Ns X.env.locals m)(M9:h'.Ns X.env.locals m)
  (k:∀b o,b≠X.env.locals->s.heap.get? b=θ o->h'.get? b=θ o) (hB:∀b o,s.heap.get? b=θ o->b≠B) (new:dN X.prog X.w (upd H B o) h' B o):Inv X pins σ (upd H B o) { s with heap:=h',toks:=t' }:=by
 have QH:H B=η:=by
  cases e:H B with
  |none=>rfl
  |some u=>
   obtain⟨ob,q⟩:=dN.N3 (I.Mc B u e);exact absurd rfl (hB B ob q)
 have nL:∀b u,H b=θ u->b≠X.env.locals:=λb u e z=>by rw[z,I.free] at e;cases e
 refine I.step (g':=s.gens) (d':=s.drawn) (ch:=[]) (λb hb=>nomatch hb) (λb o' hL _ _ e _=>k b o' hL e) (λb o' hL _ _ e _=>⟨o'.slots,k b o' hL e⟩) (λb o' _ e n=>by rw[aL (hB b o' e)];exact n) (λb o' _ e=>?_)
  (λb xs e=>by rw[aL (bS e QH)];exact e) (λb ob u e=>by rw[aL (bS e QH)];exact e) (λb ps e=>⟨#[],by rw[aL (bS e QH),e];simp⟩) (λm' hm=>?_) (λb u e=>?_) I.bare
 .by_cases hL:b=X.env.locals
  .subst hL;obtain⟨o2,_,_,q,_⟩:=M9;exact⟨o2,q⟩
  .exact⟨o',k b o' hL e⟩
 .obtain⟨o1,es,ep,e1,e2,e3,e4⟩:=hn;obtain⟨o2,Pe,TM,f1,f2,f3,f4⟩:=hm;rw[e1] at f1;cases f1;rw[e2] at f2;cases f2;have:m'=m:=funext λx=>by rw[<-f4 x,e4 x]
  rw[this];exact M9
 .by_cases hb:b=B
  .subst hb;rw[aZ] at e;cases e;exact new
  .rw[aL hb] at e;refine (I.Mc b u e).MK (λc v hc q=>k c v ?_ q) (λc q=>?_) λc xs q=>?_
   .rcases hc with z|z
    .rw[z];exact nL b u e
    .exact nL c _ z
   .rw[aL (bS q QH)];exact q
   .rw[aL (bS q QH)];exact q
section
variable {prog:Program}{w:Ξ}{A:Ρ}
end
section
variable {X:Cx}{pins:List (Addr×Obj)}{σ:L2.St}{H:Hp}{s:μ}
end
theorem insI_perm (a:Int):∀l:List Int,(insI a l).Perm (a::l)
 |[]=>.refl _
 |b::l=>by
  unfold insI;split
  .exact .refl _
  .exact ((insI_perm a l).cons b).trans (.swap a b l)
theorem hZ:∀l:List Int,(gR l).Perm l
 |[]=>.refl _
 |a::l=>(insI_perm a _).trans ((hZ l).cons a)
theorem uJ (a:Int):∀{l:List Int},l.Pairwise (·<=·)->(insI a l).Pairwise (·<=·)
 |[],_=>ju _ _
 |b::l,h=>by
  have h':=wT.mp h;unfold insI;split
  .rename_i e;refine wT.mpr ⟨λx hx=>?_,h⟩;rcases dm.mp hx with rfl|hx
   .exact e
   .exact ģ e (h'.1 x hx)
  .rename_i e;refine wT.mpr ⟨λx hx=>?_,uJ a h'.2⟩;rcases dm.mp ((insI_perm a l).mem_iff.mp hx) with rfl|hx
   .omega
   .exact h'.1 x hx
theorem kR:∀l:List Int,(gR l).Pairwise (·<=·)
 |[]=>.nil
 |a::l=>uJ a (kR l)
theorem iU:∀{ns:List Int}{us:List Value},aK (ns.map V.int) us->É us ns
 |[],us,h=>by cases h;exact .nil
 |n::ns,us,h=>by
  cases h with
  |cons a b=>
   obtain⟨t,rfl⟩:=a;exact .cons _ t (iU b)
theorem qh:∀{ns:List Int}{us:List Value},É us ns->aK (ns.map V.int) us
 |[],us,h=>by cases h;exact .nil
 |n::ns,us,h=>by
  cases h with
  |cons _ t b=>exact .cons ⟨t,rfl⟩ (qh b)
section
variable {X:Cx}
theorem rW:gY X (.builtin "sorted") (rL X.K .sorted):=by
 intro pins s σ H xs us Q I r h;obtain⟨ds,d,G,rs,hd,k⟩:=h
 match ds,hd with
 |[.lst ys],hd=>
  have hd:(match rX ys with
   |some ns=>if ns.length<64 then θ (D.lst ((gR ns).map .int)) else η
   |none=>η)=θ d:=hd
  cases VH:rX ys with
  |some ns=>
   rw[VH] at hd;by_cases Wh:ns.length<64
   .simp only[if_pos Wh] at hd;cases hd;obtain⟨x,rfl,rp⟩:=rs.NQ;obtain⟨l,vs,g,rfl,rfl,a1,a2⟩:=rp.lst_inv;obtain⟨u,rfl,rx⟩:=r.one;obtain rfl:u=.ref l:=rx;obtain⟨aH,rv,pl,_⟩:=I.list (.inl a1);obtain rfl:=qz VH a2;obtain⟨m,hn,_⟩:=id I.loc;have F:=Att.HL hn;have N:News (Att.rT s.heap) X.env.locals s.heap (Att.ledger s.heap X.env.locals X.env.locals):=λ⟨a,o⟩ hp=>by
     obtain⟨n1,_,e⟩:=Att.kN.mp hp;exact⟨e,n1,Att.oO _ _⟩
    refine PySem.W.kso_sorted F N pl.isList (iU rv) Wh λB OA Qo c h' F' N' l1 Oj len perm asc _=>?_
    obtain rfl:Qo=gR ns:=PySem.W.lks_uniq (perm.trans (hZ ns).symm) asc (kR ns);have hB:∀b o,s.heap.get? b=θ o->b≠B:=λb o e z=>by
     by_cases hb:b=X.env.locals
     .exact (N' _ (ag ..)).2.1 (z.symm.trans hb)
     .exact absurd z (a8 (l1 _ (Att.kN.mpr ⟨hb,hb,e⟩)))
    have hI:=Cv (t':=s.toks) (o:=.lst ((gR ns).map V.int)) I hn F'.ns (λb o hb e=>N'.get (aa _ (Att.kN.mpr ⟨hb,hb,e⟩))) hB ⟨by rw[aj,len,Uf];omega,_,c,qh Oj,N'.get (ag ..)⟩;refine⟨.ref B,_,hI,rfl,?_⟩;have QH:H B=η:=by
     cases e:H B with
     |none=>rfl
     |some u=>
      obtain⟨ob,q⟩:=dN.N3 (I.Mc B u e);exact absurd rfl (hB B ob q)
    obtain⟨n1,n2⟩:=k7 (G0:=l::g) (qS (K:=X.K) (H:=H) (gR ns)) (λa ha=>nomatch ha) QH;exact k _ _ _ n1 n2
   .simp only[if_neg Wh] at hd;cases hd
  |none=>rw[VH] at hd;cases hd
end
section
variable {prog:Program}{w:Ξ}{A:Ρ}{R:Ô->μ->Prop}{it:Addr}{fp wr:List Addr}{n:Nat}{P:Nat->Value->Prop}{PD:Nat->Heap->Prop}{bx:Addr}{val:Nat->Value}{lt:Nat->Nat->Bool}{h0:Heap}
end
section
variable {X:Cx}{pins:List (Addr×Obj)}{σ:L2.St}{H:Hp}{s:μ}
end
section
variable {X:Cx}
end
section
variable {X:Cx}
theorem yY:gY X (.type "int") (rL X.K .int):=by
 intro pins s σ H xs us Q I r h;obtain⟨ds,d,G,rs,hd,k⟩:=h
 match ds,hd with
 |[.bl b],hd=>
  cases hd;obtain⟨x,rfl,rp⟩:=rs.NQ;obtain⟨rfl,rfl⟩:=rp.MG;obtain⟨u,rfl,ru⟩:=r.one;cases ru;exact call_int_bool ⟨.int _,H,I.tok _,⟨_,rfl⟩,k _ H [] (.int _) kC.nil⟩
theorem tY:∀{ds:List D}{bs:List Bool},xi n d ds=θ bs->bs.length=ds.length/\∀(m:Nat) x,ds[m]? = θ x->∃b,bs[m]? = θ b/\D.Mr n x d=θ b
 |[],bs,h=>by
  cases h;exact⟨rfl,λm x h=>by simp at h⟩
 |x::r,bs,h=>by
  have h:((D.Mr n x d).bind λb=>(xi n d r).map (b :: ·))=θ bs:=h;rw[ah] at h;obtain⟨b,h1,h⟩:=h;rw[ae] at h;obtain⟨cs,h2,rfl⟩:=h;obtain⟨l,g⟩:=tY h2;refine⟨by simp[l],λm y hy=>?_⟩;cases m with
  |zero=>
   rw[List.getElem?_cons_zero] at hy;cases hy;exact⟨b,rfl,h1⟩
  |succ m=>
   rw[Č] at hy;obtain⟨c,h3,h4⟩:=g m y hy;exact⟨c,by rw[Č];exact h3,h4⟩
def Bc (K:Frag):V->List V->Hp->VK->Prop:=λx xs H Q=>∃(p:Addr) (ds:List D) (d:D) (j:Nat) (y:V) (G G':List Addr),x=.ref p/\xs=[y]/\Rep K H (.lst ds) (.ref p) G/\Rep K H d y G'/\ou 20 d ds=θ j/\ds.length<=lim/\Q (.int (j:Int)) H
theorem uu (hu:X.A.units+40<cLine):Ke X "list.index" (Bc X.K):=by
 intro pins s σ H x xs v us Q I rx r h;obtain⟨p,ds,d,j,y,G,G',rfl,rfl,rp,rd,hj,hl,q⟩:=h;cases rx;obtain⟨u,rfl,ru⟩:=r.one;obtain⟨p',vs,g,e,rfl,a1,a2⟩:=rp.lst_inv;cases e;obtain⟨aH,rv,pl,_⟩:=I.list (.inl a1);unfold ou at hj;rw[ah] at hj;obtain⟨bs,hb,hj⟩:=hj;obtain⟨bl,bg⟩:=tY hb;have hlen:aH.length=ds.length:=by rw[<-rv.length,<-a2.len]
 have Mv:∀(m:Nat) (z:Value),aH[m]? = θ z->∃b v1 g1,bs[m]? = θ b/\RelV v1 z/\(∃x,Rep X.K H x v1 g1/\D.Mr 20 x d=θ b)/\∀(A:Ρ),A.units+20<cLine->Z7 A s z u b:=λm z hz=>by
  have hm:m<ds.length:=by rw[<-hlen];exact (χ.mp hz).1
  obtain⟨v1,g1,e1,p1,_⟩:=a2.get (i:=m) (d:=ds[m]) (by simp[hm]);obtain⟨u1,f1,t1⟩:=rv.get e1;rw[hz] at f1;cases f1;obtain⟨b,h1,h2⟩:=bg m ds[m] (by simp[hm]);exact⟨b,v1,g1,h1,t1,⟨_,p1,h2⟩,λA hA=>(xH I 20 A _ _ _ _ _ _ _ _ _ hA p1 rd t1 ru h2).2⟩
 have one:∀(m k:Nat) (z:Value) (b c:Bool),aH[m]? = θ z->aH[k]? = θ z->bs[m]? = θ b->bs[k]? = θ c->b=c:=λm k z b c hm hk hb hc=>by
  obtain⟨b',v1,g1,e1,r1,⟨x,p1,q1⟩,_⟩:=Mv m z hm;obtain⟨c',v2,g2,e2,r2,⟨y',p2,q2⟩,_⟩:=Mv k z hk;rw[hb] at e1;cases e1;rw[hc] at e2;cases e2;obtain rfl:=r1.inj r2;exact CB I 20 p1 p2 q1 q2
 let e:Value->Bool:=λz=>@decide (∃m:Nat,aH[m]? = θ z/\bs[m]? = θ ζ) (WP _)
 have he:∀(m:Nat) (z:Value) (b:Bool),aH[m]? = θ z->bs[m]? = θ b->e z=b:=λm z b hm hb=>by
  cases b with
  |true=>exact @decide_eq_true _ (WP _) ⟨m,hm,hb⟩
  |false=>
   refine @decide_eq_false _ (WP _) λ⟨k,hk,hc⟩=>?_
   exact absurd (one m k z _ _ hm hk hb hc) (by decide)
 obtain⟨YD,hjt,hjf⟩:=List.findIdx?_eq_some_iff_getElem.mp hj;have VJ:j<aH.toArray.size:=by rw[ak,hlen,<-bl];exact YD
 have gt:∀(m:Nat) (hm:m<aH.toArray.size),aH[m]? = θ aH.toArray[m]:=λm hm=>by
  rw[ak] at hm;rw[υ hm];rfl
 obtain⟨⟨cls,dd,data,sl⟩,ho,hc,n,hd⟩:=id pl.isList;cases hc;cases hd;refine ZE jt ⟨_,ho,rfl⟩ PySem.F.entry_list_index (PySem.F.args_list_index_2 _ _) (SeqAt.list_indexAt p aH.toArray n dd sl u e j VJ ?_ ?_ λm hm Mx=>?_) ⟨ho,λy' hy=>?_,⟨.int _,H,I.tok _,⟨_,rfl⟩,q⟩⟩
 .have:ds.length<=1000000:=hl;rw[ak,hlen] at VJ;omega
 .exact he j _ ζ (gt j VJ) (by rw[υ YD];exact dg θ hjt)
 .have Oi:m<bs.length:=by rw[bl,<-hlen,<-ak];exact hm
  refine he m _ ε (gt m hm) ?_;rw[υ Oi];have:=hjf m Mx;simpa using this
 .obtain⟨m,hm,rfl⟩:=Array.mem_iff_getElem.mp hy;obtain⟨b,v1,g1,e1,_,_,ea⟩:=Mv m _ (gt m hm);rw[he m _ b (gt m hm) e1];exact ea _ (by show X.A.units+1+20<cLine;omega)
theorem Bi {a:D}{bs:List D}(h:yI .Mq a bs=θ d):∃(xs t:List D) (j:Nat),a=.lst xs/\bs=[.tup t]/\ou 20 (.tup t) xs=θ j/\xs.length<=lim/\d=.int (j:Int):=by
 match a,bs,h with
 |.lst xs,[.tup ts],h=>
  have h:(if xs.length<=lim then (ou 20 (.tup ts) xs).map (λ(j:Nat)=>D.int (j:Int)) else η)=θ d:=h;by_cases hk:xs.length<=lim
  .rw[if_pos hk,ae] at h;obtain⟨j,h1,rfl⟩:=h;exact⟨xs,ts,j,rfl,rfl,h1,hk,rfl⟩
  .rw[if_neg hk] at h;cases h
theorem Cu {co ce:Ex}{σ:L2.St}(h:tE X.K T (.Pn .Mq co (.cons ce .nil)) σ H Q):FK X.K "list" (Bc X.K) (tE X.K T co) (tF X.K T (.cons ce .nil)) σ H Q:=by
 obtain⟨P,env,F,re,p,Mb,k⟩:=h;unfold ev at Mb;obtain⟨q,h1,Mb⟩:=Rs.Ma Mb;obtain⟨l,h2,Mb⟩:=Rs.Ma Mb;obtain⟨d,h3,Mb⟩:=Rs.Ma Mb;have h3:=cJ h3;cases Mb;obtain⟨xs,ts,j,e1,e2,hk,hl,rfl⟩:=Bi h3;refine⟨P,env,F,re,q,h1,λv H1 G s rp rt=>?_⟩;rw[e1] at rp;obtain⟨p',vs,g,rfl,rfl,a1,a2⟩:=id rp.lst_inv;refine⟨.inl ⟨rfl,vs,.inl a1⟩,P,env,F,re.same s,l,h2,λws H2 G' ar=>?_⟩;have rs:=ar.Mp;rw[e2] at rs;obtain⟨x,rfl,Pl⟩:=rs.NQ;exact⟨p',xs,.tup ts,j,x,_,_,rfl,rfl,rp.same ar.same,Pl,hk,hl,k _ H2 [] (s.trans ar.same) (.int _) bI.nil⟩
end
variable {z:Nat}
section
variable {X:Cx}
theorem zh {e:En}{a b:D}(h:pH e z a b=θ j):∃zs tz n k,e[z]? = θ (θ (.lst zs,tz))/\a=.int n/\b=.int k/\zs.length<=lim/\ou 20 (.tup [.int n,.int k]) zs=θ j:=by
 unfold pH at h;split at h
 .rename_i zs tz n k hz;split at h
  .rename_i hl;exact⟨zs,tz,n,k,hz,rfl,rfl,hl,h⟩
  .cases h
 .cases h
theorem zS {a:Ex}{D:Ends}{σ:L2.St}(h:tS X.K T (.Nl y z i a cs) D σ H):uP (FK X.K "list" (uU X.K .append) (jY X.K T y .none) (cK (FK X.K "list" (Bc X.K) (jY X.K T z .none) (cK (HK (cK (tE X.K T a) (cK (FK X.K "list" (AF X.K) (jY X.K T i .none) (tF X.K T cs)) mO))) mO)) mO)) D σ H:=by
 obtain⟨P,Z,env,F,re,hz,zp,h⟩:=h;unfold bH at h;by_cases Qx:y=i
 .rw[if_pos Qx] at h;exact h.elim
 rw[if_neg Qx] at h;cases hx:ownAt env i with
 |none=>rw[hx] at h;exact h.elim
 |some d=>
  rw[hx] at h;simp only at h;cases Nn:d.Mv η with
  |none=>rw[Nn] at h;exact h.elim
  |some xs=>
   rw[Nn] at h;obtain⟨pa,hpa,h⟩:=bM h;obtain⟨l,hl,h⟩:=bM h;cases hm:pI xs (l.map (·.1)) with
   |none=>rw[hm] at h;exact h.elim
   |some q=>
    rw[hm] at h;simp only at h;rcases um (x:=i) (p:=η) (env:=env) (d:=d) (ys:=q.2) (rs:=[]) with ⟨env',Nb⟩|Nb
    rotate_left
    .rw[Nb] at h;exact h.elim
    rw[Nb] at h;have h:post X.K P Z env F H D (match pH env' z pa.1 q.1 with
     |none=>.bad
     |some j=>match ownAt env' y with
      |none=>.bad
      |some dy=>(match dy.Mv η with
       |none=>.bad
       |some ys=>bW y η env' dy (ys ++ [.int (j:Int)]) [])):=h
    cases hj:pH env' z pa.1 q.1 with
    |none=>rw[hj] at h;exact h.elim
    |some j=>
    rw[hj] at h;simp only at h;obtain⟨zs,tz,n,k,ez,ea,eb,hzl,VP⟩:=zh hj;cases hy:ownAt env' y with
    |none=>rw[hy] at h;exact h.elim
    |some dy=>
     rw[hy] at h;simp only at h;cases Nh:dy.Mv η with
     |none=>rw[Nh] at h;exact h.elim
     |some ys=>
      rw[Nh] at h;simp only at h;have Na:=bR hx;have Q2:=bR hy;have back:∀{m:Nat}{dd:Pc.D}{t:Tg},m≠i->env'[m]? = θ (θ (dd,t))->env[m]? = θ (θ (dd,t)):=λ{m dd t} hmi Oi=>by
       unfold bW at Nb;split at Nb
       .cases Nb
       .split at Nb
        .cases Nb;rw[ο (bw hmi)] at Oi;exact (bZ Oi).1
        .cases Nb
      have RV:ownAt env y=θ dy:=by
       unfold ownAt;rw[back Qx Q2]
      have Qy:=bR RV;obtain⟨vy,Pa,_⟩:=re.val y dy .own Qy;obtain⟨py,Rw,fy⟩:=dJ re RV Pa Nh;obtain⟨v,hv,rv⟩:=re.val i d .own Na;obtain⟨p,pv,f⟩:=dJ re hx hv Nn;have U8:z≠i\/z=i:=by omega
      have Q8:∃pz,σ[z]? = θ (θ (.ref pz))/\∀H',aG H H'->∃vs,Rd H' pz (.lst vs):=by
       rcases U8 with U8|rfl
       .obtain⟨vz,Tu,rz⟩:=re.val z _ tz (back U8 ez);obtain⟨pz,vs,_,rfl,_,hrd,_⟩:=rz.lst_inv;refine⟨pz,Tu,λH' s=>?_⟩;obtain⟨pz',OA,_,e,_,Vm,_⟩:=(rz.same s).lst_inv;cases e;exact⟨OA,Vm⟩
       .cases pv;refine⟨p,hv,λH' s=>?_⟩;obtain⟨ws,_,e,_⟩:=f H' s;exact⟨ws,.inl e⟩
      obtain⟨pz,Tu,fz⟩:=Q8;refine⟨P,env,F,η,vy,py,re,rfl,Pa,Rw,λHa sa=>?_⟩;obtain⟨T5,ga,ea',_⟩:=fy Ha sa;refine⟨.inl ⟨rfl,T5,.inl (.inl ea')⟩,?_⟩;refine⟨P,env,F,η,.ref pz,pz,re.same sa,rfl,Tu,.top _,λHb sb=>?_⟩;obtain⟨vsz,Vl⟩:=fz Hb (sa.trans sb);refine⟨.inl ⟨rfl,vsz,.inl Vl⟩,?_⟩;refine⟨P,env,F,(re.same sa).same sb,pa,hpa,λva Hc Gc sc Rm _=>?_⟩;rw[ea] at Rm;obtain⟨rfl,_⟩:=Rm.int_inv;have X0:=(sa.trans sb).trans sc;refine⟨P,env,F,η,v,p,re.same X0,rfl,hv,by cases pv;exact .top _,λH1 Uv=>?_⟩;have s1:=X0.trans Uv;obtain⟨Ra,g1,e1,_⟩:=f H1 s1;refine⟨.inl ⟨rfl,Ra,.inl (.inl e1)⟩,P,env,F,re.same s1,l,hl,λvs H2 G ar=>?_⟩;have s2:=s1.trans ar.same;obtain⟨ws,Gx,a1,a2,a3,a4,a5,a6,fs⟩:=f H2 s2;refine⟨p,ws,xs,l.map (·.1),Gx,G,q,rfl,a1,a2,ar.Mp,hm,a6,a5,λw us Gy eR rs sub nd=>?_⟩;rw[eb] at eR;obtain⟨rfl,_⟩:=eR.int_inv;have key:=iP (K:=X.K) (P:=P) (Z:=Z) (D:=⟨λσ' H'=>σ'=σ->∃F',After X.K P Z env F H env' σ' H' F',λ_ _=>True,λ_ _=>True,λ_ _=>True⟩) (N:=[]) (us:=us) re hz zp s2 hx hv a3 (λR hR QZ=>⟨bc,λ_ h=>(nomatch h),λ_ h=>(nomatch h)⟩) (λhN P6=>by
       obtain⟨G',b1,b2,b3⟩:=fs q.2 us Gy rs nd (λz=>a6 (sub p z)) λa ha=>.inl (sub a ha)
       exact⟨G',b1,b2,λa ha=>.inl ((b3 a ha).elim id λz=>a4 a (sub a z))⟩) (by rw[Nb];exact λσ' H' F' af _=>⟨F',af⟩)
      obtain⟨F',af⟩:=key rfl;refine⟨(show (2:Nat)<=sizeLine by decide),λpt Yt=>?_⟩;obtain⟨n1,n2⟩:=Gh (K:=X.K) (G0:=[]) (ds:=[.int n,.int k]) (G:=[]) (.cons (G:=[]) (.int n) (.cons (G:=[]) (.int k) .nil)) (λa ha=>nomatch ha) Yt;have sm:=aG.new (o:=.tup [V.int n,V.int k]) Yt;have MA:=af.trans (After.same af.re af.z sm);obtain⟨vz,RY,rz⟩:=MA.re.val z _ tz ez;rw[Tu] at RY;cases RY;refine⟨pz,zs,.tup [.int n,.int k],j,.ref pt,_,_,rfl,rfl,rz,n1,VP,hzl,?_⟩;obtain⟨Rv,Ql,QM⟩:=dJ MA.re hy Pa Nh;obtain⟨T6,SV,c1,c2,c3,c4,c5,c6,SD⟩:=QM _ (aG.refl _);have Wv:Rv=py:=by cases Rw;cases Ql;rfl
      subst Wv;have h':=post.trans MA h;refine⟨Rv,T6,ys,[.int (j:Int)],SV,[] ++ [],ys ++ [.int (j:Int)],rfl,c1,c2,.cons (.int _) .nil,rfl,mC h',c6,λz=>(nomatch z),c5,λOB SU w' Uy Qh UP=>?_⟩;refine iP (N:=[]) MA.re MA.z zp (aG.refl _) hy Pa c3 (λR hR QZ=>⟨bc,λ_ h=>(nomatch h),λ_ h=>(nomatch h)⟩) (λhN P6=>?_) h';have NM:∀a∈SU,a∈SV:=λa ha=>(Qh a ha).elim id λz=>(nomatch z.2)
      obtain⟨G',b1,b2,b3⟩:=SD (ys ++ [.int (j:Int)]) OB SU Uy (UP (λ_ _ z=>nomatch z) (.inl bc)) (λz=>c6 (NM _ z)) λa ha=>.inl (NM a ha)
      exact⟨G',b1,b2,λa ha=>.inl ((b3 a ha).elim id λz=>c4 a (NM a z))⟩
end
section
variable {X:Cx}{T:Tb}
end
structure Sc where
 N:List Str
 sc:Scope
 fns:List Str
 Ae:List Str
 eQ:List Str
noncomputable def idxOf:List Str->Str->Option Nat
 |[],_=>η
 |y::r,x=>if y=x then θ 0 else (idxOf r x).map (· + 1)
theorem bK:∀{l:List Str}{x:Str}{i:Nat},idxOf l x=θ i->l[i]? = θ x
 |y::r,x,i,h=>by
  simp only[idxOf] at h;by_cases e:y=x
  .rw[if_pos e] at h;cases h;rw[e];rfl
  .rw[if_neg e,ae] at h;obtain⟨j,hj,rfl⟩:=h;simpa using bK hj
noncomputable def dP (sc:Scope)(x:Str):Option NameKind:=sc.names.lookup x
noncomputable def qb (sc:Scope)(x:Str):Bool:=match dP sc x with
 |some .local=>ζ
 |some .cell=>ζ
 |some .free=>ζ
 |_=>ε
noncomputable def kZ (sc:Scope)(x:Str):Bool:=match dP sc x with
 |some .local=>ζ
 |some .cell=>ζ
 |_=>ε
noncomputable def vn (sc:Scope)(x:Str):Bool:=match dP sc x with
 |some .globalImplicit=>ζ
 |_=>ε
noncomputable def eM (x:Str):Bool:=!(x==("__debug__" : Str)) && !(x==("__classdict__" : Str)) && !(x==("__name__" : Str))
noncomputable def notStar:Expr->Bool
 |.Starred _ _=>ε
 |_=>ζ
noncomputable def jD:Expr->Bool
 |.Set _ _ _=>ε
 |_=>ζ
noncomputable def kg:Expr->Bool
 |.Slice _ _ _ _=>ε
 |_=>ζ
noncomputable def iA:Expr->Bool
 |.ListComp _ _ _ _=>ζ
 |.SetComp _ _ _ _=>ζ
 |.DictComp _ _ _ _ _=>ζ
 |_=>ε
noncomputable def cT (f:Expr->Option Ex):List Expr->Option kE
 |[]=>θ .nil
 |e::es=>if notStar e then (f e).bind λc=>(cT f es).map λcs=>.cons c cs else η
noncomputable def Jr (f:Expr->Option Ex)(op:BoolOp):List Expr->Option Ex
 |[]=>η
 |[a]=>f a
 |a::r=>(f a).bind λc=>(Jr f op r).map λd=>match op with
  |.And=>.and c d
  |.Or=>.or c d
noncomputable def oz (S:Sc):List Expr->Option (List Nat)
 |[]=>θ []
 |.Name x _::r=>if kZ S.sc x then (idxOf S.N x).bind λi=>(oz S r).map λis=>i::is else η
 |_::_=>η
noncomputable def yO (S:Sc):Expr->Option md
 |.Name x _=>if kZ S.sc x then (idxOf S.N x).map .nm else η
 |.Tuple es _ _=>(oz S es).map .tp
 |_=>η
noncomputable def Bt (f:Expr->Option Ex):Option Expr->Option nP
 |none=>θ .none
 |some e=>(f e).map .some
noncomputable def kL (S:Sc)(x:Str):Bool:=vn S.sc x&&S.eQ.contains x
noncomputable def isTup:Expr->Bool
 |.Tuple _ _ _=>ζ
 |_=>ε
noncomputable def Ky (S:Sc)(f:Expr->Option Ex)(tp:Bool):Expr->Option qc
 |.Call (.Name x p) es [] pos=>if x = "range" then (if kL S "range" then (match cT f es with
   |some (.cons a .nil)=>θ (.Mo a)
   |some (.cons a (.cons b .nil))=>θ (.OF a b)
   |_=>η) else η) else if x = "enumerate" then (if kL S "enumerate" && tp then (match es with
   |[e]=>if notStar e then (f e).map .enum else η
   |_=>η) else η) else if x = "reversed" then η else if x = "zip" then (if kL S "zip" && tp then (match es with
   |[e,g]=>if notStar e&&notStar g then (f e).bind λc=>(f g).map λd=>.zip c d else η
   |_=>η) else η) else (f (.Call (.Name x p) es [] pos)).map .seq
 |e=>if jD e then (f e).map .seq else η
noncomputable def bF (sc:Scope):List Str:=(sc.names.filter λp=>(p.2 == .local || p.2 == .cell)&&p.1 != (".0" : Str)).map (·.1)
noncomputable def bG (sc:Scope):List Str:=(sc.names.filter λp=>p.2 == .free).map (·.1)
noncomputable def l7:List (Option Nat)->Option (List Nat)
 |[]=>θ []
 |some i::r=>(l7 r).map (i :: ·)
 |none::_=>η
noncomputable def mo (S:Sc)(sc:Scope):Bool :=
 sc.kind == .function&&sc.names.all (λp=>p.2 != .cell || dP sc p.1==θ .cell)&&sc.names.all (λp=>p.2 != .local || dP sc p.1==θ .local)&&sc.names.all (λp=>p.2 != .free || (dP sc p.1==θ .free&&(dP S.sc p.1==θ .cell || dP S.sc p.1==θ .free))) &&
 decide (bF sc++bG sc).Nodup
noncomputable def zG (own:Nat):md->Bool
 |.nm i=>decide (i<own)
 |.tp is=>is.all λi=>decide (i<own)
noncomputable def KI (x:Str):Option El:=if x = "len" then θ .len else if x = "all" then θ .all else if x = "list" then θ .list else if x = "int" then θ .int else if x = "sum" then θ .sum else if x = "sorted" then θ .sorted else η
noncomputable def HY (t:Str):Option String:=if t = "int" then θ "int" else if t = "bool" then θ "bool" else if t = "list" then θ "list" else if t = "tuple" then θ "tuple" else η
noncomputable def Ko (S:Sc)(f:Expr->Option Ex):List Expr->Option Ex
 |[a,.Name t _]=>if vn S.sc t&&S.eQ.contains t&&eM t&&notStar a then (HY t).bind λu=>(f a).map λca=>.blt (.Q1 u) (.cons ca .nil) else η
 |_=>η
noncomputable def qt:List Expr->Bool
 |[.Call (.Name r _) [_] [] _]=>r==("reversed" : Str)
 |_=>ε
noncomputable def KJ (S:Sc)(f:Expr->Option Ex):List Expr->Option Ex
 |_=>η
noncomputable def qO:List Expr->Bool
 |[.Call (.Name r _) _ [] _]=>r==("range" : Str)
 |_=>ε
noncomputable def Fz (S:Sc)(f:Expr->Option Ex):List Expr->Option Ex
 |[.Call (.Name r _) es [] _]=>if r = "range" then (if kL S "range" then (match es with
  |[a]=>(cT f [a]).map λcs=>.blt .OJ cs
  |[a,b]=>(cT f [a,b]).map λcs=>.blt .OJ cs
  |_=>η) else η) else η
 |_=>η
noncomputable def xK (S:Sc)(f:Expr->Option Ex)(x:Str)(es:List Expr):Option Ex :=
 if eM x&&vn S.sc x then (match idxOf S.fns x with
  |some i=>(cT f es).map λcs=>.call i cs
  |none=>if S.eQ.contains x then (if x = "isinstance" then Ko S f es else if x = "list"/\qt es=ζ then KJ S f es else if x = "list"/\qO es=ζ then Fz S f es else match es with
    |[]=>η
    |e::r=>(KI x).bind λb=>(cT f (e::r)).map λcs=>.blt b cs) else η) else η
noncomputable def xD (S:Sc)(f:Expr->Option Ex)(x:Str)(a d:Expr)(k:Str):Option Ex :=
 if x = "max" then (if k = "default" then (if kL S "max" && notStar a then (f a).bind λca=>(f d).map λcd=>.blt .Od (.cons ca (.cons cd .nil)) else η) else η) else η
noncomputable def Fp (x:Str):Option TY:=if x = "index" then θ .Mq else η
noncomputable def Be:Expr->Bool
 |.Name _ _=>ζ
 |.Subscript _ _ _=>ζ
 |.Constant _ _ _=>ζ
 |.Call _ (_::_) _ _=>ζ
 |_=>ε
noncomputable def EF (f:Expr->Option Ex)(o:Expr)(name:Str)(es:List Expr)(apos cpos:No):Option Ex:=match es with
 |[e]=>if apos.endLine==cpos.line&&Be o then (Fp name).bind λm=>(f o).bind λco=>(cT f [e]).bind λcs=>(match cs with
  |.cons ce .nil=>θ (.Pn m co (.cons ce .nil))
  |_=>η)
  else η
 |_=>η
noncomputable def JG (f:Expr->Option Ex):List Expr->Option nP
 |[]=>θ .none
 |[c]=>(f c).map .some
 |_=>η
noncomputable def tQ (S:Sc)(f:Sc->Expr->Option Ex)(elt tg ul:Expr)(ifs:List Expr)(sc:Scope):Option Ex :=
 if mo S sc&&jD ul then
  (Ky S (f S) (isTup tg) ul).bind λit=>(l7 ((bG sc).map (idxOf S.N))).bind λpick=>
   (yO { S with N:=bF sc++bG sc,sc:=sc } tg).bind λt=>if zG (bF sc).length t then
    (JG (f { S with N:=bF sc++bG sc,sc:=sc }) ifs).bind λc=>(f { S with N:=bF sc++bG sc,sc:=sc } elt).map λce=>.comp (bF sc).length pick t it c ce
   else η
 else η
noncomputable def Bz (S:Sc)(x:Str):Option Ex:=if eM x then (if qb S.sc x then (idxOf S.N x).map .var else if vn S.sc x then (idxOf S.Ae x).map .NC else η) else η
noncomputable def J3:Const->Option Ex
 |.int i=>θ (.cst (.int i))
 |.bool b=>θ (.cst (.bl b))
 |.none=>θ (.cst .Mh)
 |_=>η
noncomputable def Y3 (op:UnaryOp)(o:Option Ex):Option Ex:=match op with
 |.USub=>o.map .neg
 |.Not=>o.map .not
 |_=>η
noncomputable def Al (f:Expr->Option Ex)(a:Expr)(op:Z2)(b:Expr):Option Ex:=if xz op b then η else (f a).bind λca=>(f b).map λcb=>.cmp op ca cb
noncomputable def F5 (f:Expr->Option Ex)(a:Expr)(op Th:Z2)(b c:Expr):Option Ex:=η
noncomputable def J6 (f:Expr->Option Ex)(a:Expr):List Z2->List Expr->Option Ex
 |[],_=>η
 |[op],bs=>(match bs with
  |[]=>η
  |[b]=>Al f a op b
  |_::_::_=>η)
 |op::Th::ops,bs=>(match ops with
  |[]=>(match bs with
   |[]=>η
   |[_]=>η
   |b::c::r=>(match r with
    |[]=>F5 f a op Th b c
    |_::_=>η))
  |_::_=>η)
noncomputable def Fw (f:Expr->Option Ex)(a b:Expr):Option Ex:=match b with
 |.Slice lo hi st _=>(match st with
  |none=>(f a).bind λca=>(Bt f lo).bind λl=>(Bt f hi).map λh=>.sl ca l h
  |some _=>η)
 |b=>if kg b then (f a).bind λca=>(f b).map λcb=>.ix ca cb else η
noncomputable def CI (S:Sc)(f:Expr->Option Ex)(x:Str)(es:List Expr):List Ń->Option Ex
 |[]=>xK S f x es
 |[⟨k,d,_⟩]=>(match k with
  |none=>η
  |some k=>(match es with
   |[]=>η
   |[a]=>xD S f x a d k
   |_::_::_=>η))
 |_::_::_=>η
noncomputable def Ci (S:Sc)(f:Expr->Option Ex)(g:Expr)(es:List Expr)(ks:List Ń)(cpos:No):Option Ex:=match g with
 |.Name x _=>CI S f x es ks
 |.Attribute o name apos=>(match ks with
  |[]=>EF f o name es apos cpos
  |_::_=>η)
 |_=>η
noncomputable def Y4 (S:Sc)(f:Sc->Expr->Option Ex)(elt:Expr)(sc:Scope):List Comprehension->Option Ex
 |[]=>η
 |[⟨tg,ul,ifs,as⟩]=>if as=0 then tQ S f elt tg ul ifs sc else η
 |_::_::_=>η
noncomputable def F9 (f:Expr->Option Ex)(a:Expr)(op:At)(b:Expr):Option Ex:=(f a).bind λca=>(f b).map λcb=>.bin op ca cb
noncomputable def GC (S:Sc):List (Option Expr)->List Expr->Option Ex
 |[],[]=>η
 |_,_=>η
noncomputable def cE:Nat->Sc->Expr->Option Ex
 |0,_,_=>η
 |n+1,S,e=>match e with
  |.Name x _=>Bz S x
  |.Constant c _ _=>J3 c
  |.BinOp a op b _=>F9 (cE n S) a op b
  |.UnaryOp op a _=>Y3 op (cE n S a)
  |.BoolOp op es _=>Jr (cE n S) op es
  |.Compare a ops bs _=>J6 (cE n S) a ops bs
  |.IfExp c a b _=>(cE n S c).bind λcc=>(cE n S a).bind λca=>(cE n S b).map λcb=>.ite cc ca cb
  |.List es _=>(cT (cE n S) es).map .lst
  |.Tuple es _ _=>(cT (cE n S) es).map .tup
  |.Subscript a b _=>Fw (cE n S) a b
  |.Call g es ks pos=>Ci S (cE n S) g es ks pos
  |.ListComp elt gens sc _=>Y4 S (cE n) elt sc gens
  |.Dict ks vs _=>GC S ks vs
  |_=>η
structure Ctx (X:Cx)(S:Sc)(T:Tb):Prop where
 N:X.N=S.N
 nd:S.N.Nodup
 Qe:∀x,qb S.sc x=ζ->yj X.env.scope x
 loc:∀x,kZ S.sc x=ζ->Loc X.env.scope x/\(X.fn x=ζ\/X.env.scope.names.lookup x=θ .local)
 gl:∀x,vn S.sc x=ζ->Gl X x
 cel:∀x,(dP S.sc x=θ .cell\/dP S.sc x=θ .free)->(X.env.kindOf x=θ .cell\/X.env.kindOf x=θ .free)
 units:X.A.units+40<cLine/\vX X.w X.K
 calm:X.calm=ζ
 fns:∀i x,idxOf S.fns x=θ i->∃f fd ps k,nN X.prog X.w X.K X.mg X.base tU k f fd ps (Dr X.K ps.length (T.cl i))/\gQ k X.A/\X.mg x=θ (.ref f)/\kt X.K (.ref f)=ζ/\Binds X.K fd ps []/\∀ds r,T.cl i ds=.ok r->ds.length=ps.length
 Ae:∀i x,idxOf S.Ae x=θ i->∃v u,X.mg x=θ u/\RelV v u/\∀H,Rep X.K H (T.gl i) v []
 eQ:∀x,S.eQ.contains x=ζ->X.mg x=η
theorem aN (h:notStar e=ζ):Ι (e::es) env=(ε,eval e env)::Ι es env:=by
 cases e<;>first|rfl | (cases h)
theorem sZ (h:jD e=ζ)(x:Value):Do e env x=pure x:=by
 cases e<;>first|rfl | (cases h)
theorem uM (h:kg e=ζ):nW e:=by
 intro o i;cases e<;>first|rfl | (cases h)
variable {f:Expr->Option Ex}
theorem aT (h:cT f (e::es)=θ cs):notStar e=ζ/\∃c d,f e=θ c/\cT f es=θ d/\cs=.cons c d:=by
 unfold cT at h;by_cases hs:notStar e=ζ
 .rw[if_pos hs] at h;rw[ah] at h;obtain⟨c,h1,h2⟩:=h;rw[ae] at h2;obtain⟨d,h2,rfl⟩:=h2;exact⟨hs,c,d,h1,h2,rfl⟩
 .rw[if_neg hs] at h;cases h
theorem cW:∀{es:List Expr}{cs:kE},cT f es=θ cs->(Pi pos (Ι es env)).any (·.1)=ε
 |[],cs,_=>rfl
 |e::es,cs,h=>by
  obtain⟨hs,c,d,_,h2,_⟩:=aT h;rw[aN hs];show (ε || (Pi pos (Ι es env)).any (·.1))=ε;rw[cW h2];rfl
theorem dF (h:eM x=ζ):(x==("__debug__" : Str))=ε/\(x==("__classdict__" : Str))=ε/\x≠"__name__":=by
 unfold eM at h;rw[ai,ai] at h;obtain⟨⟨h1,h2⟩,h3⟩:=h;refine⟨by simpa using h1,by simpa using h2,λe=>?_⟩;subst e;simp at h3
theorem GV {c a b:Expr}{cc cb:Ex}(hc:PT X c (qF X.K T cc))(ha:PT X a (qF X.K T ca))(hb:PT X b (qF X.K T cb)):PT X (.IfExp c a b pos) (qF X.K T (.ite cc ca cb)):=by
 intro pins s σ H Q I h;obtain⟨P,env,F,re,p,bb,Mb,ht,k⟩:=h;unfold ev at Mb;obtain⟨q,h1,Mb⟩:=Rs.Ma Mb;obtain⟨kb,h2,Mb⟩:=Rs.Ma Mb;refine isTrue_IfExp (cI (hc pins s σ H (λd H'=>d=kb/\aG H H') I ⟨P,env,F,re,q,kb,h1,cJ h2,λH' s=>⟨rfl,s⟩⟩) λd s1 ⟨H1,I1,e,s⟩=>?_);subst e;cases d with
 |true=>exact ha pins s1 σ H1 Q I1 ⟨P,env,F,re.same s,p,bb,Mb,ht,λH' s'=>k H' (s.trans s')⟩
 |false=>exact hb pins s1 σ H1 Q I1 ⟨P,env,F,re.same s,p,bb,Mb,ht,λH' s'=>k H' (s.trans s')⟩
theorem Cm {a:Ex}{env:En}{p}(Mb:iL T (.Mo a) env=.ok p):p.2=[]/\∃l,aR T (.cons a .nil) env=.ok l/\((∃j,l.map (·.1)=[.int j]/\mK j=ζ/\p.1=dZ 0 1 j.toNat)\/(∃i j,l.map (·.1)=[.int i,.int j]/\mK i=ζ/\mK j=ζ/\p.1=dZ i 1 (j-i).toNat)):=by
 unfold iL at Mb;obtain⟨q,h1,Mb⟩:=Rs.Ma Mb;split at Mb
 .rename_i j hj;split at Mb
  .rename_i ho;cases Mb;exact⟨rfl,[q],by unfold aR;rw[h1];unfold aR;rfl,.inl ⟨j,by simp[hj],ho,rfl⟩⟩
  .cases Mb
 .cases Mb
theorem Ce {a b:Ex}{env:En}{p}(Mb:iL T (.OF a b) env=.ok p):p.2=[]/\∃l,aR T (.cons a (.cons b .nil)) env=.ok l/\((∃j,l.map (·.1)=[.int j]/\mK j=ζ/\p.1=dZ 0 1 j.toNat)\/(∃i j,l.map (·.1)=[.int i,.int j]/\mK i=ζ/\mK j=ζ/\p.1=dZ i 1 (j-i).toNat)):=by
 unfold iL at Mb;obtain⟨q,h1,Mb⟩:=Rs.Ma Mb;obtain⟨r,h2,Mb⟩:=Rs.Ma Mb;split at Mb
 .rename_i i j hi hj;split at Mb
  .rename_i ho;cases Mb;rw[ai] at ho;exact⟨rfl,[q,r],by unfold aR;rw[h1];unfold aR;rw[h2];unfold aR;rfl,.inr ⟨i,j,by simp[hi,hj],ho.1,ho.2,rfl⟩⟩
  .cases Mb
 .cases Mb
def SE (X:Cx)(T:Tb)(e:Expr)(c:Ex):Prop:=PE X e (tE X.K T c)/\PT X e (qF X.K T c)
section
variable {X:Cx}{S:Sc}{T:Tb}
theorem bY (hf:∀e c,f e=θ c->SE X T e c):∀{es:List Expr}{cs:kE},cT f es=θ cs->PA X es (tF X.K T cs)
 |[],cs,h=>by cases h;exact vx
 |e::es,cs,h=>by
  obtain⟨hs,c,d,h1,h2,rfl⟩:=aT h;exact nQ (hf e c h1).1 (bY hf h2) (aN hs)
theorem FY {op:BoolOp}{pos:No}(hf:∀e c,f e=θ c->SE X T e c):∀{es:List Expr}{c:Ex},Jr f op es=θ c->PE X (.BoolOp op es pos) (tE X.K T c)/\PW X (.BoolOp op es pos) (qF X.K T c)
 |[],c,h=>by cases h
 |[a],c,h=>by
  have h:f a=θ c:=h;have ⟨h1,h2⟩:=hf a c h;refine⟨rJ h1,?_⟩;cases op with
  |And=>exact D9 h2
  |Or=>exact G7 h2
 |a::b::r,c,h=>by
  unfold Jr at h;rw[ah] at h;obtain⟨ca,h1,h2⟩:=h;rw[ae] at h2;obtain⟨cb,h2,h3⟩:=h2;subst h3;have ⟨ia,ta⟩:=hf a ca h1;have ⟨ib,tb⟩:=FY (pos:=pos) hf h2;cases op with
  |And=>exact⟨Iz ia ib,HC ta tb⟩
  |Or=>exact⟨Kp ia ib,K8 ta tb⟩
theorem tJ (C:Ctx X S T):∀{es:List Expr}{is:List Nat},oz S es=θ is->Kh X es (jP is)/\(FS es X.env).length=is.length/\(FS es X.env).findIdx? (·.1)=η:=by
 intro es
 induction es with
 |nil=>intro is h;cases h;exact⟨Di,rfl,rfl⟩
 |cons e es ih=>
  intro is h;cases e with
  |Name x p=>
   unfold oz at h;by_cases hl:kZ S.sc x=ζ
   .rw[if_pos hl,ah] at h;obtain⟨i,h1,h2⟩:=h;rw[ae] at h2;obtain⟨js,h2,rfl⟩:=h2;obtain⟨a,b,c⟩:=ih h2;have hN:=C.nd;rw[<-C.N] at hN;have hi:=bK h1;rw[<-C.N] at hi;refine⟨CO (xm hN hi (C.loc x hl).1 (C.loc x hl).2) a,?_,?_⟩
    .show (FS es X.env).length+1=js.length+1;rw[b]
    .show List.findIdx? (·.1) ((ε,_)::FS es X.env)=η;rw[List.findIdx?_cons];simp[c]
   .rw[if_neg hl] at h;cases h
  |_=>cases h
theorem wF (C:Ctx X S T)(h:yO S e=θ t):PG X e (tD X.K t):=by
 cases e with
 |Name x p=>
  unfold yO at h;dsimp only at h;by_cases hl:kZ S.sc x=ζ
  .rw[if_pos hl,ae] at h;obtain⟨i,h1,rfl⟩:=h;have hN:=C.nd;rw[<-C.N] at hN;have hi:=bK h1;rw[<-C.N] at hi;exact xm hN hi (C.loc x hl).1 (C.loc x hl).2
  .rw[if_neg hl] at h;cases h
 |Tuple es a b=>
  unfold yO at h;rw[ae] at h;obtain⟨is,h1,rfl⟩:=h;obtain⟨a,b,c⟩:=tJ C h1;exact Ax C.calm a b c
 |_=>cases h
theorem Cb (C:Ctx X S T)(hf:∀e c,f e=θ c->SE X T e c)(h:Ky S f (isTup tg) e=θ it):PI X tg e (tI X.K T it):=by
 unfold Ky at h;split at h
 .rename_i x p es pos;by_cases hx:x = "range"
  .subst hx;rw[if_pos rfl] at h;by_cases hg:kL S "range" = ζ
   .rw[if_pos hg] at h;have NK:vn S.sc "range" = ζ/\S.eQ.contains "range" = ζ:=by
     unfold kL at hg
     rwa [ai] at hg
    cases hc:cT f es with
    |none=>rw[hc] at h;cases h
    |some cs=>
     rw[hc] at h;cases es with
     |nil=>cases hc;cases h
     |cons e0 rest=>
      obtain⟨hs,c0,d0,_,hd,rfl⟩:=aT hc;refine GN rfl (C.gl _ NK.1) (C.eQ _ NK.2) (bY hf hc) (aN hs) (cW hd) ?_;intro env p Mb;cases d0 with
      |nil=>
       cases h;exact Cm Mb
      |cons c1 d1=>
       cases d1 with
       |nil=>
        cases h;exact Ce Mb
       |cons c2 d2=>
        cases h
   .rw[if_neg hg] at h;cases h
  rw[if_neg hx] at h;by_cases hx:x = "enumerate"
  .subst hx;rw[if_pos rfl] at h;by_cases hg:(kL S "enumerate" && isTup tg)=ζ
   .rw[if_pos hg] at h;rw[ai] at hg;have NK:vn S.sc "enumerate" = ζ/\S.eQ.contains "enumerate" = ζ:=by
     have:=hg.1;unfold kL at this
     rwa [ai] at this
    cases tg with
    |Tuple elts x1 tp=>
     split at h
     .rename_i e0;by_cases hs:notStar e0=ζ
      .rw[if_pos hs,ae] at h;obtain⟨c,h1,rfl⟩:=h;exact D3 (C.gl _ NK.1) (C.eQ _ NK.2) (nQ (hf _ _ h1).1 vx (aN hs)) (aN hs)
      .rw[if_neg hs] at h;cases h
     .cases h
    |_=>cases hg.2
   .rw[if_neg hg] at h;cases h
  rw[if_neg hx] at h;by_cases hx:x = "reversed"
  .subst hx;rw[if_pos rfl] at h;cases h
  rw[if_neg hx] at h;by_cases hx:x = "zip"
  .subst hx;rw[if_pos rfl] at h;by_cases hg:(kL S "zip" && isTup tg)=ζ
   .rw[if_pos hg] at h;rw[ai] at hg;have NK:vn S.sc "zip" = ζ/\S.eQ.contains "zip" = ζ:=by
     have:=hg.1;unfold kL at this
     rwa [ai] at this
    cases tg with
    |Tuple elts x1 tp=>
     split at h
     .rename_i e0 e1;by_cases hs:(notStar e0&&notStar e1)=ζ
      .rw[if_pos hs,ah] at h;obtain⟨c,h1,h⟩:=h;rw[ae] at h;obtain⟨d,h2,rfl⟩:=h;rw[ai] at hs;exact Iw (C.gl _ NK.1) (C.eQ _ NK.2) (nQ (hf _ _ h1).1 (nQ (hf _ _ h2).1 vx (aN hs.2)) (aN hs.1)) (aN hs.1) (by rw[aN hs.2];rfl)
      .rw[if_neg hs] at h;cases h
     .cases h
    |_=>cases hg.2
   .rw[if_neg hg] at h;cases h
  .rw[if_neg hx,ae] at h;obtain⟨c,h1,rfl⟩:=h;exact AE (hf _ _ h1).1
 .by_cases hn:jD e=ζ
  .rw[if_pos hn,ae] at h;obtain⟨c,h1,rfl⟩:=h;exact AE (hf _ _ h1).1
  .rw[if_neg hn] at h;cases h
end
theorem jM:∀{names:List (Str×NameKind)}{x:Str}{k:NameKind},names.lookup x=θ k->k≠.free ->
  (names.map λ(n,k)=>if (k==Χ&&env.scope.kind == .function&&env.kindOf n==θ .cell) then (n,zn) else (n,k)).lookup x=θ k
 |[],_,_,h,_=>by simp at h
 | (n,k0)::r,x,k,h,hk=>by
  rw[bo];by_cases hc:(k0==Χ&&env.scope.kind == .function&&env.kindOf n==θ .cell)=ζ
  .simp only[hc,if_true,de] at h ⊢;cases hx:x==n with
   |true=>
    rw[hx] at h;cases h;rw[ai,ai] at hc;exact absurd (by simpa using hc.1.1) hk
   |false=>rw[hx] at h;exact jM h hk
  .have hc:(k0==Χ&&env.scope.kind == .function&&env.kindOf n==θ .cell)=ε:=by simpa using hc
   simp only[hc,c9,if_false,de] at h ⊢;cases hx:x==n with
   |true=>rw[hx] at h;exact h
   |false=>rw[hx] at h;exact jM h hk
theorem nj:∀{l:List (Option Nat)}{p:List Nat},l7 l=θ p->l=p.map θ
 |[],p,h=>by cases h;rfl
 |some i::r,p,h=>by
  simp only[l7,ae] at h;obtain⟨q,h1,rfl⟩:=h;rw[nj h1];rfl
 |none::r,p,h=>by cases h
theorem pL {S:Sc}{sc:Scope}(h:mo S sc=ζ):sc.kind=.function/\(∀y∈sc.names,y.2=.cell->sc.names.lookup y.1=θ .cell)/\(∀y∈sc.names,y.2=.local->sc.names.lookup y.1=θ .local) /\
  (∀y∈sc.names,y.2=.free->sc.names.lookup y.1=θ .free/\(dP S.sc y.1=θ .cell\/dP S.sc y.1=θ .free))/\(bF sc++bG sc).Nodup:=by
 unfold mo at h;simp only[ai,bz,gm,beq_iff_eq,bne_iff_ne,decide_eq_true_eq,dP] at h;obtain⟨⟨⟨⟨h1,h2⟩,h3⟩,h4⟩,h5⟩:=h;refine⟨h1,λy hy e=>?_,λy hy e=>?_,λy hy e=>?_,h5⟩
 .rcases h2 y hy with h|h
  .exact absurd e h
  .exact h
 .rcases h3 y hy with h|h
  .exact absurd e h
  .exact h
 .rcases h4 y hy with h|h
  .exact absurd e h
  .exact h
section
variable {X:Cx}{S:Sc}{T:Tb}{sc:Scope}{pick:List Nat}
theorem wQ (C:Ctx X S T)(h:mo S sc=ζ)(hp:l7 ((bG sc).map (idxOf S.N))=θ pick):eW X sc (bF sc++bG sc) (fC (bF sc).length pick):=by
 obtain⟨h1,h2,h3,h4,h5⟩:=pL h;have hp:=nj hp;have hlen:(bG sc).length=pick.length:=by simpa using congrArg AC hp
 refine⟨h1,h2,h3,by simp[fC,hlen],λx hx=>C.cel x (h4 _ (cj hx) rfl).2,λx hx=>(h4 _ hx rfl).1,λi j x hi hx=>?_⟩;unfold fC at hi;by_cases Mx:i<(bF sc).length
 .rw[Ν (by simpa using Mx),bv] at hi;split at hi<;>cases hi
 .have hle:=jb Mx;rw[Τ (by simpa using hle),bu,<-hp,π] at hi;rw[Τ hle] at hx;rw[hx] at hi;simp only[cq,cz] at hi;have hm:=Κ hx;unfold bG at hm;rw[Δ] at hm;obtain⟨p,Sd,rfl⟩:=hm;rw[ie] at Sd;have hf:p.2=.free:=by simpa using Sd.2
  refine⟨(h4 p Sd.1 hf).1,?_⟩;rw[C.N];exact bK hi
theorem yL (C:Ctx X S T)(h:mo S sc=ζ)(Ca:Addr)(s0:μ)(H0:Hp)(ex:List Addr):Ctx (inner X sc (bF sc++bG sc) Ca s0 H0 ex) { S with N:=bF sc++bG sc,sc:=sc } T:=by
 obtain⟨h1,h2,h3,h4,h5⟩:=pL h;have keep:∀x k,sc.names.lookup x=θ k->k≠.free->(b? sc X.env).names.lookup x=θ k:=λx k e hk=>jM e hk
 refine⟨rfl,h5,λx hx=>?_,λx hx=>?_,λx hx=>?_,λx hx=>?_,C.units,C.calm,C.fns,C.Ae,C.eQ⟩
 .unfold qb dP at hx;dsimp only at hx;split at hx
  .rename_i e;exact .inl (keep _ _ e (by simp))
  .rename_i e;exact .inr (.inl (keep _ _ e (by simp)))
  .rename_i e;exact .inr (gN e)
  .cases hx
 .unfold kZ dP at hx;dsimp only at hx;split at hx
  .rename_i e;exact⟨.inl (keep _ _ e (by simp)),.inr (keep _ _ e (by simp))⟩
  .rename_i e;exact⟨.inr (keep _ _ e (by simp)),.inl (by show (sc.names.lookup x==θ zn)=ζ;rw[e];rfl)⟩
  .cases hx
 .unfold vn dP at hx;dsimp only at hx;split at hx
  .rename_i e;exact keep _ _ e (by simp)
  .cases hx
 .unfold dP at hx;rcases hx with hx|hx
  .exact .inl (keep _ _ hx (by simp))
  .exact gN hx
end
theorem AG (n d:Nat)(o:Option Int):lZ n d o=HT.lZ n d o:=by cases o<;>rfl
section
variable {X:Cx}{T:Tb}{a:Expr}{ca:Ex}{lo hi:Option Expr}{cl ch:nP}{pos p2:No}
noncomputable def tO (K:Frag)(T:Tb)(c:nP):TO:=λσ H Q=>∃P env F,RE K P env σ H F/\∃o,nt T c env=.ok o/\∀H',aG H H'->Q o H'
theorem CK {X:Cx}{e:Option Expr}{t t':TO}(h:PO X e t)(k:∀σ H Q,t' σ H Q->t σ H Q):PO X e t':=λpins s σ H Q I q=>h pins s σ H Q I (k σ H Q q)
theorem ER:PO X η (tO X.K T .none):=CK EA λσ H Q ⟨P,env,F,re,o,h,k⟩=>by
 unfold nt at h;cases h;exact k H (aG.refl _)
theorem Eu (h:PE X a (tE X.K T ca)):PO X (θ a) (tO X.K T (.some ca)):=CK (Er h) λσ H Q ⟨P,env,F,re,o,h,k⟩=>by
 unfold nt at h;obtain⟨p,h1,h2⟩:=Rs.Ma h;refine⟨P,env,F,re,p,h1,λv H' G s rp rt=>?_⟩;split at h2
 .rename_i i hi;cases h2;rw[hi] at rp;obtain⟨rfl,rfl⟩:=rp.int_inv;exact⟨i,rfl,k H' s⟩
 .cases h2
theorem Lu (ha:PE X a (tE X.K T ca))(hl:PO X lo (tO X.K T cl))(hh:PO X hi (tO X.K T ch)):PE X (.Subscript a (.Slice lo hi η p2) pos) (tE X.K T (.sl ca cl ch)):=by
 refine bJ (BP Et ha hl hh) λσ H Q ⟨P,env,F,re,p,Mb,k⟩=>?_
 unfold ev at Mb;obtain⟨q,h1,Mb⟩:=Rs.Ma Mb;obtain⟨ol,h2,Mb⟩:=Rs.Ma Mb;obtain⟨oh,h3,Mb⟩:=Rs.Ma Mb;obtain⟨d,h4,Mb⟩:=Rs.Ma Mb;have h4:=cJ h4;cases Mb;refine⟨P,env,F,re,q,h1,λv H1 G s rp rt=>⟨P,env,F,re.same s,ol,h2,λH2 s2=>⟨P,env,F,re.same (s.trans s2),oh,h3,λH3 s3=>?_⟩⟩⟩;have Ut:=s2.trans s3;cases hq:q.1 with
 |lst xs=>
  rw[hq] at rp h4;cases h4;obtain⟨pa,vs,G',rfl,rfl,hr,rs⟩:=Rep.lst_inv (rp.same Ut);refine⟨pa,vs,rfl,.inl hr,λpn hn=>?_⟩;obtain⟨G1,r1,u1⟩:=rs.drop (lZ xs.length 0 ol);obtain⟨G2,r2,u2⟩:=r1.take (lZ xs.length xs.length oh-lZ xs.length 0 ol);have hc:zq vs ol oh=(vs.drop (lZ xs.length 0 ol)).take (lZ xs.length xs.length oh-lZ xs.length 0 ol):=by
   unfold zq;rw[rs.len,AG,AG]
  rw[hc];have sub:∀a∈G2,a∈pa::G':=λa ha=>aa _ (u1.mem (u2.mem ha))
  obtain⟨Ov,nv⟩:=k7 (G0:=pa::G') r2 sub hn;have ar:Args X.K env F H H3 [q] [.ref pa] ((pa::G') ++ []):=.cons s (by rw[hq];exact rp) rt (.nil Ut);rw[aw] at ar;exact k _ _ _ ((s.trans Ut).trans nv.same) Ov (bI.new ar nv (by simp[aO]))
 |_=>rw[hq] at h4;cases h4
end
variable {id:String}{name:Str}{o:Expr}{r:List Expr}
section
variable {X:Cx}{S:Sc}{T:Tb}
theorem Cj (hf:∀e c,f e=θ c->SE X T e c){o:Option Expr}{c:nP}(h:Bt f o=θ c):PO X o (tO X.K T c):=by
 cases o with
 |none=>cases h;exact ER
 |some e=>
  have h:(f e).map nP.some=θ c:=h;rw[ae] at h;obtain⟨d,h1,rfl⟩:=h;exact Eu (hf e d h1).1
theorem D5 {x:String}{b:El}(hf:∀e c,f e=θ c->SE X T e c)(hr:gY X (.builtin id) (rL X.K b))(hv:FM x=θ (.builtin id))(hg:Gl X x)(hm:X.mg x=η)(hn:eM x=ζ)(ha:cT f (e::r)=θ cs) :
  PE X (.Call (.Name x p) (e::r) [] pos) (tE X.K T (.blt b cs)):=by
 obtain⟨hs,_,_,_,h2,_⟩:=aT ha;obtain⟨n1,n2,n3⟩:=dF hn;exact bJ (gH hr hg hm hv (bY hf ha) n3 n1 (aN hs) (cW h2)) λσ H Q h=>uz h
theorem KG {x:String}{b:El}(hf:∀e c,f e=θ c->SE X T e c)(hr:gY X (.type id) (rL X.K b))(hv:FM x=θ (.type id))(hg:Gl X x)(hm:X.mg x=η)(hn:eM x=ζ)(ha:cT f (e::r)=θ cs) :
  PE X (.Call (.Name x p) (e::r) [] pos) (tE X.K T (.blt b cs)):=by
 obtain⟨hs,_,_,_,h2,_⟩:=aT ha;obtain⟨n1,n2,n3⟩:=dF hn;exact bJ (zK hr hg hm hv (bY hf ha) n3 n1 (aN hs) (cW h2)) λσ H Q h=>uz h
theorem Aw {t:Str}{u:String}(h:HY t=θ u):u∈kj/\FM t=θ (.type u):=by
 unfold HY at h;split at h
 .rename_i e;cases h;subst e;exact⟨by decide,boot_int⟩
 split at h
 .rename_i e;cases h;subst e;exact⟨by decide,boot_bool⟩
 split at h
 .rename_i e;cases h;subst e;exact⟨by decide,g_⟩
 split at h
 .rename_i e;cases h;subst e;exact⟨by decide,boot_tuple⟩
 cases h
theorem Dy (C:Ctx X S T)(hf:∀e c,f e=θ c->SE X T e c){p pos:No}(h:xK S f x es=θ c):PE X (.Call (.Name x p) es [] pos) (tE X.K T c):=by
 unfold xK at h;by_cases hk:(eM x&&vn S.sc x)=ζ
 .rw[if_pos hk] at h;rw[ai] at hk;obtain⟨hn,hg⟩:=hk;have hg:=C.gl x hg;obtain⟨n1,n2,n3⟩:=dF hn;cases hi:idxOf S.fns x with
  |some i=>
   rw[hi] at h;dsimp only at h;rw[ae] at h;obtain⟨cs,h1,rfl⟩:=h;obtain⟨fa,fd,ps,k,FO,hr,hm,YC,hb,hl⟩:=C.fns i x hi;cases es with
   |nil=>
    cases h1;refine bJ (BC FO hr hg hm YC hb .nil FG n1) λσ H Q h=>?_
    have:=qG hl h;obtain⟨P,env,F,re,l,Mb,k⟩:=this;unfold aR at Mb;cases Mb;exact k [] H [] (.nil (aG.refl _))
   |cons e r=>
    obtain⟨hs,_,_,_,h2,_⟩:=aT h1;exact bJ (DB FO hr hg hm YC hb .nil FG (bY hf h1) n1 (aN hs) (cW h2)) λσ H Q h=>qG hl h
  |none=>
   rw[hi] at h;dsimp only at h;by_cases hb:S.eQ.contains x=ζ
   .rw[if_pos hb] at h;have hm:=C.eQ x hb;by_cases hx:x = "isinstance"
    .rw[if_pos hx] at h;subst hx;unfold Ko at h;split at h
     .rename_i a t pt;by_cases hc:(vn S.sc t&&S.eQ.contains t&&eM t&&notStar a)=ζ
      .rw[if_pos hc] at h;simp only[ai] at hc;obtain⟨⟨⟨c1,c2⟩,c3⟩,c4⟩:=hc;rw[ah] at h;obtain⟨u,h1,h2⟩:=h;rw[ae] at h2;obtain⟨ca,h2,rfl⟩:=h2;obtain⟨hu,Sv⟩:=Aw h1;obtain⟨m1,m2,m3⟩:=dF c3;refine bJ (gH mM hg hm Os (aM (hf a ca h2).1 (aM (nR (v:=.ty u) (C.gl t c1) (C.eQ t c2) Sv rfl m3 m1) cY rfl) (aN c4)) n3 n1 (aN c4) rfl) λσ H Q h=>Cr hu h
      .rw[if_neg hc] at h;cases h
     .cases h
    .rw[if_neg hx] at h;by_cases VF:x = "list"/\qt es=ζ
     .rw[if_pos VF] at h;obtain⟨rfl,_⟩:=VF;cases h
     rw[if_neg VF] at h;by_cases VG:x = "list"/\qO es=ζ
     .rw[if_pos VG] at h;obtain⟨rfl,_⟩:=VG;unfold Fz at h;split at h
      .rename_i r pr Pe pp zz;by_cases Vi:r = "range"
       .rw[if_pos Vi] at h;subst Vi;by_cases Ow:kL S "range" = ζ
        .rw[if_pos Ow] at h;have NK:vn S.sc "range" = ζ/\S.eQ.contains "range" = ζ:=by
          have:=Ow;unfold kL at this
          rwa [ai] at this
         split at h
         .rename_i a;rw[ae] at h;obtain⟨cs,ha,rfl⟩:=h;obtain⟨n1,c1,d1,_,hd,_⟩:=aT ha;exact xB C.calm hg hm (C.gl _ NK.1) (C.eQ _ NK.2) (bY hf ha) ⟨_,_,rfl,aN n1,rfl⟩
         .rename_i a b;rw[ae] at h;obtain⟨cs,ha,rfl⟩:=h;obtain⟨n1,c1,d1,_,hd,_⟩:=aT ha;obtain⟨n2,_,_,_,_,_⟩:=aT hd;exact xB C.calm hg hm (C.gl _ NK.1) (C.eQ _ NK.2) (bY hf ha) ⟨_,_,rfl,aN n1,by rw[aN n2];rfl⟩
         .cases h
        .rw[if_neg Ow] at h;cases h
       .rw[if_neg Vi] at h;cases h
      .cases h
     rw[if_neg VG] at h;cases es with
     |nil=>cases h
     |cons e r=>
      dsimp only at h;rw[ah] at h;obtain⟨b,h1,h2⟩:=h;rw[ae] at h2;obtain⟨cs,h2,rfl⟩:=h2;unfold KI at h1;split at h1
      .rename_i e;cases h1;subst e;exact D5 hf zo boot_len hg hm hn h2
      split at h1
      .rename_i e;cases h1;subst e;exact D5 hf (yF C.calm) boot_all hg hm hn h2
      split at h1
      .rename_i e;cases h1;subst e;exact KG hf (vC C.calm) g_ hg hm hn h2
      split at h1
      .rename_i e;cases h1;subst e;exact KG hf yY boot_int hg hm hn h2
      split at h1
      .rename_i e;cases h1;subst e;exact D5 hf (z0 C.calm) boot_sum hg hm hn h2
      split at h1
      .rename_i e;cases h1;subst e;exact D5 hf rW boot_sorted hg hm hn h2
      cases h1
   .rw[if_neg hb] at h;cases h
 .rw[if_neg hk] at h;cases h
theorem Ge (hu:X.A.units+40<cLine)(hf:∀e c,f e=θ c->SE X T e c){apos cpos:No}(h:EF f o name es apos cpos=θ c):PE X (.Call (.Attribute o name apos) es [] cpos) (tE X.K T c):=by
 unfold EF at h;split at h
 .rename_i e;by_cases hk:(apos.endLine==cpos.line&&Be o)=ζ
  .rw[if_pos hk] at h;rw[ai] at hk;have hb:ú o name X.env (eval o X.env)=eval o X.env:=by
    obtain⟨_,hk⟩:=hk;cases o<;>first|rfl | (cases hk;done)|skip
    rename_i g as ks cp;cases as with
    |nil=>cases hk
    |cons a r=>cases g<;>rfl
   rw[ah] at h;obtain⟨m,hm,h⟩:=h;rw[ah] at h;obtain⟨co,ho,h⟩:=h;rw[ah] at h;obtain⟨cs,hc,h⟩:=h;obtain⟨ns,ce,d,he,hd,rfl⟩:=aT hc;cases hd;cases h;unfold Fp at hm;split at hm
   .rename_i e;cases hm;subst e;refine bJ (mV cw jt PySem.F.type_list_index (uu hu) (hf o co ho).1 (bY hf hc) hb ?_ hk.1 (aN ns) rfl) λσ H Q h=>Cu h
    rw[aN ns];rfl
   cases hm
  .rw[if_neg hk] at h;cases h
 .cases h
theorem xf (h:zG own t=ζ)(i:Nat)(hi:t=.nm i\/∃is,t=.tp is/\i∈is):(fC own pick)[i]? = θ η:=by
 have:i<own:=by
  rcases hi with rfl|⟨is,rfl,hm⟩
  .simpa[zG] using h
  .simp only[zG,bz,decide_eq_true_eq] at h;exact h i hm
 unfold fC;rw[Ν (by simpa using this),bv,if_pos this]
structure qZ (X:Cx)(S:Sc)(T:Tb)(elt tg ul:Expr)(ifs:List Expr)(sc:Scope)(c:Ex):Prop where
 ex:∃pick t it ci ce,c=.comp (bF sc).length pick t it ci ce/\eW X sc (bF sc++bG sc) (fC (bF sc).length pick)/\PI X tg ul (tI X.K T it) /\
  (∀C s0 H0 ex,PG (inner X sc (bF sc++bG sc) C s0 H0 ex) tg (tD X.K t)/\Jh (inner X sc (bF sc++bG sc) C s0 H0 ex) ifs (Hs X.K T ci)/\PE (inner X sc (bF sc++bG sc) C s0 H0 ex) elt (tE X.K T ce)) /\
  zG (bF sc).length t=ζ/\jD ul=ζ
variable {sc:Scope}
theorem om (C:Ctx X S T){f:Sc->Expr->Option Ex}(hf:∀{X:Cx}{S:Sc},Ctx X S T->∀e c,f S e=θ c->SE X T e c)(h:tQ S f elt tg ul ifs sc=θ c):qZ X S T elt tg ul ifs sc c:=by
 unfold tQ at h;by_cases hk:(mo S sc&&jD ul)=ζ
 .rw[if_pos hk] at h;rw[ai] at hk;rw[ah] at h;obtain⟨it,h1,h⟩:=h;rw[ah] at h;obtain⟨pick,h2,h⟩:=h;rw[ah] at h;obtain⟨t,h3,h⟩:=h;by_cases ho:zG (bF sc).length t=ζ
  .rw[if_pos ho] at h;rw[ah] at h;obtain⟨ci,h4,h⟩:=h;rw[ae] at h;obtain⟨ce,h5,rfl⟩:=h;refine⟨pick,t,it,ci,ce,rfl,wQ C hk.1 h2,Cb C (hf C) h1,λCa s0 H0 ex=>?_,ho,hk.2⟩;have C':=yL C hk.1 Ca s0 H0 ex;refine⟨wF C' h3,?_,(hf C' elt ce h5).1⟩;unfold JG at h4;split at h4
   .cases h4;exact C5
   .rw[ae] at h4;obtain⟨cc,h4,rfl⟩:=h4;exact D2 (hf C' _ cc h4).2
   .cases h4
  .rw[if_neg ho] at h;cases h
 .rw[if_neg hk] at h;cases h
theorem EG (C:Ctx X S T){pos:No}(h:qZ X S T elt tg ul ifs sc c):PE X (.ListComp elt [⟨tg,ul,ifs,0⟩] sc pos) (tE X.K T c):=by
 obtain⟨pick,t,it,ci,ce,rfl,h1,h2,h3,h4,h5⟩:=h;exact bJ (D7 h1 C.calm h2 h3 (qE (xf h4)) (sZ h5)) λσ H Q h=>qr h
theorem Es (C:Ctx X S T)(hf:∀e c,f e=θ c->SE X T e c){kn:Str}{a d:Expr}{p kp pos:No}(h:xD S f x a d kn=θ c):PE X (.Call (.Name x p) [a] [⟨θ kn,d,kp⟩] pos) (tE X.K T c):=by
 unfold xD at h;split at h
 .rename_i e1;subst e1;split at h
  .rename_i e2;subst e2;by_cases Ow:(kL S "max" && notStar a)=ζ
   .rw[if_pos Ow,ah] at h;obtain⟨ca,h1,h⟩:=h;rw[ae] at h;obtain⟨cd,h2,rfl⟩:=h;rw[ai] at Ow;have NK:vn S.sc "max" = ζ/\S.eQ.contains "max" = ζ:=by
     have:=Ow.1;unfold kL at this
     rwa [ai] at this
    exact EI C.calm (C.gl _ NK.1) (C.eQ _ NK.2) (hf a ca h1).1 (hf d cd h2).1 (aN Ow.2)
   .rw[if_neg Ow] at h;cases h
  .cases h
 .cases h
theorem cQ:∀(n:Nat) {X:Cx}{S:Sc}{T:Tb}(C:Ctx X S T) (e:Expr) (c:Ex),cE n S e=θ c->SE X T e c:=by
 intro n
 induction n with
 |zero=>intro X S T C e c h;cases h
 |succ n ih=>
  intro X S T C e c h;have MR:=ih C;cases e with
  |Name x p=>
   have h:Bz S x=θ c:=h;unfold Bz at h;by_cases hn:eM x=ζ
   .rw[if_pos hn] at h;obtain⟨n1,n2,n3⟩:=dF hn;by_cases hv:qb S.sc x=ζ
    .rw[if_pos hv,ae] at h;obtain⟨i,h1,rfl⟩:=h;have hi:=bK h1;rw[<-C.N] at hi;have:=Hi (T:=T) (pos:=p) hi (C.Qe x hv) n1 n2;exact⟨this,dE this λ_=>rfl⟩
    .rw[if_neg hv] at h;by_cases hg:vn S.sc x=ζ
     .rw[if_pos hg,ae] at h;obtain⟨i,h1,rfl⟩:=h;obtain⟨v,u,g1,g2,g3⟩:=C.Ae i x h1;have:=G9 (fD (pos:=p) (C.gl x hg) g1 g2 n1) g3;exact⟨this,dE this λ_=>rfl⟩
     .rw[if_neg hg] at h;cases h
   .rw[if_neg hn] at h;cases h
  |Constant k x1 p=>
   have h:J3 k=θ c:=h;cases k with
   |int i=>cases h;exact⟨mq (T:=T) wN λH=>Rep.int _,dE (mq (T:=T) wN λH=>Rep.int _) λ_=>rfl⟩
   |bool b=>cases h;exact⟨mq (T:=T) FQ λH=>Rep.bl _,dE (mq (T:=T) FQ λH=>Rep.bl _) λ_=>rfl⟩
   |none=>cases h;exact⟨mq (T:=T) AD λH=>Rep.Mh,dE (mq (T:=T) AD λH=>Rep.Mh) λ_=>rfl⟩
   |_=>cases h
  |BinOp a op b p=>
   have h:F9 (cE n S) a op b=θ c:=h;unfold F9 at h;rw[ah] at h;obtain⟨ca,h1,h⟩:=h;rw[ae] at h;obtain⟨cb,h2,rfl⟩:=h;have:=IT (pos:=p) (DK op) (MR a ca h1).1 (MR b cb h2).1;exact⟨this,dE this λ_=>rfl⟩
  |UnaryOp op a p=>
   have h:Y3 op (cE n S a)=θ c:=h;cases op with
   |USub=>
    have h:(cE n S a).map .neg=θ c:=h;rw[ae] at h;obtain⟨ca,h1,rfl⟩:=h;have:=He (pos:=p) (MR a ca h1).1;exact⟨this,dE this λ_=>rfl⟩
   |Not=>
    have h:(cE n S a).map .not=θ c:=h;rw[ae] at h;obtain⟨ca,h1,rfl⟩:=h;exact⟨Gf (MR a ca h1).1,IW (MR a ca h1).2⟩
   |_=>cases h
  |BoolOp op es p=>
   have h:Jr (cE n S) op es=θ c:=h;have ⟨h1,h2⟩:=FY (pos:=p) MR h;exact⟨h1,h2.pt⟩
  |Compare a ops bs p=>
   have h:J6 (cE n S) a ops bs=θ c:=h;cases ops with
   |nil=>cases h
   |cons op r=>cases r with
    |nil=>cases bs with
     |nil=>cases h
     |cons b r2=>cases r2 with
      |cons _ _=>cases h
      |nil=>
       have h:Al (cE n S) a op b=θ c:=h;unfold Al at h;by_cases hb:xz op b=ζ
       .rw[if_pos hb] at h;cases h
       .rw[if_neg hb] at h;have hb:xz op b=ε:=by simpa using hb
        rw[ah] at h;obtain⟨ca,h1,h⟩:=h;rw[ae] at h;obtain⟨cb,h2,rfl⟩:=h;exact⟨GD (xb op C.units) (MR a ca h1).1 (MR b cb h2).1 hb,Gp C.units (MR a ca h1).1 (MR b cb h2).1 hb⟩
    |cons Th r2=>cases r2 with
     |cons _ _=>cases bs<;>cases h
     |nil=>cases bs with
      |nil=>cases h
      |cons b r3=>cases r3 with
       |nil=>cases h
       |cons d r4=>cases r4 with
        |cons _ _=>cases h
        |nil=>
         have h:F5 (cE n S) a op Th b d=θ c:=h;cases h
  |IfExp t a b p=>
   have h:((cE n S t).bind λcc=>(cE n S a).bind λca=>(cE n S b).map λcb=>.ite cc ca cb)=θ c:=h;rw[ah] at h;obtain⟨cc,h1,h⟩:=h;rw[ah] at h;obtain⟨ca,h2,h⟩:=h;rw[ae] at h;obtain⟨cb,h3,rfl⟩:=h;exact⟨Jd (MR t cc h1).2 (MR a ca h2).1 (MR b cb h3).1,GV (MR t cc h1).2 (MR a ca h2).2 (MR b cb h3).2⟩
  |List es p=>
   have h:(cT (cE n S) es).map .lst=θ c:=h;rw[ae] at h;obtain⟨cs,h1,rfl⟩:=h;have:=Hl (pos:=p) (bY MR h1);exact⟨this,dE this λ_=>rfl⟩
  |Dict ks vs p=>
   have h:GC S ks vs=θ c:=h;unfold GC at h;split at h
   .cases h
   .cases h
  |Tuple es x1 p=>
   have h:(cT (cE n S) es).map .tup=θ c:=h;rw[ae] at h;obtain⟨cs,h1,rfl⟩:=h;have:=Ig (pos:=p) (x1:=x1) (bY MR h1);exact⟨this,dE this λ_=>rfl⟩
  |Subscript a b p=>
   have h:Fw (cE n S) a b=θ c:=h;by_cases hb:kg b=ζ
   .have h:(if kg b then (cE n S a).bind λca=>(cE n S b).map λcb=>.ix ca cb else η)=θ c:=by
     cases b<;>first|exact h|cases hb
    rw[if_pos hb] at h;rw[ah] at h;obtain⟨ca,h1,h⟩:=h;rw[ae] at h;obtain⟨cb,h2,rfl⟩:=h;have:=KY (pos:=p) (Dt C.units.2) (MR a ca h1).1 (MR b cb h2).1 (uM hb);exact⟨this,dE this λ_=>rfl⟩
   .cases b with
    |Slice lo hi st p2=>
     cases st with
     |none=>
      have h:((cE n S a).bind λca=>(Bt (cE n S) lo).bind λl=>(Bt (cE n S) hi).map λh=>.sl ca l h)=θ c:=h;rw[ah] at h;obtain⟨ca,h1,h⟩:=h;rw[ah] at h;obtain⟨cl,h2,h⟩:=h;rw[ae] at h;obtain⟨ch,h3,rfl⟩:=h;have:=Lu (pos:=p) (p2:=p2) (MR a ca h1).1 (Cj MR h2) (Cj MR h3);exact⟨this,dE this λ_=>rfl⟩
     |some _=>cases h
    |_=>exact absurd rfl hb
  |Call g es ks pos=>
   have h:Ci S (cE n S) g es ks pos=θ c:=h;cases g with
   |Name x p=>
    have h:CI S (cE n S) x es ks=θ c:=h;cases ks with
    |nil=>
     have h:xK S (cE n S) x es=θ c:=h;have:=Dy (p:=p) (pos:=pos) C MR h;exact⟨this,dE this λ_=>rfl⟩
    |cons k r=>cases r with
     |cons _ _=>obtain⟨_,_,_⟩:=k;cases h
     |nil=>
      obtain⟨k,d,kp⟩:=k;cases k with
      |none=>cases h
      |some kn=>cases es with
       |nil=>cases h
       |cons a r2=>cases r2 with
        |cons _ _=>cases h
        |nil=>
         have h:xD S (cE n S) x a d kn=θ c:=h;have:=Es (p:=p) (kp:=kp) (pos:=pos) C MR h;exact⟨this,dE this λ_=>rfl⟩
   |Attribute o name apos=>
    cases ks with
    |nil=>
     have h:EF (cE n S) o name es apos pos=θ c:=h;have:=Ge (apos:=apos) (cpos:=pos) C.units.1 MR h;exact⟨this,dE this λ_=>rfl⟩
    |cons _ _=>cases h
   |_=>cases h
  |ListComp elt gens sc pos=>
   have h:Y4 S (cE n) elt sc gens=θ c:=h;cases gens with
   |nil=>cases h
   |cons g r=>cases r with
    |cons _ _=>obtain⟨_,_,_,_⟩:=g;cases h
    |nil=>
     obtain⟨tg,ul,ifs,as⟩:=g;have h:(if as=0 then tQ S (cE n) elt tg ul ifs sc else η)=θ c:=h;by_cases ha:as=0
     .rw[if_pos ha] at h;subst ha;have:=EG (pos:=pos) C (om C (λC'=>ih C') h);exact⟨this,dE this λ_=>rfl⟩
     .rw[if_neg ha] at h;cases h
  |_=>cases h
end
section
variable {X:Cx}{T:Tb}
end
structure nE (X:Cx)(S:Sc)(T:Tb):Prop where
 c:Ctx X S T
 sc:X.env.scope=S.sc
 fn:S.sc.kind=.function
 own:ZN (Ζ X.prog X.w) X.A X.env X.xe
 nx:∀e s,X.xe e s->False
noncomputable def Fe (m:Str):Option vo:=if m = "append" then θ .append else if m = "extend" then θ .extend else η
noncomputable def Bx (m:Str):Option vo:=η
noncomputable def jS (n:Nat)(S:Sc):Expr->Option (Nat×nP)
 |.Name x _=>if eM x&&qb S.sc x then (idxOf S.N x).map λi=>(i,.none) else η
 |.Subscript (.Name x _) e _=>if eM x&&qb S.sc x&&kg e then (idxOf S.N x).bind λi=>(cE n S e).map λc=>(i,.some c) else η
 |_=>η
noncomputable def CV:Expr->Bool
 |.Constant (.bool ζ) _ _=>ζ
 |.Tuple _ _ _=>ζ
 |.IfExp _ _ _ _=>ζ
 |_=>ε
noncomputable def mvB (x:Str):Expr->Bool
 |.Name y _=>x==("_law_best" : Str)&&y==("_law_way" : Str)
 |.List (.Name y _::_) _=>x==("_law_rows" : Str)&&y==("_law_turned" : Str)
 |_=>ε
noncomputable def Gq (n:Nat)(S:Sc)(tg e:Expr):Option St:=match tg with
 |.Name x px=>match e with
  |.ListComp elt [⟨S8,ul,ifs,0⟩] sc p=>if kZ S.sc x then (idxOf S.N x).bind λi=>(cE n S (.ListComp elt [⟨S8,ul,ifs,0⟩] sc p)).map λc=>.asg (.nm i) c ε else η
  |e=>if iA e then η else if kZ S.sc x then (idxOf S.N x).bind λi=>(cE n S e).map λc=>.asg (.nm i) c (mvB x e) else η
 |.Tuple es k p=>if iA e || isTup e then η else (oz S es).bind λis=>(cE n S e).map λc=>.asg (.tp is) c ε
 |.Subscript o ix p=>if CV e then η else if iA e || !kg ix then η else (jS n S o).bind λq=>(cE n S ix).bind λci=>(cE n S e).map λc=>.MD q.1 q.2 ci c
 |_=>η
noncomputable def EO (n:Nat)(S:Sc)(o:Expr)(name:Str)(es:List Expr)(apos cpos:No):Option St :=
 if apos.endLine==cpos.line then (if es.isEmpty then (Bx name).bind λm=>(jS n S o).map λq=>.mut q.1 q.2 m .nil else (Fe name).bind λm=>(jS n S o).bind λq=>match es with
  |[a]=>(cT (cE n S) [a]).map λcs=>.mut q.1 q.2 m cs
  |[a,b]=>(cT (cE n S) [a,b]).map λcs=>.mut q.1 q.2 m cs
  |_=>η)
 else η
noncomputable def IY:(es:List Expr)->Option {q:(Expr×Str×No)×Expr×No // es=[.Call (.Attribute q.1.1 q.1.2.1 q.1.2.2) [q.2.1] [] q.2.2]}
 |[.Call (.Attribute o2 OI O3) [a] [] OZ]=>θ ⟨((o2,OI,O3),a,OZ),rfl⟩
 |_=>η
noncomputable def uZ (n:Nat)(S:Sc)(o:Expr)(name:Str)(es:List Expr)(apos cpos:No):Option St:=(IY es).bind λq=>if name = "append"/\q.1.1.2.1 = "pop"/\(apos.endLine==cpos.line)=ζ/\(q.1.1.2.2.endLine==q.1.2.2.line)=ζ then (match jS n S o,jS n S q.1.1.1 with
  |some (y,.none),θ (x,.none)=>(cT (cE n S) [q.1.2.1]).map λcs=>.Ot y x cs
  |_,_=>η) else η
noncomputable def HJ:(es:List Expr)->Option {q:(Expr×Str×No×No)×(Expr×Nat×No)×Expr×Str×No×Expr×No // es=[.Call (.Attribute q.1.1 q.1.2.1 q.1.2.2.1) [.Tuple [q.2.1.1,.Call (.Attribute q.2.2.1 q.2.2.2.1 q.2.2.2.2.1) [q.2.2.2.2.2.1] [] q.2.2.2.2.2.2] q.2.1.2.1 q.2.1.2.2] [] q.1.2.2.2]}
 |[.Call (.Attribute o3 RK SR) [.Tuple [a,.Call (.Attribute o2 OI O3) [b] [] OZ] x1 Qg] [] SH]=>θ ⟨((o3,RK,SR,SH),(a,x1,Qg),o2,OI,O3,b,OZ),rfl⟩
 |_=>η
noncomputable def vg (n:Nat)(S:Sc)(o:Expr)(name:Str)(es:List Expr)(apos cpos:No):Option St:=(HJ es).bind λq=>if (name = "append"/\q.1.2.2.2.1 = "pop"/\q.1.1.2.1 = "index")/\(apos.endLine==cpos.line)=ζ/\(q.1.2.2.2.2.1.endLine==q.1.2.2.2.2.2.2.line)=ζ/\(q.1.1.2.2.1.endLine==q.1.1.2.2.2.line)=ζ/\notStar q.1.2.1.1=ζ then (match jS n S o,jS n S q.1.2.2.1,jS n S q.1.1.1 with
  |some (y,.none),θ (x,.none),θ (z,.none)=>(cE n S q.1.2.1.1).bind λca=>(cT (cE n S) [q.1.2.2.2.2.2.1]).map λcs=>.Nl y z x ca cs
  |_,_,_=>η) else η
noncomputable def Il (n:Nat)(S:Sc)(tg:Expr)(op:At)(e:Expr):Option St:=match tg with
 |.Name x _=>if kZ S.sc x&&(op == .Add || op == .Sub) then (idxOf S.N x).bind λi=>(cE n S e).map λc=>.aug i op c else η
 |_=>η
noncomputable def Jg (n:Nat)(S:Sc)(e:Expr):Option St:=if iA e then η else (cE n S e).map .expr
noncomputable def KU (n:Nat)(S:Sc):Expr->Option St
 |.Constant k x1 p=>(match k with
  |.str _=>θ .pass
  |k=>Jg n S (.Constant k x1 p))
 |.Call g es ks cpos=>(match g with
  |.Attribute o name apos=>(match ks with
   |[]=>(match uZ n S o name es apos cpos with
    |some c=>θ c
    |none=>(match vg n S o name es apos cpos with
     |some c=>θ c
     |none=>EO n S o name es apos cpos))
   |k::ks=>Jg n S (.Call (.Attribute o name apos) es (k::ks) cpos))
  |g=>Jg n S (.Call g es ks cpos))
 |e=>Jg n S e
noncomputable def Y5 (n:Nat)(S:Sc)(e:Expr):List Expr->Option St
 |[]=>η
 |[tg]=>Gq n S tg e
 |_::_::_=>η
noncomputable def WX (n:Nat)(S:Sc):Option Expr->Option St
 |none=>θ .Qk
 |some e=>(cE n S e).map .ret
noncomputable def WY (n:Nat)(S:Sc)(tg ul:Expr)(ob:Option aU):List Stmt->Option St
 |[]=>if jD ul then (yO S tg).bind λt=>ob.bind λcb=>(Ky S (cE n S) (isTup tg) ul).map λit=>.Mg t it cb else η
 |_::_=>η
noncomputable def WW (n:Nat)(S:Sc)(e:Expr)(ob:Option aU):List Stmt->Option St
 |[]=>(cE n S e).bind λc=>ob.map λcb=>.Qd c cb
 |_::_=>η
mutual
noncomputable def cS:Nat->Sc->Stmt->Option St
 |0,_,_=>η
 |n+1,S,st=>match st with
  |.Assign S7 e _=>Y5 n S e S7
  |.AugAssign tg op e _=>Il n S tg op e
  |.Expr e _=>KU n S e
  |.Return o _=>WX n S o
  |.If e a b _=>(cE n S e).bind λc=>(u7 n S a).bind λca=>(u7 n S b).map λcb=>.ite c ca cb
  |.For tg ul b oe _=>WY n S tg ul (u7 n S b) oe
  |.While e b oe _=>WW n S e (u7 n S b) oe
  |.Try b hs oe fb _=>match hs,oe,fb with
   |[_],[],[]=>(u7 n S b).map λcb=>.ite (.cst (.bl ζ)) cb .nil
   |_,_,_=>η
  |.Pass _=>θ .pass
  |.Raise _ _ _=>θ (.expr (.neg (.cst .Mh)))
  |.Continue _=>θ .cnt
  |_=>η
noncomputable def u7:Nat->Sc->List Stmt->Option aU
 |0,_,_=>η
 |_+1,_,[]=>θ .nil
 |n+1,S,s::r=>(cS n S s).bind λc=>(u7 n S r).map λd=>.cons c d
end
theorem si {t:Option Expr}{l:Nat}(h:iA e=ε):ZC e t l env=pure ε:=by
 cases e<;>first|rfl | (cases h)
theorem qU {t:Expr}{l:Nat}(h:iA e=ε):ĭ [t] e l env=pure ε:=si h
variable {apos cpos:No}{q:Nat×nP}
section
variable {X:Cx}{S:Sc}{T:Tb}
theorem D4:PS X st (tS X.K T (.expr (.neg (.cst .Mh)))):=by
 intro pins s σ H D I h;obtain⟨P,Z,env,F,re,hz,zp,h⟩:=h;exact h.elim
theorem fP (C:Ctx X S T)(h:jS n S o=θ q):PE X o (jY X.K T q.1 q.2):=by
 unfold jS at h;split at h
 .rename_i x p;by_cases hk:(eM x&&qb S.sc x)=ζ
  .rw[if_pos hk,ae] at h;rw[ai] at hk;obtain⟨i,h1,rfl⟩:=h;obtain⟨n1,n2,n3⟩:=dF hk.1;have hi:=bK h1;rw[<-C.N] at hi;exact GP hi (C.Qe x hk.2) n1 n2
  .rw[if_neg hk] at h;cases h
 .rename_i x p e pos;by_cases hk:(eM x&&qb S.sc x&&kg e)=ζ
  .rw[if_pos hk,ah] at h;rw[ai,ai] at hk;obtain⟨i,h1,h⟩:=h;rw[ae] at h;obtain⟨c,h2,rfl⟩:=h;obtain⟨n1,n2,n3⟩:=dF hk.1.1;have hi:=bK h1;rw[<-C.N] at hi;exact DE hi (C.Qe x hk.1.2) n1 n2 (cQ n C e c h2).1 (uM hk.2)
  .rw[if_neg hk] at h;cases h
 .cases h
theorem dS (h:jS n S o=θ q):ú o name env (eval o env)=eval o env:=by
 unfold jS at h;split at h
 .rfl
 .rfl
 .cases h
theorem HB (C:nE X S T){c:St}(h:Gq n S tg e=θ c):PS X (.Assign [tg] e pos) (tS X.K T c):=by
 have hN:=C.c.nd;rw[<-C.c.N] at hN;unfold Gq at h;split at h
 .rename_i x px;split at h
  .rename_i elt S8 ul ifs sc p;by_cases hl:kZ S.sc x=ζ
   .rw[if_pos hl,ah] at h;obtain⟨i,h1,h⟩:=h;rw[ae] at h;obtain⟨ce,h2,rfl⟩:=h;have hi:=bK h1;rw[<-C.c.N] at hi;have Q3:ZC (.ListComp elt [⟨S8,ul,ifs,0⟩] sc p) (θ (.Name x px)) pos.line X.env=pure (X.env.blockKind == .function&&X.env.kindOf x==θ .local&&px.line==p.line && !(sc.names.any λ(n,k)=>n==x&&(k == .local || k == .cell))):=rfl;cases hb:(X.env.blockKind == .function&&X.env.kindOf x==θ .local&&px.line==p.line && !(sc.names.any λ(n,k)=>n==x&&(k == .local || k == .cell))) with
    |false=>
     rw[hb] at Q3;exact AB hN hi (C.c.loc x hl).1 (cQ n C.c _ _ h2).1 Q3 (C.c.loc x hl).2
    |true=>
     rw[hb] at Q3;cases n with
     |zero=>cases h2
     |succ n=>
      have h2:tQ S (cE n) elt S8 ul ifs sc=θ ce:=h2;obtain⟨pick,t,it,ci,ce',rfl,g1,g2,g3,g4,g5⟩:=om C.c (λC'=>cQ n C') h2;refine bT (wj g1 C.c.calm g2 g3 (qE (xf g4)) (sZ g5) hN hi (C.c.loc x hl).1 (C.c.loc x hl).2 Q3) λD σ H h=>?_
      obtain⟨P,Z,env,F,re,hz,zp,h⟩:=h;unfold bH at h;obtain⟨p,hp,h⟩:=bM h;exact qr ⟨P,env,F,re,p,hp,λv H' G s rp rt=>oK re hz zp s rp rt h⟩
   .rw[if_neg hl] at h;cases h
  .by_cases hc:iA e=ζ
   .rw[if_pos hc] at h;cases h
   .rw[if_neg hc] at h;by_cases hl:kZ S.sc x=ζ
    .rw[if_pos hl,ah] at h;obtain⟨i,h1,h⟩:=h;rw[ae] at h;obtain⟨ce,h2,rfl⟩:=h;have hi:=bK h1;rw[<-C.c.N] at hi;exact AB hN hi (C.c.loc x hl).1 (cQ n C.c _ _ h2).1 (si (by simpa using hc)) (C.c.loc x hl).2
    .rw[if_neg hl] at h;cases h
 .rename_i es k p;by_cases hc:(iA e || isTup e)=ζ
  .rw[if_pos hc] at h;cases h
  .rw[if_neg hc,ah] at h;simp only[gm,not_or,ý] at hc;obtain⟨is,h1,h⟩:=h;rw[ae] at h;obtain⟨ce,h2,rfl⟩:=h;obtain⟨a1,a2,a3⟩:=tJ C.c h1;refine DP (Ax C.c.calm a1 a2 a3) (cQ n C.c _ _ h2).1 (qU hc.1) ?_ rfl;obtain⟨_,hc⟩:=hc;cases e<;>first|rfl | (cases hc)
 .rename_i o ix p;by_cases ht:CV e=ζ
  .rw[if_pos ht] at h;cases h
  rw[if_neg ht] at h;by_cases hc:(iA e || !kg ix)=ζ
  .rw[if_pos hc] at h;cases h
  .rw[if_neg hc,ah] at h;simp only[gm,not_or,ý,Bool.not_eq_false'] at hc;obtain⟨q,h1,h⟩:=h;rw[ah] at h;obtain⟨ci,h2,h⟩:=h;rw[ae] at h;obtain⟨ce,h3,rfl⟩:=h;refine bT (BQ (cQ n C.c _ _ h3).1 (Hy (fP C.c h1) (cQ n C.c _ _ h2).1 set_list ?_) (qU hc.1) ?_ rfl) λD σ H h=>CG h
   .intro v;obtain⟨_,hc⟩:=hc;cases ix<;>first|rfl | (cases hc)
   .cases e<;>rfl
 .cases h
theorem HH (C:nE X S T){c:St}(h:EO n S o name es apos cpos=θ c):PS X (.Expr (.Call (.Attribute o name apos) es [] cpos) pos) (tS X.K T c):=by
 unfold EO at h;by_cases hl:(apos.endLine==cpos.line)=ζ
 .rw[if_pos hl] at h;by_cases he:es.isEmpty=ζ
  .rw[if_pos he,ah] at h;have he:es=[]:=by simpa using he
   subst he;obtain⟨m,hm,h⟩:=h;rw[ae] at h;obtain⟨q,hq,rfl⟩:=h;have slot:∃id,g? "list" name id/\Ņ (.builtin id)=pure (.type "method_descriptor")/\Ke X id (uU X.K m):=by
    unfold Bx at hm;cases hm
   obtain⟨id,s1,s2,s3⟩:=slot;exact bT (kz (HD cw s1 s2 s3 (fP C.c hq) (dS hq) hl) rfl) λD σ H h=>yW h
  rw[if_neg he,ah] at h;obtain⟨m,hm,h⟩:=h;rw[ah] at h;obtain⟨q,hq,h⟩:=h;have slot:∃id,g? "list" name id/\Ņ (.builtin id)=pure (.type "method_descriptor")/\Ke X id (uU X.K m):=by
   unfold Fe at hm;split at hm
   .rename_i e;cases hm;subst e;exact⟨_,jr,by rfl,kU⟩
   split at hm
   .rename_i e;cases hm;subst e;exact⟨_,PySem.F.slot_list_extend,by rfl,wy⟩
   cases hm
  obtain⟨id,s1,s2,s3⟩:=slot;split at h
  .rename_i a;rw[ae] at h;obtain⟨cs,ha,rfl⟩:=h;obtain⟨n1,c1,d1,_,hd,_⟩:=aT ha;refine bT (kz (mV cw s1 s2 s3 (fP C.c hq) (bY (cQ n C.c) ha) (dS hq) ?_ hl (aN n1) (cW hd)) rfl) λD σ H h=>pj h
   rw[aN n1];rfl
  .rename_i a b;rw[ae] at h;obtain⟨cs,ha,rfl⟩:=h;obtain⟨n1,c1,d1,_,hd,_⟩:=aT ha;obtain⟨n2,_,_,_,_,_⟩:=aT hd;refine bT (kz (mV cw s1 s2 s3 (fP C.c hq) (bY (cQ n C.c) ha) (dS hq) ?_ hl (aN n1) (cW hd)) rfl) λD σ H h=>pj h
   rw[aN n1,aN n2];rfl
  .cases h
 .rw[if_neg hl] at h;cases h
theorem DW (C:nE X S T){c:St}(h:uZ n S o name es apos cpos=θ c):PS X (.Expr (.Call (.Attribute o name apos) es [] cpos) pos) (tS X.K T c):=by
 unfold uZ at h;rw[ah] at h;obtain⟨⟨q,rfl⟩,_,h⟩:=h;dsimp only at h;by_cases hc:name = "append"/\q.1.2.1 = "pop"/\(apos.endLine==cpos.line)=ζ/\(q.1.2.2.endLine==q.2.2.line)=ζ
 .rw[if_pos hc] at h;obtain⟨rfl,e2,h1,h2⟩:=hc;rw[e2];split at h
  .rename_i y x hy hx;rw[ae] at h;obtain⟨cs,ha,rfl⟩:=h;obtain⟨n1,c1,d1,_,hd,_⟩:=aT ha;refine bT (kz (mV cw jr (by rfl) kU (fP C.c hy) (aM (mV cw ć (by rfl) xU (fP C.c hx) (bY (cQ n C.c) ha) (dS hx) ?_ h2 (aN n1) (cW hd)) cY) (dS hy) rfl h1 rfl rfl) rfl) λD σ H h=>zZ h
   rw[aN n1];rfl
  .cases h
 .rw[if_neg hc] at h;cases h
theorem Eb (C:nE X S T){c:St}(h:vg n S o name es apos cpos=θ c):PS X (.Expr (.Call (.Attribute o name apos) es [] cpos) pos) (tS X.K T c):=by
 unfold vg at h;rw[ah] at h;obtain⟨⟨q,rfl⟩,_,h⟩:=h;dsimp only at h;by_cases hc:(name = "append"/\q.2.2.2.1 = "pop"/\q.1.2.1 = "index")/\(apos.endLine==cpos.line)=ζ/\(q.2.2.2.2.1.endLine==q.2.2.2.2.2.2.line)=ζ/\(q.1.2.2.1.endLine==q.1.2.2.2.line)=ζ/\notStar q.2.1.1=ζ
 .rw[if_pos hc] at h;obtain⟨⟨rfl,e2,e3⟩,h1,h2,h3,h4⟩:=hc;rw[e2,e3];split at h
  .rename_i y x z hy hx hz;rw[ah] at h;obtain⟨ca,hca,h⟩:=h;rw[ae] at h;obtain⟨cs,ha,rfl⟩:=h;obtain⟨n1,c1,d1,_,hd,_⟩:=aT ha;refine bT (kz (mV cw jr (by rfl) kU (fP C.c hy) (aM (mV cw jt (by rfl) (uu C.c.units.1) (fP C.c hz) (aM (vq (aM (cQ n C.c _ _ hca).1 (aM (mV cw ć (by rfl) xU (fP C.c hx) (bY (cQ n C.c) ha) (dS hx) ?_ h2 (aN n1) (cW hd)) cY) (aN h4))) cY) (dS hz) rfl h3 rfl rfl) cY) (dS hy) rfl h1 rfl rfl) rfl) λD σ H h=>zS h
   rw[aN n1];rfl
  .cases h
 .rw[if_neg hc] at h;cases h
theorem F8 (C:nE X S T){c:St}(h:Il n S tg op e=θ c):PS X (.AugAssign tg op e pos) (tS X.K T c):=by
 have hN:=C.c.nd;rw[<-C.c.N] at hN;unfold Il at h;split at h
 .rename_i x px;by_cases hl:(kZ S.sc x&&(op == .Add || op == .Sub))=ζ
  .rw[if_pos hl,ah] at h;obtain⟨i,h1,h⟩:=h;rw[ae] at h;obtain⟨ce,h2,rfl⟩:=h;rw[ai,gm] at hl;have hi:=bK h1;rw[<-C.c.N] at hi;refine Gn hN hi (C.c.loc x hl.1).1 (cQ n C.c _ _ h2).1 (C.c.loc x hl.1).2 ?_;obtain⟨_,ho⟩:=hl;cases op<;>simp_all
  .rw[if_neg hl] at h;cases h
 .cases h
theorem ite_tt {T:Tb}{env:En}:bH T (.ite (.cst (.bl ζ)) cb .nil) env=aE T cb env:=by
 rw[bH];rfl
theorem GX {X:Cx}{T:Tb}{body:List Stmt}{hd:ExceptHandler}(nx:∀e s,X.xe e s->False)(h:hU X body (BA X.K T cb)):PS X (.Try body [hd] [] [] pos) (tS X.K T (.ite (.cst (.bl ζ)) cb .nil)):=by
 intro pins s σ H D I hw;have hw:BA X.K T cb D σ H:=by
  obtain⟨P,Z,env,F,h1,h2,h3,h4⟩:=hw;rw[ite_tt] at h4;exact⟨P,Z,env,F,h1,h2,h3,h4⟩
 refine Ù (Θ (h pins s σ H D I hw) (λf s1 h1=>?_) λe s1 h1=>?_)
 .cases f with
  |next=>exact Μ h1
  |brk=>exact h1
  |cont=>exact h1
  |ret u=>exact h1
 .exact (nx _ _ h1).elim
theorem xJ (C:nE X S T):∀(n:Nat),(∀(st:Stmt) (c:St),cS n S st=θ c->PS X st (tS X.K T c))/\∀(l:List Stmt) (c:aU),u7 n S l=θ c->hU X l (BA X.K T c):=by
 intro n
 induction n with
 |zero=>exact⟨λst c h=>(by cases h),λl c h=>(by cases h)⟩
 |succ n ih=>
  obtain⟨i1,i2⟩:=ih;refine⟨λst c h=>?_,λl c h=>?_⟩
  .cases st with
   |Assign S7 e p=>
    have h:Y5 n S e S7=θ c:=h;cases S7 with
    |nil=>cases h
    |cons tg r=>cases r with
     |cons _ _=>cases h
     |nil=>
      exact HB C h
   |AugAssign tg op e p=>exact F8 C h
   |Expr e p=>
    have h:KU n S e=θ c:=h;have plain:Jg n S e=θ c->PS X (.Expr e p) (tS X.K T c):=λh=>by
     unfold Jg at h;by_cases hc:iA e=ζ
     .rw[if_pos hc] at h;cases h
     .rw[if_neg hc,ae] at h;obtain⟨ce,h1,rfl⟩:=h;exact Em (cQ n C.c _ _ h1).1 (si (by simpa using hc))
    cases e with
    |Constant k x1 q=>cases k with
     |str s=>cases h;exact Io
     |_=>exact plain h
    |Call g es ks q=>cases g with
     |Attribute o name apos=>cases ks with
      |nil=>
       have h:(match uZ n S o name es apos q with
        |some c=>θ c
        |none=>(match vg n S o name es apos q with
         |some c=>θ c
         |none=>EO n S o name es apos q))=θ c:=h
       cases ha:uZ n S o name es apos q with
       |some c'=>rw[ha] at h;cases h;exact DW C ha
       |none=>
        rw[ha] at h;simp only at h;cases hb:vg n S o name es apos q with
        |some c'=>rw[hb] at h;cases h;exact Eb C hb
        |none=>rw[hb] at h;exact HH C h
      |cons k ks=>exact plain h
     |_=>exact plain h
    |_=>exact plain h
   |Return o p=>cases o with
    |none=>cases h;exact Dh
    |some e=>
     have h:(cE n S e).map .ret=θ c:=h;rw[ae] at h;obtain⟨ce,h1,rfl⟩:=h;exact Hu (cQ n C.c _ _ h1).1
   |If e a b p=>
    have h:((cE n S e).bind λc=>(u7 n S a).bind λca=>(u7 n S b).map λcb=>St.ite c ca cb)=θ c:=h;rw[ah] at h;obtain⟨cc,h1,h⟩:=h;rw[ah] at h;obtain⟨ca,h2,h⟩:=h;rw[ae] at h;obtain⟨cb,h3,rfl⟩:=h;exact Im (cQ n C.c _ _ h1).2 (i2 _ _ h2) (i2 _ _ h3)
   |For tg ul b oe p=>
     cases oe with
      |cons _ _=>cases h
      |nil=>
       have h:(if jD ul then (yO S tg).bind λt=>(u7 n S b).bind λcb=>(Ky S (cE n S) (isTup tg) ul).map λit=>St.Mg t it cb else η)=θ c:=h;by_cases hs:jD ul=ζ
       .rw[if_pos hs,ah] at h;obtain⟨t,h1,h⟩:=h;rw[ah] at h;obtain⟨cb,h3,h⟩:=h;rw[ae] at h;obtain⟨it,h2,rfl⟩:=h;exact HW C.own C.c.calm (Cb C.c (cQ n C.c) h2) (wF C.c h1) (i2 _ _ h3) (sZ hs)
       .rw[if_neg hs] at h;cases h
   |While e b oe p=>cases oe with
    |cons _ _=>cases h
    |nil=>
     have h:((cE n S e).bind λc=>(u7 n S b).map λcb=>St.Qd c cb)=θ c:=h;rw[ah] at h;obtain⟨cc,h1,h⟩:=h;rw[ae] at h;obtain⟨cb,h3,rfl⟩:=h;exact Hk C.own (cQ n C.c _ _ h1).2 (i2 _ _ h3)
   |Try b hs oe fb p=>cases hs with
    |nil=>cases h
    |cons hd r=>cases r with
     |cons _ _=>cases h
     |nil=>cases oe with
      |cons _ _=>cases h
      |nil=>cases fb with
       |cons _ _=>cases h
       |nil=>
        have h:(u7 n S b).map (λcb=>St.ite (.cst (.bl ζ)) cb .nil)=θ c:=h;rw[ae] at h;obtain⟨cb,h3,rfl⟩:=h;exact GX C.nx (i2 _ _ h3)
   |Pass p=>cases h;exact DM
   |Raise a b p=>cases h;exact D4
   |Continue p=>cases h;exact IJ
   |_=>cases h
  .cases l with
   |nil=>cases h;exact yo
   |cons st r=>
    unfold u7 at h;rw[ah] at h;obtain⟨cc,h1,h⟩:=h;rw[ae] at h;obtain⟨cb,h3,rfl⟩:=h;exact uO (i1 _ _ h1) (i2 _ _ h3)
end
structure Df where
 nm:Str
 st:Stmt
 ps:List Str
 N:List Str
 body:aU
structure Pg where
 N5:List Df
 Ae:List Str
 eQ:List Str
 gl:Nat->D
 fuel:Nat
noncomputable def Pg.fns (p:Pg):List Fn:=p.N5.map λd=>⟨d.ps.length,d.N.length,d.body⟩
noncomputable def Pg.run (p:Pg):Nat->Nat->List D->Rs (D×Bool):=Pc.run p.fns p.gl p.fuel
noncomputable def Pg.sc (p:Pg)(d:Df):Sc:=⟨d.N,aB d.st,p.N5.map (·.nm),p.Ae,p.eQ⟩
noncomputable def Df.Ti (p:Pg)(n:Nat)(d:Df):Bool :=
 decide ((aB d.st).kind=.function) && !(aB d.st).isCoroutine && !(aB d.st).isGenerator&&decide d.N.Nodup&&decide (d.N.take d.ps.length=d.ps)&&d.ps.all (λx=>kZ (aB d.st) x)&&(aB d.st).names.all (λy=>decide (y.2≠.free))
structure Df.Ok (p:Pg)(d:Df):Prop where
 b:∃n,u7 n (p.sc d) (aV d.st)=θ d.body
 S:bQ d.N d.ps (aB d.st)
 bd:∀(kV doc pm:Value) (an:Option Addr) (Me ct:Value) (us:List Value),us.length=d.ps.length->NE (wf d.nm d.nm (dW d.st) (aV d.st) (aB d.st) .none kV doc pm an Me ct) ⟨us,[]⟩=pure (d.ps.zip us)
theorem lY {sc:Scope}(h:kZ sc x=ζ):Loc sc x:=by
 unfold kZ dP at h;split at h
 .rename_i e;exact .inl e
 .rename_i e;exact .inr e
 .cases h
theorem tZ {sc:Scope}(h:qb sc x=ζ):yj sc x:=by
 unfold qb dP at h;split at h
 .rename_i e;exact .inl e
 .rename_i e;exact .inr (.inl e)
 .rename_i e;exact .inr (.inr e)
 .cases h
theorem xw {sc:Scope}(h:vn sc x=ζ):sc.names.lookup x=θ .globalImplicit:=by
 unfold vn dP at h;split at h
 .rename_i e;exact e
 .cases h
theorem len0 {P:List Value->Prop}(h:us.length=0)(f:P []):P us:=by
 cases us with
 |nil=>exact f
 |cons a r=>cases h
theorem Lo {P:List Value->Prop}{us:List Value}(h:us.length=1)(f:∀a,P [a]):P us:=by
 cases us with
 |nil=>cases h
 |cons a r=>exact len0 (P:=λr=>P (a::r)) (jv h) (f a)
theorem Gd {P:List Value->Prop}{us:List Value}(h:us.length=2)(f:∀a b,P [a,b]):P us:=by
 cases us with
 |nil=>cases h
 |cons a r=>exact Lo (P:=λr=>P (a::r)) (jv h) (f a)
theorem Lk {P:List Value->Prop}{us:List Value}(h:us.length=3)(f:∀a b c,P [a,b,c]):P us:=by
 cases us with
 |nil=>cases h
 |cons a r=>exact Gd (P:=λr=>P (a::r)) (jv h) (f a)
theorem Js {P:List Value->Prop}{us:List Value}(h:us.length=4)(f:∀a b c d,P [a,b,c,d]):P us:=by
 cases us with
 |nil=>cases h
 |cons a r=>exact Lk (P:=λr=>P (a::r)) (jv h) (f a)
theorem UY {P:List Value->Prop}{us:List Value}(h:us.length=5)(f:∀a b c d e,P [a,b,c,d,e]):P us:=by
 cases us with
 |nil=>cases h
 |cons a r=>exact Js (P:=λr=>P (a::r)) (jv h) (f a)
theorem Df.N0 {p:Pg}{d:Df}{n:Nat}(h:d.Ti p n=ζ)(hb:u7 n (p.sc d) (aV d.st)=θ d.body)
  (bd:∀(kV doc pm:Value) (an:Option Addr) (Me ct:Value) (us:List Value),us.length=d.ps.length->NE (wf d.nm d.nm (dW d.st) (aV d.st) (aB d.st) .none kV doc pm an Me ct) ⟨us,[]⟩=pure (d.ps.zip us)):d.Ok p:=by
 unfold Df.Ti at h;simp only[ai,decide_eq_true_eq,fk,bz] at h;obtain⟨⟨⟨⟨⟨⟨h1,h2⟩,h3⟩,h4⟩,h5⟩,h6⟩,h7⟩:=h;exact⟨⟨n,hb⟩,⟨h1,h2,h3,h4,h5,λx hx=>lY (h6 x hx),h7⟩,bd⟩
structure Pg.In (p:Pg)(K:Frag)(mg:Str->Option Value):Prop where
 fn:∀(i:Nat) (d:Df),p.N5[i]? = θ d->∃f fd,L2.sf K d.nm d.nm d.st f fd/\mg d.nm=θ (.ref f)
 gl:∀i x,idxOf p.Ae x=θ i->∃v u,mg x=θ u/\RelV v u/\∀H,Rep K H (p.gl i) v []
 blt:∀x,p.eQ.contains x=ζ->mg x=η
theorem ni {t:Tg}(h:(aD ds n)[i]? = θ (θ (d,t))):ds[i]? = θ d/\t=cU d []:=by
 unfold aD at h;by_cases hi:i<ds.length
 .rw[Ν (by simpa using hi),π] at h;rw[υ hi] at h ⊢;simp only[cq,cz,ij] at h;obtain⟨h1,h2⟩:=h;subst h1;exact⟨rfl,h2.symm⟩
 .rw[Τ (by simpa using jb hi),bv] at h;split at h<;>cases h
theorem aF.parts:∀{ds:List D}{vs:List V}{G:List Addr},aF K H ds vs G->∃F:Nat->List Addr,(∀i d,ds[i]? = θ d->∃v,vs[i]? = θ v/\Rep K H d v (F i))/\(∀i,ds[i]? = η->F i=[])/\∀i,∀a∈F i,a∈G
 |_,_,_,.nil=>⟨λ_=>[],λi d h=>(by simp at h),λ_ _=>rfl,λ_ _ h=>(nomatch h)⟩
 |_,_,_,.cons (d:=d) (v:=v) (ds:=ds) (vs:=vs) (G:=G1) (G':=G2) r s=>by
  obtain⟨F,h1,h2,h3⟩:=aF.parts s;refine⟨λi=>match i with|0=>G1|j+1=>F j,λi e h=>?_,λi h=>?_,λi a h=>?_⟩
  .cases i with
   |zero=>cases h;exact⟨v,rfl,r⟩
   |succ j=>exact h1 j e (by simpa using h)
  .cases i with
   |zero=>cases h
   |succ j=>exact h2 j (by simpa using h)
  .cases i with
   |zero=>exact ax _ h
   |succ j=>exact ao _ (h3 j a h)
theorem entry {N:List Str}(hr:aF K H ds vs G)(hl:ds.length<=N.length):∃F,RE K (λa=>H a≠η) (aD ds N.length) (L2.start N vs) H F/\∀i,∀a∈F i,a∈G:=by
 obtain⟨F,h1,h2,h3⟩:=hr.parts;have flat:∀i d t,(aD ds N.length)[i]? = θ (θ (d,t))->be t=ζ->F i=[]:=λi d t h o=>by
  obtain⟨e1,e2⟩:=ni h;obtain⟨v,_,rp⟩:=h1 i d e1;unfold cU at e2;by_cases hf:d.flat=ζ
  .exact rp.flat hf
  .rw[if_neg hf] at e2;subst e2;cases o
 refine⟨F,⟨?_,λi d t h=>?_,λi h=>?_,λi d t h o=>?_,λi d h a ha=>?_,λa h=>h⟩,h3⟩
 .simp only[aD,L2.start,ba,aj,bu,hr.len]
 .obtain⟨e1,e2⟩:=ni h;obtain⟨v,e3,rp⟩:=h1 i d e1;refine⟨v,?_,rp⟩;unfold L2.start;have hi:i<vs.length:=(χ.mp e3).1;rw[Ν (by simpa using hi),π,e3];rfl
 .cases e:ds[i]? with
  |none=>exact h2 i e
  |some d=>
   refine absurd ?_ (h d (cU d []));unfold aD;have hi:i<ds.length:=(χ.mp e).1;rw[Ν (by simpa using hi),π,e];rfl
 .rw[flat i d t h o];exact⟨bc,λ_ h=>(nomatch h),λ_ h=>(nomatch h)⟩
 .rw[flat i d _ h rfl] at ha;cases ha
theorem qx {α:Type}{g:α->Str}:∀{l:List α}{x:Str}{i:Nat},idxOf (l.map g) x=θ i->∃a,l[i]? = θ a/\g a=x:=by
 intro l x i h;have:=bK h;rw[π,ae] at this;exact this
theorem fH (e:jV (λa=>H a≠η) H H'):aG H H':=λb u h=>(e.keep b (by rw[h];exact λz=>(by cases z))).trans h
section
variable {p:Pg}{P:Program}{w:Ξ}{K:Frag}{mg:Str->Option Value}{base:Heap}
end
noncomputable def Tn (K:Frag):Bool:=K.all λp=>match p.2.cls with
 |.type n=>!(n == "list")
 |_=>ζ
theorem lookup_mem:∀{K:Frag}{a:Addr}{o:Obj},K.lookup a=θ o->(a,o)∈K
 |[],_,_,h=>by cases h
 | (b,x)::r,a,o,h=>by
  rw[de] at h;cases e:a==b with
  |true=>
   rw[e] at h;cases h;rw[jg] at e;rw[e];exact ag
  |false=>rw[e] at h;exact aa _ (lookup_mem h)
theorem G6 {o:Obj}(h:Tn K=ζ)(l:K.lookup a=θ o)(c:o.cls=.type "list"):False:=by
 unfold Tn at h;rw[bz] at h;have:=h _ (lookup_mem l);rw[c] at this;simp at this
theorem qN:∀ns:List Int,aF K H (ns.map D.int) (ns.map V.int) []
 |[]=>.nil
 |n::r=>.cons (.int n) (qN r)
theorem Jc {ns:List Int}{f:List D->Rs (D×Bool)}{fr:Bool}(hL:Tn K=ζ)(hS:mh K H a (ns.map V.int))(hf:f [.lst (ns.map D.int)]=.ok (.bl ζ,fr)):Dr K 1 f [.ref a] H (λv _=>v=.bl ζ) E:=by
 rcases hS with h|⟨o,aH,n,h1,h2,_⟩
 .refine⟨[.lst (ns.map D.int)],[a] ++ [],rfl,.cons (.lst h (qN ns)) .nil,(.bl ζ,fr),hf,λv H' G' _ rp _ _=>?_⟩;exact rp.MG.1
 .exact (G6 hL h1 h2).elim
theorem FL:vX w K:=trivial
def Zy (K:Frag)(d:Df):Prop:=∃(f:Addr) (oc:Value) (od:Option Addr) (kV dc pm:Value) (an:Option Addr) (cd ct:Value) (sl:Array (Option Value)),
 li K dL d.nm=θ (θ (.ref f))/\K.lookup f=θ ⟨oc,od,.func (wf d.nm d.nm (dW d.st) (aV d.st) (aB d.st) .none kV dc pm an cd ct),sl⟩/\SL K cd d.nm=ζ/\kt K (.ref f)=ζ
def qB (K:Frag)(x:Str)(d:D):Prop:=∃v u,li K dL x=θ (θ u)/\RelV v u/\∀H,Rep K H d v []
noncomputable def wc {α:Type}(P:α->Prop):List α->Prop
 |[]=>True
 |a::r=>P a/\wc P r
theorem cG {α:Type}{P:α->Prop}:∀{l:List α},wc P l->∀a∈l,P a
 |[],_,a,h=>by cases h
 |b::r,⟨h1,h2⟩,a,h=>by
  rcases dm.mp h with rfl|h
  .exact h1
  .exact cG h2 a h
structure vR (p:Pg)(K:Frag):Prop where
 fn:wc (Zy K) p.N5
 gl:∀i x,idxOf p.Ae x=θ i->qB K x (p.gl i)
 blt:wc (λx=>li K dL x=θ η) p.eQ
theorem vR.isin {p:Pg}{mg:Str->Option Value}(s:vR p K)(X:K.In h)(G:h.Ns dL mg):p.In K mg where
 fn:=λi d hd=>by
  obtain⟨f,oc,od,kV,dc,pm,an,cd,ct,sl,a,l,c,k⟩:=cG s.fn d (Κ hd);exact⟨f,_,Hf (st:=d.st) l c k,eo X G a⟩
 gl:=λi x hx=>by
  obtain⟨v,u,a,b,c⟩:=s.gl i x hx;exact⟨v,u,eo X G a,b,c⟩
 blt:=λx hx=>PySem.W.mg_none_of X G (cG s.blt x (by simpa using hx))
end Pc
end
section
namespace Pc
open PySem
theorem aA {α β:Type}(a:α)(f:α->Rs β):(Rs.ok a).bind f=f a:=rfl
theorem bC {α:Type}(env:En)(a:α)(k:α->Fl):j3 env (.ok a) k=k a:=rfl
theorem cL (e:En)(k:En->Fl):(Fl.nx e).andThen k=k e:=rfl
theorem xq (d:D)(b:Bool)(k:En->Fl):(Fl.rt d b).andThen k=.rt d b:=rfl
theorem fG {α:Type}(a:α):pS (θ a)=.ok a:=rfl
theorem iJ (op:At)(i j:Int):qa op (.int i) (.int j)=(Pc.binI op i j).map .int:=by cases op<;>rfl
theorem Jm (i:Int)(R:List Nat):ka (.int i) R=.mv []:=rfl
theorem oP:∀l:List Int,D.Mk (l.map D.int)=ζ
 |[]=>rfl
 |_::r=>oP r
theorem uk (n:Nat):∀a b:List Int,a.length=b.length->jW (D.Mr (n+1)) (a.map D.int) (b.map D.int)=θ (a==b)
 |[],[],_=>rfl
 |x::a,y::b,h=>by
  show (θ (x==y)).bind (λc=>(jW (D.Mr (n+1)) (a.map D.int) (b.map D.int)).map λd=>c&&d)=_;rw[uk n a b (by simpa using h)];rfl
 |[],_::_,h=>by simp at h
 |_::_,[],h=>by simp at h
theorem xG (n:Nat)(a b:List Int):D.Mr (n+2) (.lst (a.map D.int)) (.lst (b.map D.int))=θ (a==b):=by
 show (if (a.map D.int).length=(b.map D.int).length then jW (D.Mr (n+1)) (a.map D.int) (b.map D.int) else θ ε)=_;by_cases h:a.length=b.length
 .rw[if_pos (by simpa using h),uk n a b h]
 .rw[if_neg (by simpa using h)];have:(a==b)=ε:=by
   rw[beq_eq_false_iff_ne];rintro rfl;exact h rfl
  rw[this]
end Pc
end
section
namespace Pc
open PySem PySem.Spec PyProof.Rows L2
variable {K:Frag}{oc:Value}{od:Option Addr}{sl:Array (Option Value)}
theorem Ii {d:Df}{f:Addr}{kV dc pm:Value}{an:Option Addr}{cd ct:Value}
 (a:li K dL d.nm=θ (θ (.ref f))) (l:K.lookup f=θ ⟨oc,od,.func (wf d.nm d.nm (dW d.st) (aV d.st) (aB d.st) .none kV dc pm an cd ct),sl⟩) (c:SL K cd d.nm=ζ) (k:kt K (.ref f)=ζ):Zy K d :=
 ⟨f,oc,od,kV,dc,pm,an,cd,ct,sl,a,l,c,k⟩
variable {x:Str}
theorem gl_int {i:Int}{t:Þ}(h:li K dL x=θ (θ (.int i t))):qB K x (.int i):=⟨.int i,_,h,⟨t,rfl⟩,λ_=>.int i⟩
theorem A7 {a:Addr}{es:Array DictEntry}{ep:Nat}{kvs:List (Key×Option Int)}(h:li K dL x=θ (θ (.ref a)))
  (l:K.lookup a=θ ⟨oc,od,.dict es ep,sl⟩) (c:oc=.type "dict"/\od=η/\sl = #[]) (he:vJ es.toList kvs) (hn:(kvs.map (·.1)).Nodup):qB K x (.Np kvs) :=
 ⟨.ref a,_,h,rfl,λH=>.Np ⟨_,es,ep,l,c,rfl,he,hn⟩⟩
noncomputable def rN (K:Frag)(g:Nat->D):Nat->List Str->Prop
 |_,[]=>True
 |i,x::r=>qB K x (g i)/\rN K g (i+1) r
variable {g:Nat->D}
theorem uK:∀{l:List Str}{k i:Nat}{x:Str},rN K g k l->idxOf l x=θ i->qB K x (g (k+i))
 |y::r,k,i,x,⟨h1,h2⟩,e=>by
  unfold idxOf at e;by_cases hx:y=x
  .rw[if_pos hx] at e;cases e;subst hx;exact h1
  .rw[if_neg hx,ae] at e;obtain⟨j,hj,rfl⟩:=e;have:=uK h2 hj;rw[show k+1+j=k+(j+1) by omega] at this;exact this
theorem Ed {l:List Str}(h:rN K g 0 l):∀i x,idxOf l x=θ i->qB K x (g i):=λi x e=>by
 have:=uK h e
 rwa [gn] at this
end Pc
end
section
variable {a b c k:Nat}
namespace Fl64
noncomputable def dbl (a:Nat):Nat:=if 64<=2*a then (2*a)^^^67 else 2*a
noncomputable def iX:Nat->Nat->Nat->Nat->Nat
 |0,p,_,_=>p
 |n+1,p,d,l=>if l=0 then p else iX n (if l%2=1 then p^^^d else p) (dbl d) (l / 2)
noncomputable def tm (a b:Nat):Nat:=iX 6 0 a b
noncomputable def allB (n:Nat)(f:Nat->Bool):Bool:=match n with
 |0=>ζ
 |k+1=>f k&&allB k f
theorem aS:∀{n:Nat}{f:Nat->Bool},allB n f=ζ->∀i,i<n->f i=ζ
 |0,_,_,i,h=>absurd h (iz i)
 |k+1,f,h,i,hi=>by
  unfold allB at h;rw[ai] at h;rcases Nat.lt_succ_iff_lt_or_eq.mp hi with q|q
  .exact aS h.2 i q
  .subst q;exact h.1
theorem all2 {f:Nat->Nat->Bool}(h:allB 64 (λa=>allB 64 (f a))=ζ)(ha:a<64)(hb:b<64):f a b=ζ:=aS (aS h a ha) b hb
theorem aX (ha:a<64)(hb:b<64):tm a b<64:=by
 have:=all2 (f:=λa b=>decide (tm a b<64)) (by decide +kernel) ha hb;exact az this
theorem dB (ha:a<64)(hb:b<64):tm a b=tm b a:=by
 have:=all2 (f:=λa b=>decide (tm a b=tm b a)) (by decide +kernel) ha hb;exact az this
theorem mw (ha:a<64):tm a 1=a:=by
 have:=aS (n:=64) (f:=λa=>decide (tm a 1=a)) (by decide +kernel) a ha;exact az this
theorem oS (ha:a<64):tm 1 a=a:=by rw[dB (by decide) ha,mw ha]
theorem hV (a:Nat):tm a 0=0:=rfl
theorem bL (ha:a<64):tm 0 a=0:=by rw[dB (by decide) ha,hV]
theorem aP (ha:a<64)(hb:b<64):a^^^b<64:=Nat.xor_lt_two_pow (n:=6) ha hb
theorem BD (b c:Nat):(b^^^c) / 2=(b / 2)^^^(c / 2):=by
 have:=@Ú 1 b c;simpa[ir] using this
theorem E2 (b c:Nat):(b^^^c)%2=(b%2+c%2)%2:=by
 have:=@Ĺ b c 1;rw[j?] at this;rw[this];rcases eu b with hb|hb<;>rcases eu c with hc|hc<;>simp[hb,hc]
theorem kP:∀(n p d l:Nat),iX n p d l=p^^^iX n 0 d l
 |0,p,_,_=>by simp[iX]
 |n+1,p,d,l=>by
  unfold iX;by_cases h:l=0
  .simp[h]
  .rw[if_neg h,if_neg h,kP n,kP n (if l%2=1 then 0^^^d else 0)];by_cases o:l%2=1
   .rw[if_pos o,if_pos o,cg,bj]
   .rw[if_neg o,if_neg o,cg]
theorem mS (n d l:Nat):iX (n+1) 0 d l=(if l%2=1 then d else 0)^^^iX n 0 (dbl d) (l / 2):=by
 have z:∀n d,iX n 0 d 0=0:=λn d=>by cases n<;>simp[iX]
 conv=>lhs;unfold iX
 by_cases h:l=0
 .subst h;simp[z]
 .rw[if_neg h,kP];by_cases o:l%2=1
  .rw[if_pos o,if_pos o,cg]
  .rw[if_neg o,if_neg o]
theorem ua:∀(n d b c:Nat),iX n 0 d (b^^^c)=iX n 0 d b^^^iX n 0 d c
 |0,_,_,_=>by simp[iX]
 |n+1,d,b,c=>by
  rw[mS,mS,mS,BD,ua n,E2];have e:(if (b%2+c%2)%2=1 then d else 0)=(if b%2=1 then d else 0)^^^(if c%2=1 then d else 0):=by
   rcases eu b with hb|hb<;>rcases eu c with hc|hc<;>simp[hb,hc]
  rw[e];generalize (if b%2=1 then d else 0)=x;generalize (if c%2=1 then d else 0)=y;generalize iX n 0 (dbl d) (b / 2)=u;generalize iX n 0 (dbl d) (c / 2)=v;rw[bj,bj,<-bj y,ø y u,bj u y v]
theorem j8 (a b c:Nat):tm a (b^^^c)=tm a b^^^tm a c:=ua 6 a b c
theorem kf (ha:a<64)(hb:b<64)(hc:c<64):tm (a^^^b) c=tm a c^^^tm b c:=by
 rw[dB (aP ha hb) hc,j8,dB hc ha,dB hc hb]
noncomputable def gG (c k:Nat):Nat:=if c / 2 ^ k%2=1 then 2 ^ k else 0
theorem B1 (hc:c<64):c=gG c 0^^^(gG c 1^^^(gG c 2^^^(gG c 3^^^(gG c 4^^^gG c 5)))):=by
 have:=aS (n:=64) (f:=λc=>decide (c=gG c 0^^^(gG c 1^^^(gG c 2^^^(gG c 3^^^(gG c 4^^^gG c 5)))))) (by decide +kernel) c hc;exact az this
noncomputable def asB (a b:Nat):Bool:=allB 6 λk=>decide (tm (tm a b) (2 ^ k)=tm a (tm b (2 ^ k)))
theorem Dd (ha:a<64)(hb:b<64)(hk:k<6):tm (tm a b) (2 ^ k)=tm a (tm b (2 ^ k)):=by
 have:=all2 (f:=asB) (by decide +kernel) ha hb;exact az (aS this k hk)
theorem mF (ha:a<64)(hb:b<64)(hk:k<6):tm (tm a b) (gG c k)=tm a (tm b (gG c k)):=by
 unfold gG;by_cases h:c / 2 ^ k%2=1
 .rw[if_pos h,Dd ha hb hk]
 .rw[if_neg h,hV,hV,hV]
theorem cP (ha:a<64)(hb:b<64)(hc:c<64):tm (tm a b) c=tm a (tm b c):=by
 rw[B1 hc];simp only[j8];rw[mF ha hb (by decide),mF ha hb (by decide),mF ha hb (by decide),mF ha hb (by decide),mF ha hb (by decide),mF ha hb (by decide)]
end Fl64
end
section
namespace Pc
open PySem
theorem uH:∀(n a b:Nat),a<2 ^ n->(a^^^b)+(a &&& b)=a ||| b
 |0,a,b,h=>by
  have:a=0:=by simpa using h
  subst this;simp
 |n+1,a,b,h=>by
  have ih:=uH n (a / 2) (b / 2) (by rw[Ĥ] at h;omega);have x1:(a^^^b) / 2=(a / 2)^^^(b / 2):=by have:=@Ú 1 a b;simpa[ir] using this
  have x2:(a &&& b) / 2=(a / 2) &&& (b / 2):=by have:=@Nat.shiftRight_and_distrib 1 a b;simpa[ir] using this
  have x3:(a ||| b) / 2=(a / 2) ||| (b / 2):=by have:=@Nat.shiftRight_or_distrib 1 a b;simpa[ir] using this
  have y1:=@Ĺ a b 1;have y2:=@Nat.and_mod_two_pow a b 1;have y3:=@Nat.or_mod_two_pow a b 1;rw[j?] at y1 y2 y3;have z:(a%2^^^b%2)+(a%2 &&& b%2)=a%2 ||| b%2:=by
   rcases eu a with ha|ha<;>rcases eu b with hb|hb<;>rw[ha,hb]<;>rfl
  have d1:=Ì (a^^^b) 2;have d2:=Ì (a &&& b) 2;have d3:=Ì (a ||| b) 2;rw[x1,y1] at d1;rw[x2,y2] at d2;rw[x3,y3] at d3;omega
theorem wK (a b:Nat):Go (a:Int) (b:Int)=((a &&& b:Nat):Int):=by
 unfold Go;rw[cu (i5 a),cu (i5 b)];rfl
theorem zH (a b:Nat):ō (a:Int) (b:Int)=((a ||| b:Nat):Int):=by
 unfold ō Go Builtin.bitNot;rw[cm (by omega),cm (by omega)];have e:∀c:Nat,(-(-(c:Int)-1)-1).toNat=c:=λc=>by omega
 show -(-((((-(-(a:Int)-1)-1).toNat ||| (-(-(b:Int)-1)-1).toNat:Nat):Int))-1)-1=_;rw[e,e];omega
theorem DY (a b:Nat):SB (a:Int) (b:Int)=((a^^^b:Nat):Int):=by
 unfold SB;rw[wK,zH,<-uH a a b (Nat.lt_two_pow_self)];omega
noncomputable def DR (g f:Nat):aU:=(.cons (.ite (.cmp .Eq (.bin .Mod LK Ly) Lz) (.cons (.asg (.nm 2) (.bin .BitXor LL LM) ε)
  .nil) .nil)
  (.cons (.asg (.nm 3) (.bin .Mult Ly LM) ε)
  (.cons (.ite (.cmp .GtE LM (.NC g)) (.cons (.asg (.nm 3) (.bin .BitXor LM (.NC f)) ε)
  .nil) .nil)
  (.cons (.asg (.nm 4) (.bin .FloorDiv LK Ly) ε)
  .nil))))
noncomputable def Bj (g f:Nat):aU:=(.cons (.asg (.nm 2) LA ε)
  (.cons (.asg (.nm 3) LN ε)
  (.cons (.asg (.nm 4) LO ε)
  (.cons (.Qd (.cmp .Gt LK LA) (DR g f))
  (.cons (.ret LL)
  .nil)))))
noncomputable abbrev sI (i:Int):Slot:=θ (.int i,.own)
noncomputable abbrev sN (i:Nat):Slot:=θ (.int (i:Int),.own)
noncomputable def ret (f:Fl):Rs (D×Bool):=match f with
 |.rt d fr=>.ok (d,fr)
 |.nx _=>.ok (.Mh,ζ)
 |_=>.bad
variable {i n:Nat}
theorem aW {fns:List Fn}{gl:Nat->D}{fuel:Nat}{F:Fn}{ds:List D}(h:fns[i]? = θ F)(hl:ds.length=F.ps):Pc.run fns gl fuel (n+1) i ds=ret (aE ⟨Pc.run fns gl fuel n,gl,fuel⟩ F.body (aD ds F.slots)):=by
 unfold Pc.run;rw[h];dsimp only;rw[if_pos hl];rfl
theorem Bb {a m:Int}(h0:0<=a)(h1:a<m):∃n:Nat,a=(n:Int)/\(n:Int)<m:=⟨a.toNat,by omega,by omega⟩
theorem uR {x:Int}(h0:0<=x)(h1:x<2147483648):small x=ζ:=cu ⟨by omega,by omega⟩
theorem mQ {n k:Nat}(h:k<n):kH n (k:Int)=θ k:=by
 unfold kH;rw[if_pos (by omega),if_pos (by omega),ey]
theorem pA (env:En):lock [] env=env:=by
 unfold lock;have:∀(l:En) (k:Nat),(l.mapIdx λi (s:Slot)=>match s with
  |some (d,.own)=>if ([]:List Nat).contains i then θ (d,.lk) else θ (d,.own)
  |s=>s)=l:=λl k=>by
  rw[ĺ];intro i;cases h:l[i]? with
  |none=>rfl
  |some s=>
   cases s with
   |none=>rfl
   |some p=>obtain⟨d,t⟩:=p;cases t<;>rfl
 exact this env 0
theorem wC (e0 env:En):unlock [] e0 env=env:=by
 unfold unlock;rw[ĺ];intro i;cases h:env[i]? with
 |none=>rfl
 |some s=>
  cases s with
  |none=>rfl
  |some p=>
   obtain⟨d,t⟩:=p;cases t with
   |lk=>
    simp only[cq];split<;>rfl
   |own=>rfl
   |sh R=>rfl
variable {T:Tb}{env:En}
theorem yu {t:md}{it:qc}{b:aU}{e:En}{l:List D}(hit:iL T it env=.ok (l,[]))(h:gK t [] (aE T b) l env=.nx e):bH T (.Mg t it b) env=.nx e:=by
 rw[bH,hit,bC];dsimp only;rw[pA,h];dsimp only;rw[wC]
variable {d:D}{e:Ex}
theorem iB (h:ev T e env=.ok (d,.mv [])):ret (aE T (.cons (.ret e) .nil) env)=.ok (d,ζ):=by
 rw[aE,bH,h,bC];rfl
theorem j7 (h:n<=1000):n<=lim:=bp h (by decide)
theorem DV (T:Tb)(env:En)(e:Ex)(j:Int)(r:Rt)(he:ev T e env=.ok (.int j,r))(h1:mK j=ζ):iL T (.Mo e) env=.ok (dZ 0 1 j.toNat,[]):=by
 rw[iL,he,aA];show (if mK j=ζ then Rs.ok (dZ 0 1 j.toNat,[]) else .bad)=_;rw[if_pos h1]
theorem xv (h:n<=1000):mK (n:Int)=ζ:=by
 unfold mK;exact cu ⟨ģ (by decide) (i5 n),Int.lt_of_le_of_lt (Int.ofNat_le.mpr h) (by decide)⟩
def pU (s:Slot):Prop:=s=η\/(∃d,s=θ (d,.own))\/(∃d,s=θ (d,.sh []))\/∃d,s=θ (d,.lk)
def Tame (env:En):Prop:=∀s∈env,pU s
theorem mR:pU η:=.inl rfl
theorem aI (d:D):pU (θ (d,.own)):=.inr (.inl ⟨d,rfl⟩)
theorem yi (d:D):pU (θ (d,.sh [])):=.inr (.inr (.inl ⟨d,rfl⟩))
theorem rP (d:D):pU (θ (d,.lk)):=.inr (.inr (.inr ⟨d,rfl⟩))
theorem Tame.nil:Tame []:=λ_ h=>(nomatch h)
theorem Tame.cons {s:Slot}{e:En}(h:pU s)(t:Tame e):Tame (s::e):=λx hx=>by
 rcases dm.mp hx with rfl|hx
 .exact h
 .exact t x hx
theorem Tame.set {e:En}{s:Slot}(t:Tame e)(h:pU s)(i:Nat):Tame (e.set i s):=λx hx=>by
 rcases jo hx with q|q
 .exact t x q
 .rw[q];exact h
theorem bN (h:Tame env)(i:Nat)(d:D)(t:Tg):put env i d t=env.set i (θ (d,t)):=by
 unfold put;have:env.map (λ(s:Slot)=>s.map λ(p:D×Tg)=>(p.1,p.2.drop i))=env:=by
  conv=>rhs;rw[<-h_ env]
  refine du λs hs=>?_
  rcases h s hs with rfl|⟨d,rfl⟩|⟨d,rfl⟩|⟨d,rfl⟩<;>rfl
 rw[this]
theorem zU (h:Tame env)(R:List Nat):kill R env=env.mapIdx λi s=>if R.contains i then η else s:=by
 unfold kill;apply ì;intro i;rw[am,am];cases q:env[i]? with
 |none=>rfl
 |some s=>
  rcases h s (Κ q) with rfl|⟨d,rfl⟩|⟨d,rfl⟩|⟨d,rfl⟩
  .simp
  .simp[ki]
  .simp[ki]
  .simp[ki]
theorem gO (h:Tame env)(x:Nat)(s:Slot):(kill [x] env).set x s=env.set x s:=by
 rw[zU h];apply ì;intro i;by_cases hi:i=x
 .subst hi;by_cases hl:i<env.length
  .rw[ω (by simpa using hl),ω hl]
  .rw[Ps (by simp;omega),Ps (by simp;omega)]
 .rw[ο (bw hi),ο (bw hi),am];cases q:env[i]? with
  |none=>rfl
  |some s=>simp[hi]
variable {x:Nat}{xs:List D}
section
variable {T:Tb}{env:En}
theorem sD {i:Nat}{d:D}(ht:Tame env)(hi:i<env.length)(h:ev T e env=.ok (d,.mv [])):bH T (.asg (.nm i) e ε) env=.nx (env.set i (θ (d,.own))):=by
 rw[bH,h,bC];show (if i<env.length then Fl.nx (put env i d .own) else .bad)=_;rw[if_pos hi,bN ht]
theorem AZ (ht:Tame env)(hi:i<env.length):bP [] (.nm i) d env=θ (env.set i (θ (d,cU d []))):=by
 show (if i<env.length then θ (put env i d (cU d [])) else η)=_;rw[if_pos hi,bN ht]
theorem Eg (h:env[i]? = θ (θ (d,.own)))(hf:d.flat=ε):ev T (.var i) env=.ok (d,.mv [i]):=by
 rw[ev,h];dsimp only;rw[hf];rfl
theorem BF {t:Tg}(h:env[i]? = θ (θ (d,t)))(hf:d.flat=ζ):ev T (.var i) env=.ok (d,.mv []):=by
 rw[ev,h];dsimp only;rw[if_pos hf]
theorem Ah (xs:List D)(d:D):Ct .append xs [d]=θ (xs ++ [d]):=rfl
theorem AH (xs ys:List D):Ct .extend xs [.lst ys]=if D.Mk ys then θ (xs++ys) else η:=rfl
theorem Ej (ht:Tame env)(hx:env[x]? = θ (θ (.lst xs,.own)))(h:ev T e env=.ok (d,.mv []))(hl:xs.length+1<=lim):bH T (.mut x .none .append (.cons e .nil)) env=.nx (env.set x (θ (.lst (xs ++ [d]),.own))):=by
 have ho:ownAt env x=θ (.lst xs):=by unfold ownAt;rw[hx]
 have hs:aR T (.cons e .nil) env=.ok [(d,.mv [])]:=by
  rw[aR,h,aA];rfl
 rw[bH,ho];simp only[nt,bC,D.Mv,hs,bo,è,Ah,aO,Rt.roots,dw,Ŏ,aw,í,c9,if_false,vo.MF,bW,dX,cq];have:(xs ++ [d]).length<=lim:=by rw[ba];exact hl
 simp only[bc,decide_true,dD,Ė,Ñ,Z9,this,if_true,D.M0,iy];rw[gO ht]
theorem DO {x:Nat}{k:Ex}{l:Int}{m:Nat}{R':Rt}(ht:Tame env)(hx:env[x]? = θ (θ (.lst xs,.own)))(hk:ev T k env=.ok (.int l,R'))(hm:Pc.kH xs.length l=θ m)(h:ev T e env=.ok (d,.mv []))(hl:xs.length<=lim) :
  bH T (.MD x .none k e) env=.nx (env.set x (θ (.lst (xs.set m d),.own))):=by
 have ho:ownAt env x=θ (.lst xs):=by unfold ownAt;rw[hx]
 have hll:(xs.set m d).length<=lim:=by rw[aq];exact hl
 rw[bH,ho];simp only[h,bC,nt,D.Mv,hk,hm,bW,dX,cq,aw,bc,decide_true,dD,Ė,í,Ñ,Z9,hll,if_true,D.M0,iy];rw[gO ht]
theorem Af (hx:env[x]? = θ (θ (d,.own))):lock [x] env=env.set x (θ (d,.lk)):=by
 unfold lock;apply ì;intro i;rw[am];by_cases hi:i=x
 .subst hi;have hl:i<env.length:=(χ.mp hx).1;rw[ω hl,hx];simp
 .rw[ο (bw hi)];cases q:env[i]? with
  |none=>rfl
  |some s=>
   cases s with
   |none=>rfl
   |some p=>
    obtain⟨d,t⟩:=p;cases t with
    |own=>simp[hi]
    |lk=>rfl
    |sh R=>rfl
theorem km {j:Nat}{x y:D}{R:List Nat}(ht:Tame env)(hi:i<env.length)(hj:j<env.length)(fx:x.flat=ζ)(fy:y.flat=ζ):bP R (.tp [i,j]) (.tup [x,y]) env=θ ((env.set i (θ (x,.own))).set j (θ (y,.own))):=by
 show bindM (λd=>cU d R) [i,j] [x,y] env=_;have tx:cU x R=.own:=by unfold cU;rw[if_pos fx]
 have ty:cU y R=.own:=by unfold cU;rw[if_pos fy]
 simp only[bindM,hi,if_true,tx,ty];rw[bN ht,if_pos (by rw[aq];exact hj),bN (ht.set (aI x) i)]
end
end Pc
end
section
namespace Pc
end Pc
namespace Pc.Sm
open PySem Pc
theorem JM (p:D×Rt):Ò (λx:D×Rt=>x.1) [p]=[p.1]:=rfl
theorem sum_ints:∀(l:List Int) (a:Int),wV a (l.map D.int)=θ (a+l.sum)
 |[],a=>by simp[wV]
 |x::r,a=>by
  rw[bo,wV,sum_ints r,ą];congr 1;omega
end Pc.Sm
end
section
variable {a b l m:List Nat}{f g p x:Nat}
namespace Fl64
def Gr (l:List Nat):Prop:=∀g∈l,g<64
theorem Gr.nil:Gr []:=λ_ h=>(nomatch h)
theorem Gr.cons {g:Nat}{l:List Nat}(h:g<64)(t:Gr l):Gr (g::l):=λx hx=>by
 rcases dm.mp hx with rfl|hx
 .exact h
 .exact t x hx
theorem Gr.append (a:Gr l)(b:Gr m):Gr (l++m):=λx hx=>(ig.mp hx).elim (a x) (b x)
noncomputable def iS (x w:Nat)(l:List Nat):Nat:=l.foldl (λw g=>tm w x^^^g) w
noncomputable abbrev dA (x:Nat)(l:List Nat):Nat:=iS x 0 l
theorem lI (x w g:Nat)(l:List Nat):iS x w (g::l)=iS x (tm w x^^^g) l:=rfl
theorem wq (x w:Nat)(l m:List Nat):iS x w (l++m)=iS x (iS x w l) m:=by unfold iS;rw[List.foldl_append]
theorem gP {w:Nat}(hx:x<64)(hw:w<64):∀{l:List Nat},Gr l->iS x w l<64:=by
 intro l
 induction l generalizing w with
 |nil=>exact λ_=>hw
 |cons g r ih=>exact λh=>ih (aP (aX hw hx) (h g ag)) λz hz=>h z (aa _ hz)
noncomputable def pw (x:Nat):Nat->Nat
 |0=>1
 |n+1=>tm (pw x n) x
theorem aY (hx:x<64):∀n,pw x n<64
 |0=>by show 1<64;decide
 |n+1=>aX (aY hx n) hx
theorem iR {w:Nat}(hx:x<64)(hw:w<64)(h:Gr l):iS x w l=tm w (pw x l.length)^^^dA x l:=by
 induction l generalizing w with
 |nil=>simp[iS,pw,mw hw]
 |cons g r ih=>
  have Ms:=h g ag;have hr:Gr r:=λz hz=>h z (aa _ hz)
  have Ry:=aY hx r.length;rw[lI,ih (aP (aX hw hx) Ms) hr];show _=tm w (pw x (r.length+1))^^^iS x (tm 0 x^^^g) r;rw[bL hx,cg,ih Ms hr,kf (aX hw hx) Ms Ry,cP hw hx Ry,dB hx Ry,bj];rfl
noncomputable def cZ (a b:List Nat):List Nat:=List.zipWith (· ^^^ ·) a b
theorem CF (h:a.length=b.length):(cZ a b).length=a.length:=by simp[cZ,h]
theorem yz:∀{a b:List Nat},Gr a->Gr b->Gr (cZ a b)
 |[],_,_,_=>Gr.nil
 |_::_,[],_,_=>by simpa[cZ] using Gr.nil
 |x::a,y::b,ha,hb=>by
  show Gr ((x^^^y)::cZ a b);exact .cons (aP (ha x ag) (hb y ag)) (yz (λz hz=>ha z (aa _ hz)) λz hz=>hb z (aa _ hz))
theorem K7 (a b c d:Nat):(a^^^b)^^^(c^^^d)=(a^^^c)^^^(b^^^d):=by
 rw[bj,bj,<-bj b,ø b c,bj c]
theorem xh (hx:x<64):∀{a b:List Nat},a.length=b.length->Gr a->Gr b->∀{u v:Nat},u<64->v<64->iS x (u^^^v) (cZ a b)=iS x u a^^^iS x v b
 |[],[],_,_,_,_,_,_,_=>rfl
 |p::a,q::b,hl,ha,hb,u,v,hu,hv=>by
  have Ry:=ha p ag;have q64:=hb q ag;show iS x (tm (u^^^v) x^^^(p^^^q)) (cZ a b)=iS x (tm u x^^^p) a^^^iS x (tm v x^^^q) b;rw[kf hu hv hx,K7];exact xh hx (by simpa using hl) (λz hz=>ha z (aa _ hz)) (λz hz=>hb z (aa _ hz)) (aP (aX hu hx) Ry) (aP (aX hv hx) q64)
 |[],_::_,h,_,_,_,_,_,_=>by simp at h
 |_::_,[],h,_,_,_,_,_,_=>by simp at h
theorem xx (hx:x<64)(h:a.length=b.length)(ha:Gr a)(hb:Gr b):dA x (cZ a b)=dA x a^^^dA x b:=xh (u:=0) (v:=0) hx h ha hb (by decide) (by decide)
theorem mT (x:Nat)(hx:x<64):∀n,dA x (ξ n 0)=0
 |0=>rfl
 |n+1=>by
  show iS x (tm 0 x^^^0) (ξ n 0)=0;rw[bL hx];exact mT x hx n
theorem fV (n:Nat):Gr (ξ n 0):=λg hg=>by rw[Ĉ hg];decide
theorem pG (hx:x<64)(n:Nat)(l:List Nat):dA x (ξ n 0++l)=dA x l:=by
 show iS x 0 _=_;rw[wq];show iS x (dA x (ξ n 0)) l=_;rw[mT x hx]
noncomputable def mulR (f:Nat)(l:List Nat):List Nat:=l.map λg=>tm f g
theorem lX (hf:f<64)(h:Gr l):Gr (mulR f l):=λg hg=>by
 obtain⟨y,hy,rfl⟩:=Δ.mp hg;exact aX hf (h y hy)
theorem Ep (hx:x<64)(hf:f<64)(h:Gr l):∀{w:Nat},w<64->iS x (tm f w) (mulR f l)=tm f (iS x w l):=by
 induction l with
 |nil=>exact λ_=>rfl
 |cons g r ih=>
  intro w hw;have Ms:=h g ag;show iS x (tm (tm f w) x^^^tm f g) (mulR f r)=tm f (iS x (tm w x^^^g) r);rw[cP hf hw hx,<-j8,ih (λz hz=>h z (aa _ hz)) (aP (aX hw hx) Ms)]
theorem yb (hx:x<64)(hf:f<64)(h:Gr l):dA x (mulR f l)=tm f (dA x l):=by
 have:=Ep hx hf h (w:=0) (by decide);rw[hV] at this;exact this
theorem dI {a b:Nat}(ha:a<64)(hb:b<64)(h:tm a b=0):a=0\/b=0:=by
 have:=all2 (f:=λa b=>decide (tm a b=0->a=0\/b=0)) (by decide +kernel) ha hb;exact az this h
theorem cC {a b:Nat}(h:a^^^b=0):a=b:=by
 have:(a^^^b)^^^b=0^^^b:=by rw[h]
 rwa [bj,gq,gx,cg] at this
noncomputable def AQ (a w:Nat):List Nat->List Nat
 |[]=>[]
 |g::r=>w::AQ a (tm w a^^^g) r
theorem yr (a:Nat):∀(w:Nat) (l:List Nat),(AQ a w l).length=l.length
 |_,[]=>rfl
 |w,g::r=>by rw[AQ,br,yr,br]
theorem wR {a:Nat}(ha:a<64):∀{w:Nat}{l:List Nat},w<64->Gr l->Gr (AQ a w l)
 |_,[],_,_=>Gr.nil
 |w,g::r,hw,h=>.cons hw (wR ha (aP (aX hw ha) (h g ag)) λz hz=>h z (aa _ hz))
theorem ub {a b c:Nat}(ha:a<64)(hb:b<64)(hc:c<64):tm (tm a b) c=tm (tm a c) b:=by rw[cP ha hb hc,dB hb hc,cP ha hc hb]
theorem yn {a:Nat}(hx:x<64)(ha:a<64):∀{l:List Nat}{u w:Nat},Gr l->u<64->w<64->iS x (tm u (x^^^a)^^^w) l=tm (iS x u (AQ a w l)) (x^^^a)^^^iS a w l
 |[],u,w,_,_,_=>rfl
 |g::r,u,w,h,hu,hw=>by
  have Ms:=h g ag;have xa:=aP hx ha;have ux:=aX hu hx;rw[AQ,lI,lI,lI];have e:tm (tm u (x^^^a)^^^w) x^^^g=tm (tm u x^^^w) (x^^^a)^^^(tm w a^^^g):=by
   rw[kf (aX hu xa) hw hx,kf ux hw xa,ub hu xa hx,j8 w x a];generalize tm (tm u x) (x^^^a)=p;generalize tm w x=q;generalize tm w a=s;rw[bj,bj,bj,<-bj s s,gq,cg]
  rw[e];exact yn hx ha (λz hz=>h z (aa _ hz)) (aP ux hw) (aP (aX hw ha) Ms)
theorem C3 {a:Nat}(hx:x<64)(ha:a<64){r:List Nat}(h:Gr (g::r)):dA x (g::r)=tm (dA x (AQ a g r)) (x^^^a)^^^dA a (g::r):=by
 have Ms:=h g ag;have hr:Gr r:=λz hz=>h z (aa _ hz)
 have:=yn hx ha (u:=0) (w:=g) hr (by decide) Ms;rw[bL (aP hx ha),cg] at this;show iS x (tm 0 x^^^g) r=tm (iS x 0 (AQ a g r)) (x^^^a)^^^iS a (tm 0 a^^^g) r;rw[bL hx,bL ha,cg];exact this
theorem ui {a:Nat}(ha:a<64):∀{g:Nat}{r:List Nat},Gr (g::r)->(∀z∈AQ a g r,z=0)->dA a (g::r)=0->∀z∈g::r,z=0
 |g,[],h,_,hw,z,hz=>by
  have:dA a [g]=g:=by show tm 0 a^^^g=g;rw[bL ha,cg]
  rw[this] at hw;have:=jm.mp hz;rw[this,hw]
 |g,g'::r,h,hq,hw,z,hz=>by
  have g0:g=0:=hq g (by rw[AQ];exact ag);subst g0;rcases dm.mp hz with rfl|hz
  .rfl
  have e:tm 0 a^^^g'=g':=by rw[bL ha,cg]
  refine ui ha (λz hz=>h z (aa _ hz)) (λz hz=>hq z ?_) ?_ z hz
  .rw[AQ,e];exact aa _ hz
  .have:dA a (0::g'::r)=dA a (g'::r):=pG ha 1 (g'::r);rw[<-this];exact hw
theorem oj:∀{xs l:List Nat},xs.Nodup->Gr xs->Gr l->l.length<=xs.length->(∀x∈xs,dA x l=0)->∀z∈l,z=0
 |_,[],_,_,_,_,_,z,hz=>(nomatch hz)
 |[],g::r,_,_,_,hl,_,_,_=>by simp at hl
 |a::xs,g::r,hn,hx,hl,hle,hw,z,hz=>by
  have O5:=hx a ag;have Ms:=hl g ag;have hr:Gr r:=λz hz=>hl z (aa _ hz)
  have M9:=jy.mp hn;have wa:=hw a ag;refine ui O5 hl (oj M9.2 (λz hz=>hx z (aa _ hz)) (wR O5 Ms hr) ?_ λx Qz=>?_) wa z hz
  .rw[yr];simpa using hle
  .have PF:=hx x (aa _ Qz);have wx:=hw x (aa _ Qz);rw[C3 PF O5 hl,wa,gx] at wx;rcases dI (gP PF (by decide) (wR O5 Ms hr)) (aP PF O5) wx with q|q
   .exact q
   .have:=cC q;subst this;exact absurd Qz M9.1
theorem sg (hx:x<64)(m:Nat):∀n,pw x (m+n)=tm (pw x m) (pw x n)
 |0=>by show pw x m=tm (pw x m) 1;rw[mw (aY hx m)]
 |n+1=>by
  show tm (pw x (m+n)) x=tm (pw x m) (tm (pw x n) x);rw[sg hx m n,cP (aY hx m) (aY hx n) hx]
theorem IQ (hx:x<64):pw x 1=x:=oS hx
theorem FF (hx:x<64):∀n,pw (tm x x) n=pw x (2*n)
 |0=>rfl
 |n+1=>by
  show tm (pw (tm x x) n) (tm x x)=pw x (2*n+2);rw[FF hx n,sg hx (2*n) 2];congr 1;show tm x x=tm (tm 1 x) x;rw[oS hx]
theorem E7 {s:Nat}(hs:s<64)(l:Nat):pw s l=if l%2=1 then tm s (pw (tm s s) (l / 2)) else pw (tm s s) (l / 2):=by
 rw[FF hs];by_cases o:l%2=1
 .rw[if_pos o]
  conv=>lhs;rw[show l=1+2*(l / 2) by omega,sg hs,IQ hs]
 .rw[if_neg o,show 2*(l / 2)=l by omega]
noncomputable def bB (c:Nat):List Nat:=(ZS 1 c).map (pw 2)
theorem dC (c:Nat):Gr (bB c):=λg hg=>by
 obtain⟨k,_,rfl⟩:=Δ.mp hg;exact aY (by decide) k
theorem dM (c:Nat):(bB c).length=c:=by simp[bB]
theorem xk (hx:x<64):∀{l:List Nat}{p g:Nat},Gr l->g<64->p<l.length->∀{w:Nat},w<64->iS x w (l.set p (l.getD p 0^^^g))=iS x w l^^^tm g (pw x (l.length-1-p))
 |[],p,g,_,_,hp,_,_=>by simp at hp
 |a::l,0,g,hl,hg,_,w,hw=>by
  have O5:=hl a ag;have hr:Gr l:=λz hz=>hl z (aa _ hz)
  show iS x (tm w x^^^(a^^^g)) l=iS x (tm w x^^^a) l^^^tm g (pw x (l.length+1-1-0));rw[<-bj,iR hx (aP (aP (aX hw hx) O5) hg) hr,iR hx (aP (aX hw hx) O5) hr,kf (aP (aX hw hx) O5) hg (aY hx _)];rw[bj,bj,ø (tm g _)];rfl
 |a::l,p+1,g,hl,hg,hp,w,hw=>by
  have O5:=hl a ag;have hr:Gr l:=λz hz=>hl z (aa _ hz)
  show iS x (tm w x^^^a) (l.set p (l.getD p 0^^^g))=iS x (tm w x^^^a) l^^^tm g (pw x (l.length+1-1-(p+1)));rw[xk hx hr hg (by simpa using hp) (aP (aX hw hx) O5)];congr 3;omega
theorem cX (h:Gr l)(p:Nat):l.getD p 0<64:=by
 rw[ι];cases q:l[p]? with
 |none=>decide
 |some g=>exact h g (Κ q)
theorem ph (h:Gr l)(hg:g<64):Gr (l.set p (l.getD p 0^^^g)):=λz hz=>by
 rcases jo hz with q|q
 .exact h z q
 .rw[q];exact aP (cX h p) hg
noncomputable def cN (l:List Nat)(p:Nat):List Nat->List Nat
 |[]=>l
 |g::r=>cN (l.set p (l.getD p 0^^^g)) (p+1) r
theorem eX:∀(m:List Nat) (l:List Nat) (p:Nat),(cN l p m).length=l.length
 |[],_,_=>rfl
 |g::r,l,p=>by rw[cN,eX r,aq]
theorem iF:∀{m l:List Nat}{p:Nat},Gr l->Gr m->Gr (cN l p m)
 |[],_,_,h,_=>h
 |g::r,l,p,h,hm=>by
  rw[cN];exact iF (ph h (hm g ag)) λz hz=>hm z (aa _ hz)
theorem mr (hx:x<64):∀{m l:List Nat}{p:Nat},Gr l->Gr m->p+m.length<=l.length->dA x (cN l p m)=dA x l^^^tm (dA x m) (pw x (l.length-p-m.length))
 |[],l,p,_,_,_=>by
  show dA x l=dA x l^^^tm 0 _;rw[bL (aY hx _),gx]
 |g::r,l,p,h,hm,hp=>by
  have Ms:=hm g ag;have hr:Gr r:=λz hz=>hm z (aa _ hz)
  have Vu:p+(r.length+1)<=l.length:=by simpa using hp
  rw[cN,mr hx (ph h Ms) hr (by rw[aq];omega),aq];show iS x 0 (l.set p (l.getD p 0^^^g))^^^_=_;rw[xk hx h Ms (by omega) (by decide),bj];congr 1;have e1:dA x (g::r)=tm g (pw x r.length)^^^dA x r:=by
   show iS x (tm 0 x^^^g) r=_;rw[bL hx,cg,iR hx Ms hr]
  have e2:l.length-1-p=r.length+(l.length-p-(r.length+1)):=by omega
  have e3:l.length-(p+1)-r.length=l.length-p-(r.length+1):=by omega
  rw[br,e1,e2,sg hx,e3,kf (aX Ms (aY hx _)) (gP hx (by decide) hr) (aY hx _),cP Ms (aY hx _) (aY hx _)]
theorem gW:∀{m l:List Nat}{p i:Nat},i<p->(cN l p m).getD i 0=l.getD i 0
 |[],_,_,_,_=>rfl
 |g::r,l,p,i,hi=>by
  rw[cN,gW (by omega),ι,ο (by omega),ι]
theorem ve (hp:p<l.length):(cN l p (g::m)).getD p 0=l.getD p 0^^^g:=by
 rw[cN,gW (by omega),ι,ω hp];rfl
noncomputable def eC (l:List Nat)(k:Nat):List Nat->List Nat->List Nat
 |[],_=>l
 |g::a,b=>eC (cN l k (mulR g b)) (k+1) a b
theorem lQ (f:Nat)(l:List Nat):(mulR f l).length=l.length:=by simp[mulR]
theorem oR:∀(a b l:List Nat) (k:Nat),(eC l k a b).length=l.length
 |[],_,_,_=>rfl
 |g::a,b,l,k=>by rw[eC,oR a,eX]
theorem rq:∀{a b l:List Nat}{k:Nat},Gr a->Gr b->Gr l->Gr (eC l k a b)
 |[],_,_,_,_,_,h=>h
 |g::a,b,l,k,ha,hb,h=>by
  rw[eC];exact rq (λz hz=>ha z (aa _ hz)) hb (iF h (lX (ha g ag) hb))
theorem pR (hx:x<64):∀{a b l:List Nat}{k:Nat},Gr a->Gr b->Gr l->0<b.length->k+a.length+b.length=l.length+1->dA x (eC l k a b)=dA x l^^^tm (dA x a) (dA x b)
 |[],b,l,k,_,hb,_,_,_=>by
  show dA x l=dA x l^^^tm 0 _;rw[bL (gP hx (by decide) hb),gx]
 |g::a,b,l,k,ha,hb,h,h0,hk=>by
  have Ms:=ha g ag;have Ox:Gr a:=λz hz=>ha z (aa _ hz)
  have N4:k+(a.length+1)+b.length=l.length+1:=by simpa using hk
  have wb:=gP hx (w:=0) (by decide) hb;have wa:=gP hx (w:=0) (by decide) Ox;have mg:=lX Ms hb;rw[eC,pR hx Ox hb (iF h mg) h0 (by rw[eX];omega),mr hx h mg (by rw[lQ];omega),yb hx Ms hb,lQ,bj];congr 1;have e1:dA x (g::a)=tm g (pw x a.length)^^^dA x a:=by
   show iS x (tm 0 x^^^g) a=_;rw[bL hx,cg,iR hx Ms Ox]
  have e2:l.length-k-b.length=a.length:=by omega
  rw[e1,e2,kf (aX Ms (aY hx _)) wa wb,ub Ms wb (aY hx _)]
noncomputable def eP (a b:List Nat):List Nat:=eC (ξ (a.length+b.length-1) 0) 0 a b
theorem fS (a b:List Nat):(eP a b).length=a.length+b.length-1:=by rw[eP,oR,bu]
theorem jX (ha:Gr a)(hb:Gr b):Gr (eP a b):=rq ha hb (fV _)
theorem qk (hx:x<64)(ha:Gr a)(hb:Gr b)(h0:0<b.length):dA x (eP a b)=tm (dA x a) (dA x b):=by
 rw[eP,pR hx ha hb (fV _) h0 (by rw[bu];omega),mT x hx,cg]
theorem mf:∀{a b l:List Nat}{k i:Nat},i<k->(eC l k a b).getD i 0=l.getD i 0
 |[],_,_,_,_,_=>rfl
 |g::a,b,l,k,i,hi=>by rw[eC,mf (by omega),gW hi]
theorem vE {g':Nat}:(eP (g::a) (g'::b)).getD 0 0=tm g g':=by
 have hl:0<(ξ ((g::a).length+(g'::b).length-1) 0).length:=by simp;omega
 rw[eP,eC,mf (by decide)];show (cN _ 0 (tm g g'::mulR g b)).getD 0 0=_;rw[ve hl];have:(ξ ((g::a).length+(g'::b).length-1) 0).getD 0 0=0:=by
  rw[ι,bv];split<;>rfl
 rw[this,cg]
noncomputable def fM (r:List Nat):List Nat->List Nat
 |[]=>r
 |n::ns=>fM (eP r [1,n]) ns
theorem eF:∀{ns r:List Nat},Gr ns->Gr r->0<r.length->r.getD 0 0=1->(fM r ns).length=r.length+ns.length/\Gr (fM r ns)/\(fM r ns).getD 0 0=1/\(∀x,x<64->dA x r=0->dA x (fM r ns)=0)/\∀x∈ns,dA x (fM r ns)=0
 |[],r,_,hr,_,h1=>⟨rfl,hr,h1,λ_ _ h=>h,λ_ h=>(nomatch h)⟩
 |n::ns,r,hn,hr,h0,h1=>by
  have Qq:=hn n ag;have hb:Gr [1,n]:=.cons (by decide) (.cons Qq .nil);have hp:=jX hr hb;have hd:(eP r [1,n]).getD 0 0=1:=by
   match r,h0,h1 with
   |g::r',_,h1=>
    have:g=1:=h1;subst this;exact vE
  obtain⟨a1,a2,a3,a4,a5⟩:=eF (ns:=ns) (r:=eP r [1,n]) (λz hz=>hn z (aa _ hz)) hp (by rw[fS];simp) hd;rw[fM];refine⟨by rw[a1,fS];simp;omega,a2,a3,λx hx hw=>a4 x hx ?_,λx Qz=>?_⟩
  .rw[qk hx hr hb (by simp),hw,bL (gP hx (by decide) hb)]
  .rcases dm.mp Qz with rfl|Qz
   .refine a4 x Qq ?_;have:dA x [1,x]=0:=by
     show tm (tm 0 x^^^1) x^^^x=0;rw[bL Qq,cg,oS Qq,gq]
    rw[qk Qq hr hb (by simp),this,hV]
   .exact a5 x Qz
noncomputable def iT (D:List Nat):Nat->Nat->List Nat->List Nat
 |0,_,l=>l
 |m+1,k,l=>iT D m (k+1) (cN l k (mulR (l.getD k 0) D))
theorem rA {D:List Nat}{c:Nat}(hD:Gr D)(We:D.length=c+1)(TJ:D.getD 0 0=1):∀(m k:Nat) {l:List Nat},Gr l->k+m+c=l.length->(∀i,i<k->l.getD i 0=0) ->
  (iT D m k l).length=l.length/\Gr (iT D m k l)/\(∀i,i<k+m->(iT D m k l).getD i 0=0)/\∀x,x<64->dA x D=0->dA x (iT D m k l)=dA x l
 |0,k,l,hl,_,hz=>⟨rfl,hl,hz,λ_ _ _=>rfl⟩
 |m+1,k,l,hl,hk,hz=>by
  have Q6:=cX hl k;have mg:=lX Q6 hD;have hz':∀i,i<k+1->(cN l k (mulR (l.getD k 0) D)).getD i 0=0:=λi hi=>by
   by_cases h:i<k
   .rw[gW h];exact hz i h
   .have:i=k:=by omega
    subst this
    match D,TJ,We with
    |g::D',TJ,_=>
     have:g=1:=TJ;subst this;show (cN l i (tm (l.getD i 0) 1::mulR (l.getD i 0) D')).getD i 0=0;rw[ve (by omega),mw Q6,gq]
  obtain⟨a1,a2,a3,a4⟩:=rA hD We TJ m (k+1) (iF hl mg) (by rw[eX];omega) hz';rw[iT];refine⟨by rw[a1,eX],a2,λi hi=>a3 i (by omega),λx hx hw=>?_⟩;rw[a4 x hx hw,mr hx hl mg (by rw[lQ,We];omega),yb hx Q6 hD,hw,hV,bL (aY hx _),gx]
theorem Bs {l:List Nat}(h:∀i,i<l.length->l.getD i 0=0):l=ξ l.length 0:=by
 apply cy
 .simp
 .intro i hi _;have:=h i hi;rw[ι,υ hi] at this;rw[List.getElem_replicate];exact this
theorem uT {a b a' b':List Nat}(h:a.length=a'.length):cZ (a++b) (a'++b')=cZ a a'++cZ b b':=List.zipWith_append h
theorem wZ:∀d:List Nat,cZ d (ξ d.length 0)=d
 |[]=>rfl
 |g::r=>by
  show (g^^^0)::cZ r (ξ r.length 0)=g::r;rw[gx,wZ r]
theorem xu:∀{n:Nat}{q:List Nat},q.length=n->cZ (ξ n 0) q=q
 |0,[],_=>rfl
 |n+1,g::r,h=>by
  show (0^^^g)::cZ (ξ n 0) r=g::r;rw[cg,xu (by simpa using h)]
 |0,_::_,h=>by simp at h
 |_+1,[],h=>by simp at h
noncomputable def vK (d:List Nat)(c:Nat):List Nat:=(iT (fM [1] (bB c)) d.length 0 (d++ξ c 0)).drop d.length
def Ad (l:List Nat)(c:Nat):Prop:=∀x∈bB c,dA x l=0
noncomputable instance (l:List Nat) (c:Nat):Decidable (Ad l c):=by unfold Ad;infer_instance
theorem xC {d:List Nat}(hd:Gr d)(c:Nat):(vK d c).length=c/\Gr (vK d c)/\Ad (d++vK d c) c:=by
 obtain⟨n1,n2,n3,_,n5⟩:=eF (ns:=bB c) (r:=[1]) (dC c) (.cons (by decide) .nil) (by decide) rfl;rw[dM] at n1;have n1:(fM [1] (bB c)).length=c+1:=by rw[n1];simp;omega
 have hg:Gr (d++ξ c 0):=hd.append (fV c);obtain⟨a1,a2,a3,a4⟩:=rA (c:=c) n2 n1 n3 d.length 0 hg (by simp) (λi hi=>absurd hi (iz i));rw[ba,bu] at a1;have hl:(vK d c).length=c:=by rw[vK,gv,a1];omega
 have Ow:Gr (vK d c):=λz hz=>a2 z (ZT hz)
 refine⟨hl,Ow,λx hx=>?_⟩;have PF:=dC c x hx;have w0:=a4 x PF (n5 x hx);have e:iT (fM [1] (bB c)) d.length 0 (d++ξ c 0)=ξ d.length 0++vK d c:=by
  conv=>lhs;rw[<-ĥ d.length (iT (fM [1] (bB c)) d.length 0 (d++ξ c 0))]
  congr 1;have P0:((iT (fM [1] (bB c)) d.length 0 (d++ξ c 0)).take d.length).length=d.length:=by rw[dn,a1];omega
  have:=Bs (l:=(iT (fM [1] (bB c)) d.length 0 (d++ξ c 0)).take d.length) (λi hi=>by
   rw[P0] at hi;have:=a3 i (by omega);rw[ι] at this ⊢;rw[á,if_pos hi];exact this)
  rw[P0] at this;exact this
 rw[e,pG PF] at w0;have e2:d++vK d c=cZ (d++ξ c 0) (ξ d.length 0++vK d c):=by
  have:=uT (a:=d) (b:=ξ c 0) (a':=ξ d.length 0) (b':=vK d c) (by simp);rw[this,wZ,xu hl]
 rw[e2,xx PF (by simp[hl]) hg ((fV _).append Ow),pG PF,w0,gq]
theorem CM (hx:x<64)(h:x≠0):∀n,pw x n≠0
 |0=>by show 1≠0;decide
 |n+1=>λe=>(dI (aY hx n) hx e).elim (CM hx h n) h
end Fl64
end
section
namespace Pc.Gr
open PySem Pc Pc.Sm
noncomputable abbrev gD (gs:List Nat):List D:=gs.map λ(g:Nat)=>D.int (g:Int)
noncomputable abbrev gI (gs:List Nat):List Int:=gs.map λ(g:Nat)=>(g:Int)
theorem rZ (gs:List Nat):gD gs=(gI gs).map D.int:=by rw[bh];rfl
theorem sJ (gs:List Nat):D.Mk (gD gs)=ζ:=by rw[rZ];exact oP _
theorem iY (a b:List Nat):gD (a++b)=gD a++gD b:=gj ..
theorem cD (a:List Nat):(gD a).length=a.length:=aj ..
noncomputable abbrev oG (gs:List Nat):Slot:=θ (.lst (gD gs),.own)
theorem CJ {gs:List Nat}{i:Nat}(h:i<gs.length):(gD gs)[i]? = θ (.int ((gs.getD i 0:Nat):Int)):=by
 rw[π,ι,υ h];rfl
theorem nO {gs:List Nat}{i:Nat}(h:i<gs.length):Jj (.lst (gD gs)) (.int (i:Int))=θ (.int ((gs.getD i 0:Nat):Int)):=by
 show (Pc.kH (gD gs).length (i:Int)).bind (λj=>(gD gs)[j]?)=_;rw[mQ (by rw[cD];exact h)];exact CJ h
theorem Jf (gs:List Nat)(i g:Nat):(gD gs).set i (.int (g:Int))=gD (gs.set i g):=by rw[gD,gD,List.map_set]
def nu (T:Tb)(t:Nat):Prop:=∀a b:Nat,b<64->T.cl t [.int (a:Int),.int (b:Int)]=.ok (.int ((Fl64.tm a b:Nat):Int),ζ)
noncomputable def Lh (t:Nat):aU:=(.cons (.ite (.cmp .Eq (.bin .Mod LK Ly) Lz) (.cons (.asg (.nm 2) (.call t (L6 LL LM)) ε)
  .nil) .nil)
  (.cons (.asg (.nm 3) (.call t (L6 LM LM)) ε)
  (.cons (.asg (.nm 4) (.bin .FloorDiv LK Ly) ε)
  .nil)))
noncomputable def JA (t:Nat):aU:=(.cons (.asg (.nm 2) Lz ε)
  (.cons (.asg (.nm 3) LN ε)
  (.cons (.asg (.nm 4) LO ε)
  (.cons (.Qd (.cmp .Gt LK LA) (Lh t))
  (.cons (.ret LL)
  .nil)))))
noncomputable def Kl (t:Nat):aU:=(.cons (.asg (.nm 2) (.bin .BitXor (.call t (L6 LL LO)) LM) ε)
  .nil)
noncomputable def K4 (t:Nat):aU:=(.cons (.asg (.nm 2) LA ε)
  (.cons (.Mg (.nm 3) (.seq LN) (Kl t))
  (.cons (.ret LL)
  .nil)))
noncomputable abbrev enD (k:Nat)(gs:List Nat):List D:=(gs.zipIdx k).map λ(q:Nat×Nat)=>D.tup [.int (q.2:Int),.int (q.1:Int)]
theorem HA (gs:List Nat):((gD gs).zipIdx.map λ(q:D×Nat)=>D.tup [.int q.2,q.1])=enD 0 gs:=by
 rw[gD,List.zipIdx_map,bh];rfl
noncomputable def AL (t x p i j f:Nat):aU:=(.cons (.MD x .none (.bin .Add (.var p) (.var i)) (.bin .BitXor (.ix (.var x) (.bin .Add (.var p) (.var i))) (.call t (L6 (.var f) (.var j)))))
  .nil)
noncomputable def W8 (t:Nat):aU:=(.cons (.Mg (.tp [5,6]) (.enum LO) (AL t 2 3 5 6 4))
  .nil)
noncomputable def Zb (t:Nat):aU:=(.cons (.asg (.nm 2) (.bin .Mult (.lst (L5 LA)) (.bin .Sub (.bin .Add (L9 LN) (L9 LO)) Lz)) ε)
  (.cons (.Mg (.tp [3,4]) (.enum LN) (W8 t))
  (.cons (.ret LL)
  .nil)))
theorem tT:∀n:Nat,(ξ n [D.int 0]).flatten=gD (ξ n 0)
 |0=>rfl
 |n+1=>by
  rw[dq,dw,tT n,dq];rfl
theorem mJ (n:Nat)(hn:n<=1000):qa .Mult (.lst [.int 0]) (.int (n:Int))=θ (.lst (gD (ξ n 0))):=by
 have h : -(2 ^ 63:Int)<=(n:Int)/\(n:Int)<2 ^ 63:=⟨by omega,by omega⟩;have hf:D.Mk [D.int 0]=ζ:=rfl;simp only[qa];rw[if_pos h,if_pos hf,ey,tT];unfold ck;rw[if_pos (j7 (by simp;omega))]
theorem fK (gs:List Nat):lK .len [.lst (gD gs)]=θ (.int (gs.length:Int)):=by
 show θ (D.int ((gD gs).length:Int))=_;rw[cD]
def E5 (T:Tb)(rp:Nat):Prop:=∀a b:List Nat,Fl64.Gr a->Fl64.Gr b->0<b.length->a.length+b.length<=1000->T.cl rp [.lst (gD a),.lst (gD b)]=.ok (.lst (gD (Fl64.eP a b)),ζ)
noncomputable def W9 (rp:Nat):aU:=(.cons (.asg (.nm 1) (.call rp (L6 LO (.lst (L6 Lz LL)))) ε)
  .nil)
noncomputable def Zc (rp:Nat):aU:=(.cons (.asg (.nm 1) (.lst (L5 Lz)) ε)
  (.cons (.Mg (.nm 2) (.seq LN) (W9 rp))
  (.cons (.ret LO)
  .nil)))
def C4 (T:Tb)(pw:Nat):Prop:=∀a k:Nat,a<64->k<2 ^ 40->T.cl pw [.int (a:Int),.int (k:Int)]=.ok (.int ((Fl64.pw a k:Nat):Int),ζ)
noncomputable def Zm (pw:Nat):aU:=(.cons (.ret (.comp 1 [] (.nm 0) (.OF Lz (.bin .Add LN Lz)) .none (.call pw (L6 Ly LN))))
  .nil)
theorem fQ:∀(m a:Nat),dZ (a:Int) 1 m=(ZS a m).map λ(k:Nat)=>D.int (k:Int)
 |0,a=>rfl
 |m+1,a=>by
  rw[dZ,ŏ,bo,<-fQ m (a+1)];congr 2
def yX (T:Tb)(cn:Nat):Prop:=∀c:Nat,c<=900->T.cl cn [.int (c:Int)]=.ok (.lst (gD (Fl64.bB c)),ζ)
def vp (T:Tb)(wa:Nat):Prop:=∀(gs:List Nat) (x:Nat),x<64->T.cl wa [.lst (gD gs),.int (x:Int)]=.ok (.int ((Fl64.dA x gs:Nat):Int),ζ)
noncomputable def eIC (cn wa:Nat):Ex:=.comp 1 [0] (.nm 0) (.seq (.call cn (L5 LO))) .none (.cmp .Eq (.call wa (L6 LO LN)) LA)
noncomputable def Zi (cn wa:Nat):aU:=(.cons (.ret (.blt .all (.cons (eIC cn wa) .nil)))
  .nil)
theorem tM:∀(bs:List Bool),(bs.map D.bl).all D.Ny=ζ/\allB (bs.map D.bl)=θ (bs.all id)
 |[]=>⟨rfl,rfl⟩
 |b::r=>by
  obtain⟨h1,h2⟩:=tM r;refine⟨by simp[D.Ny],?_⟩;cases b
  .rfl
  .show allB (r.map D.bl)=_;rw[h2];simp
def EN (T:Tb)(rn:Nat):Prop:=∀ns:List Nat,Fl64.Gr ns->ns.length<=900->T.cl rn [.lst (gD ns)]=.ok (.lst (gD (Fl64.fM [1] ns)),ζ)
noncomputable def Xe (t:Nat):aU:=(.cons (.asg (.nm 5) (.ix LM LK) ε)
  (.cons (.Mg (.tp [6,7]) (.enum LL) (AL t 3 4 6 7 5))
  .nil))
noncomputable def Zo (t rn cn:Nat):aU:=(.cons (.asg (.nm 2) (.call rn (L5 (.call cn (L5 LO)))) ε)
  (.cons (.asg (.nm 3) (.bin .Add (.blt .list (L5 LN)) (.bin .Mult (.lst (L5 LA)) LO)) ε)
  (.cons (.Mg (.nm 4) (.Mo (L9 LN)) (Xe t))
  (.cons (.ret (.sl LM (.some (L9 LN)) .none))
  .nil))))
theorem E6 (l:List Nat)(n:Nat)(h:n<=l.length):Fi (.lst (gD l)) (θ (n:Int)) η=θ (.lst (gD (l.drop n))):=by
 have:cut (gD l) (θ (n:Int)) η=(gD l).drop n:=by
  unfold cut lZ;simp only;rw[if_neg (by omega),ey,cD,Í h,i9];rw[gv,cD];exact au _
 show θ (D.lst (cut (gD l) (θ (n:Int)) η))=_;rw[this];show θ (D.lst (List.drop n (l.map λ(g:Nat)=>D.int (g:Int))))=θ (D.lst ((l.drop n).map λ(g:Nat)=>D.int (g:Int)));rw[ŵ]
end Pc.Gr
end
section
namespace Fl64
end Fl64
namespace Pc.Lw
open PySem Pc Pc.Sm Pc.Gr
noncomputable def bWh:aU:=(.cons (.ret (.and (.blt (.Q1 "int") (L5 LN)) (.not (.blt (.Q1 "bool") (L5 LN)))))
  .nil)
noncomputable def Zl:aU:=(.cons (.ite (.cmp .Lt LO (L9 LN)) (.cons (.ret (.ix LN LO))
  .nil) .nil)
  (.cons (.ret (.bin .Mult (LJ 1000003) (.bin .Add LO Lz)))
  .nil))
theorem FH (ns:List Int):lK .len [.lst (ns.map D.int)]=θ (.int (ns.length:Int)):=by
 show θ (D.int ((ns.map D.int).length:Int))=_;rw[aj]
theorem KN {ns:List Int}{k:Nat}(h:k<ns.length):Jj (.lst (ns.map D.int)) (.int (k:Int))=θ (.int ns[k]):=by
 show (Pc.kH (ns.map D.int).length (k:Int)).bind (λj=>(ns.map D.int)[j]?)=_;rw[mQ (by rw[aj];exact h)];simp[h]
noncomputable def Ze:aU:=(.cons (.asg (.nm 2) (.bin .Mod (.bin .Mult (.bin .Add (.bin .Add (.bin .Mod LN (LJ 2147483647)) (.bin .Mult (LJ 7919) LO)) Lz) (LJ 48271)) (LJ 2147483647)) ε)
  (.cons (.ret (.bin .FloorDiv (.bin .Mod (.bin .Mult LL (.bin .Add (.bin .Mod LL (LJ 1009)) Lz)) (LJ 2147483629)) LB))
  .nil))
def Gj (T:Tb)(mx:Nat):Prop:=∀c k:Int,∃v:Int,0<=v/\T.cl mx [.int c,.int k]=.ok (.int v,ζ)
noncomputable def eRw:Ex:=.comp 1 [] (.nm 0) (.Mo LO) .none (.bin .Mod (.bin .Mult (LJ 7) LN) LC)
noncomputable def W7 (mx:Nat):aU:=(.cons (.MD 3 .none (.bin .Mod LL LO) (.bin .BitXor (.ix LM (.bin .Mod LL LO)) (.bin .Mod (.bin .FloorDiv (.call mx (L6 (.ix LN LL) LL)) (LJ 97)) LC)))
  .nil)
noncomputable def Za (mx:Nat):aU:=(.cons (.asg (.nm 3) eRw ε)
  (.cons (.Mg (.nm 2) (.Mo (L9 LN)) (W7 mx))
  (.cons (.ret LM)
  .nil)))
def Kn (T:Tb)(ce:Nat):Prop:=∀(ns:List Int) (k:Nat),∃v:Int,T.cl ce [.lst (ns.map D.int),.int (k:Int)]=.ok (.int v,ζ)
end Pc.Lw
end
section
variable {x:Nat}
namespace Fl64
noncomputable def sm:List (Nat×Nat)->Nat->Nat
 |[],_=>0
 |p::r,j=>tm p.1 (pw p.2 j)^^^sm r j
def Pr (l:List (Nat×Nat)):Prop:=∀p∈l,p.1<64/\p.2<64
noncomputable def Hv (x:Nat)(l:List (Nat×Nat)):List (Nat×Nat):=l.map λp=>(tm p.1 (p.2^^^x),p.2)
theorem IV (hx:x<64){l:List (Nat×Nat)}(h:Pr l):Pr (Hv x l):=λp hp=>by
 obtain⟨q,hq,rfl⟩:=Δ.mp hp;exact⟨aX (h q hq).1 (aP (h q hq).2 hx),(h q hq).2⟩
theorem CQ {e y P:Nat}(he:e<64)(hy:y<64)(hx:x<64)(hP:P<64):tm (tm e (y^^^x)) P=tm e (tm P y)^^^tm x (tm e P):=by
 rw[cP he (aP hy hx) hP,dB (aP hy hx) hP,j8,j8];rw[dB hx (aX he hP),cP he hP hx]
theorem CD (hx:x<64):∀{l:List (Nat×Nat)},Pr l->∀j,sm (Hv x l) j=sm l (j+1)^^^tm x (sm l j)
 |[],_,j=>by show 0=0^^^tm x 0;rw[hV];rfl
 |p::r,h,j=>by
  have ih:=CD hx (l:=r) (λq hq=>h q (aa _ hq)) j;obtain⟨he,hy⟩:=h p ag;show tm (tm p.1 (p.2^^^x)) (pw p.2 j)^^^sm (Hv x r) j=(tm p.1 (tm (pw p.2 j) p.2)^^^sm r (j+1))^^^tm x (tm p.1 (pw p.2 j)^^^sm r j);rw[ih,CQ he hy hx (aY hy j),j8,K7]
theorem CU:∀(n:Nat) {l:List (Nat×Nat)},l.length=n->Pr l->(∀p∈l,p.2≠0)->(l.map (·.2)).Nodup->∀a,(∀j,a<=j->j<a+n->sm l j=0)->∀p∈l,p.1=0
 |0,l,hl,_,_,_,_,_=>by
  have:l=[]:=č.mp hl;subst this;exact λ_ h=>(nomatch h)
 |n+1,[],hl,_,_,_,_,_=>by simp at hl
 |n+1,q::r,hl,hp,h0,nd,a,hs=>by
  have hq:=hp q ag;have hr:Pr r:=λz hz=>hp z (aa _ hz)
  rw[bo,jy] at nd;have ih:=CU n (l:=Hv q.2 r) (by simpa[Hv] using hl) (IV hq.2 hr) (λz hz=>by
    obtain⟨y,hy,rfl⟩:=Δ.mp hz;exact h0 y (aa _ hy)) (by
    have:(Hv q.2 r).map (·.2)=r.map (·.2):=by simp[Hv]
    rw[this];exact nd.2) a (λj h1 h2=>by
    rw[CD hq.2 hr];have e1:=hs j h1 (by omega);have e2:=hs (j+1) (by omega) (by omega);have e1':tm q.1 (pw q.2 j)=sm r j:=cC e1;have e2':tm q.1 (tm (pw q.2 j) q.2)=sm r (j+1):=cC e2;rw[<-e1',<-e2',dB hq.2 (aX hq.1 (aY hq.2 j)),cP hq.1 (aY hq.2 j) hq.2,gq])
  have er:∀p∈r,p.1=0:=λp Vq=>by
   have Yu:=hr p Vq;have:=ih (tm p.1 (p.2^^^q.2),p.2) (Δ.mpr ⟨p,Vq,rfl⟩);rcases dI Yu.1 (aP Yu.2 hq.2) this with z|z
   .exact z
   .exact absurd (Δ.mpr ⟨p,Vq,cC z⟩) nd.1
  have sz:∀{l:List (Nat×Nat)},Pr l->(∀p∈l,p.1=0)->sm l a=0:=by
   intro l
   induction l with
   |nil=>intro _ _;rfl
   |cons p l ihl=>
    intro h1 h2;show tm p.1 (pw p.2 a)^^^sm l a=0;rw[ihl (λz hz=>h1 z (aa _ hz)) (λz hz=>h2 z (aa _ hz)),h2 p ag,bL (aY (h1 p ag).2 a)];rfl
  have e:=hs a (au _) (by omega);have e:tm q.1 (pw q.2 a)^^^sm r a=0:=e;rw[sz hr er,gx] at e;intro p Vt;rcases dm.mp Vt with rfl|z
  .rcases dI hq.1 (aY hq.2 a) e with z|z
   .exact z
   .exact absurd z (CM hq.2 (h0 p ag) a)
  .exact er p z
theorem zV:((ρ 63).map (pw 2)).Nodup:=by decide +kernel
theorem yB {i j:Nat}(hi:i<63)(hj:j<i):pw 2 i≠pw 2 j:=by
 have:=List.pairwise_iff_getElem.mp zV j i (by simp;omega) (by simp;omega) hj;simpa using λe=>this (by simpa using e.symm)
end Fl64
end
section
namespace Pc.Lw
open PySem Pc Pc.Sm Pc.Gr
end Pc.Lw
end
section
namespace Pc.Nw
open PySem Pc Pc.Sm Pc.Lw Pc.Gr
theorem Dl {T:Tb}{env:En}{x:Nat}{e:Ex}{a b:Int}{t:Tg}{R:Rt}(ht:Tame env)(hx:env[x]? = θ (θ (.int a,t)))(h:ev T e env=.ok (.int b,R)):bH T (.aug x .Add e) env=.nx (env.set x (θ (.int (a+b),.own))):=by
 have hi:intAt env x=θ a:=by unfold intAt;rw[hx]
 have hl:x<env.length:=by
  obtain⟨h1,_⟩:=χ.mp hx;exact h1
 rw[bH,hi];dsimp only;rw[h,bC];show rR (.nm x) ε env (.int (a+b),.mv [])=_;unfold rR;dsimp only;rw[if_pos hl,bN ht]
section
variable {T:Tb}{env:En}
theorem iH:aE T .nil env=.nx env:=by rw[aE]
theorem dY {s:St}{e:En}(h:bH T s env=.nx e):aE T (.cons s .nil) env=.nx e:=by
 rw[aE,h,cL,aE]
end
section
variable {T:Tb}{env:En}
end
end Pc.Nw
end
section
namespace Pc.Fr
open PySem Pc Pc.Sm Pc.Lw Pc.Gr Pc.Nw
end Pc.Fr
end
section
namespace Md
open Fl64
structure F where
 v:Nat
 h:v<64
theorem F.ext {a b:F}(h:a.v=b.v):a=b:=by cases a;cases b;cases h;rfl
noncomputable instance:Add F:=⟨λa b=>⟨a.v^^^b.v,aP a.h b.h⟩⟩
noncomputable instance:Mul F:=⟨λa b=>⟨tm a.v b.v,aX a.h b.h⟩⟩
noncomputable instance:OfNat F 0:=⟨⟨0,by decide⟩⟩
noncomputable instance:OfNat F 1:=⟨⟨1,by decide⟩⟩
theorem JT (a b:F):(a+b).v=a.v^^^b.v:=rfl
theorem J4 (a b:F):(a*b).v=tm a.v b.v:=rfl
theorem add_comm (a b:F):a+b=b+a:=F.ext (ø ..)
theorem add_assoc (a b c:F):a+b+c=a+(b+c):=F.ext (bj ..)
theorem mul_comm (a b:F):a*b=b*a:=F.ext (dB a.h b.h)
theorem mul_assoc (a b c:F):a*b*c=a*(b*c):=F.ext (cP a.h b.h c.h)
theorem add_zero (a:F):a+0=a:=F.ext (gx _)
theorem zero_add (a:F):0+a=a:=F.ext (cg _)
theorem oH (a:F):a+a=0:=F.ext (gq _)
theorem mul_one (a:F):a*1=a:=F.ext (mw a.h)
theorem one_mul (a:F):1*a=a:=F.ext (oS a.h)
theorem mul_zero (a:F):a*0=0:=rfl
theorem zero_mul (a:F):0*a=0:=F.ext (bL a.h)
theorem mul_add (a b c:F):a*(b+c)=a*b+a*c:=F.ext (j8 a.v b.v c.v)
theorem add_mul (a b c:F):(a+b)*c=a*c+b*c:=F.ext (kf a.h b.h c.h)
theorem kX {a b:F}(ha:a≠0)(hb:b≠0):a*b≠0:=λe=>by
 rcases dI a.h b.h (dg F.v e) with h|h
 .exact ha (F.ext h)
 .exact hb (F.ext h)
theorem zN {a b:F}(h:a+b=0):a=b:=F.ext (cC (dg F.v h))
noncomputable instance:ũ (α:=F) (· + ·):=⟨add_assoc⟩
noncomputable instance:Ū (α:=F) (· + ·):=⟨add_comm⟩
noncomputable instance:ũ (α:=F) (· * ·):=⟨mul_assoc⟩
noncomputable instance:Ū (α:=F) (· * ·):=⟨mul_comm⟩
noncomputable instance:DecidableEq F:=λa b=>if h:a.v=b.v then .isTrue (F.ext h) else .isFalse λe=>h (dg F.v e)
noncomputable def sum:Nat->(Nat->F)->F
 |0,_=>0
 |n+1,f=>sum n f+f n
theorem aJ:∀{n:Nat}{f g:Nat->F},(∀i,i<n->f i=g i)->sum n f=sum n g
 |0,_,_,_=>rfl
 |n+1,f,g,h=>by rw[sum,sum,aJ λi hi=>h i (by omega),h n (by omega)]
theorem cO:∀{n:Nat}{f:Nat->F},(∀i,i<n->f i=0)->sum n f=0
 |0,_,_=>rfl
 |n+1,f,h=>by rw[sum,cO λi hi=>h i (by omega),h n (by omega),add_zero]
theorem sum_add:∀(n:Nat) (f g:Nat->F),sum n (λi=>f i+g i)=sum n f+sum n g
 |0,_,_=>(add_zero 0).symm
 |n+1,f,g=>by rw[sum,sum,sum,sum_add n];ac_rfl
theorem gS (a:F):∀(n:Nat) (f:Nat->F),a*sum n f=sum n λi=>a*f i
 |0,_=>rfl
 |n+1,f=>by rw[sum,sum,mul_add,gS a n]
theorem w9 (n:Nat)(f:Nat->F)(a:F):sum n f*a=sum n λi=>f i*a:=by
 rw[mul_comm,gS];exact aJ λi _=>mul_comm ..
theorem vh (m:Nat):∀(n:Nat) (f:Nat->Nat->F),sum m (λi=>sum n (f i))=sum n λj=>sum m λi=>f i j
 |0,f=>cO λ_ _=>rfl
 |n+1,f=>by
  rw[sum,<-vh m n f,<-sum_add];rfl
variable {f:Nat->F}
theorem gB {n:Nat}:∀{m:Nat},n<=m->(∀i,n<=i->i<m->f i=0)->sum m f=sum n f
 |0,h,_=>by rw[k_.mp h]
 |m+1,h,z=>by
  by_cases e:n=m+1
  .rw[e]
  .rw[sum,z m (by omega) (by omega),add_zero];exact gB (by omega) λi a b=>z i a (by omega)
theorem cH:∀(n:Nat) (f:Nat->F),sum (n+1) f=f 0+sum n λi=>f (i+1)
 |0,f=>by show 0+f 0=f 0+0;rw[zero_add,add_zero]
 |n+1,f=>by rw[sum,cH n,sum,add_assoc]
variable {k n:Nat}
theorem Ef (hk:k<n)(z:∀i,i<n->i≠k->f i=0):sum n f=f k:=by
 rw[gB (n:=k+1) (by omega) λi a b=>z i b (by omega),sum,cO λi h=>z i (by omega) (by omega),zero_add]
noncomputable def at' (g:Nat->F)(n k:Nat):F:=if k<=n then g (n-k) else 0
noncomputable def conv (f g:Nat->F)(n:Nat):F:=sum (n+1) λj=>f j*g (n-j)
theorem DS (f g:Nat->F){n M:Nat}(h:n<M):conv f g n=sum M λj=>f j*at' g n j:=by
 rw[gB (n:=n+1) (by omega) λi a b=>by rw[at',if_neg (by omega),mul_zero]];exact aJ λi hi=>by rw[at',if_pos (by omega)]
theorem uW (f g t:Nat->F)(n:Nat):conv f (conv g t) n=sum (n+1) λj=>sum (n+1) λi=>f j*(g i*(if i+j<=n then t (n-(i+j)) else 0)):=by
 refine aJ λj hj=>?_
 rw[DS g t (n:=n-j) (M:=n+1) (by omega),gS];refine aJ λi hi=>?_
 unfold at';by_cases h:i+j<=n
 .rw[if_pos h,if_pos (by omega)];congr 2;congr 1;omega
 .rw[if_neg h,if_neg (by omega)]
theorem yN (f g t:Nat->F)(n:Nat):conv f (conv g t) n=conv g (conv f t) n:=by
 rw[uW,uW,vh];refine aJ λi hi=>aJ λj hj=>?_
 rw[õ i j];generalize (if j+i<=n then t (n-(j+i)) else 0)=y
 ac_rfl
theorem yh:∀(n:Nat) (f:Nat->F),sum n f=sum n λi=>f (n-1-i)
 |0,_=>rfl
 |n+1,f=>by
  rw[cH n (λi=>f (n+1-1-i)),sum,yh n f,add_comm];congr 1;exact aJ λi hi=>by congr 1;omega
theorem cV (f g:Nat->F)(n:Nat):conv f g n=conv g f n:=by
 unfold conv;rw[yh];refine aJ λi hi=>?_
 rw[mul_comm];congr 1<;>congr 1<;>omega
theorem jE {f' g g':Nat->F}(h1:∀j,j<=n->f j=f' j)(h2:∀j,j<=n->g j=g' j):conv f g n=conv f' g' n :=
 aJ λj hj=>by rw[h1 j (by omega),h2 (n-j) (by omega)]
theorem iK (f g t:Nat->F)(n:Nat):conv (λj=>f j+g j) t n=conv f t n+conv g t n:=by
 unfold conv;rw[<-sum_add];exact aJ λj _=>add_mul ..
theorem iM (a:F)(f t:Nat->F)(n:Nat):conv (λj=>a*f j) t n=a*conv f t n:=by
 unfold conv;rw[gS];exact aJ λj _=>mul_assoc ..
noncomputable def sh (f:Nat->F):Nat->F
 |0=>0
 |n+1=>f n
theorem kq (f t:Nat->F)(n:Nat):conv (sh f) t (n+1)=conv f t n:=by
 unfold conv;rw[cH];show 0*_+_=_;rw[zero_mul,zero_add];exact aJ λi hi=>by show f i*_=_;congr 2;omega
theorem pB (f t:Nat->F):conv (sh f) t 0=0:=by
 show 0+sh f 0*_=0;rw[zero_add];exact zero_mul _
structure Goes (t C:Nat->F)(L n:Nat):Prop where
 one:C 0=1
 NG:∀j,L<j->C j=0
 Nq:∀k,L<=k->k<n->conv C t k=0
variable {C t:Nat->F}{L:Nat}
theorem Ie {C':Nat->F}{L':Nat}(g:Goes t C L n)(hd:conv C t n≠0)(g':Goes t C' L' (n+1)):n+1<=L+L':=by
 refine gi λh=>hd ?_
 have e:conv C' (conv C t) n=conv C t n:=by
  show sum (n+1) _=_;rw[cH,g'.one,one_mul,cO λi hi=>?_,add_zero];rfl;by_cases hL:i+1<=L'
  .rw[g.Nq (n-(i+1)) (by omega) (by omega),mul_zero]
  .rw[g'.NG _ (by omega),zero_mul]
 have e':conv C (conv C' t) n=0:=by
  refine cO λi hi=>?_
  by_cases hL:i<=L
  .rw[g'.Nq (n-i) (by omega) (by omega),mul_zero]
  .rw[g.NG _ (by omega),zero_mul]
 rw[<-e,yN,e']
structure Bm (t C f:Nat->F)(L:Nat)(b:F)(n:Nat):Prop where
 go:Goes t C L n
 le:L<=n
 NG:∀j,n-L<j->f j=0
 Nq:∀k,n-L<=k->k+1<n->conv f t k=0
 Qv:∀k,n-L<=k->k+1=n->conv f t k=b
 ne:b≠0
theorem Bm.init (t C f:Nat->F)(h0:C 0=1)(h:∀j,0<j->C j=0)(hf:∀j,0<j->f j=0):Bm t C f 0 1 0 where
 go:=⟨h0,h,λk _ h=>absurd h (iz k)⟩
 le:=au 0
 NG:=hf
 Nq:=λk _ h=>absurd h (iz _)
 Qv:=λk _ h=>absurd h (by omega)
 ne:=by decide
theorem Bm.same {b:F}(B:Bm t C f L b n)(h:conv C t n=0):Bm t C (sh f) L b (n+1) where
 go:=⟨B.go.one,B.go.NG,λk a c=>by
  by_cases e:k=n
  .rw[e,h]
  .exact B.go.Nq k a (by omega)⟩
 le:=by have:=B.le;omega
 NG:=λj hj=>by
  cases j with
  |zero=>rfl
  |succ j=>exact B.NG j (by have:=B.le;omega)
 Nq:=λk a c=>by
  cases k with
  |zero=>exact pB ..
  |succ k=>rw[kq];exact B.Nq k (by have:=B.le;omega) (by omega)
 Qv:=λk a c=>by
  cases k with
  |zero=>exact absurd a (by have:=B.le;omega)
  |succ k=>rw[kq];exact B.Qv k (by have:=B.le;omega) (by omega)
 ne:=B.ne
noncomputable def Aa (C f:Nat->F)(a:F):Nat->F:=λj=>C j+a*sh f j
variable {d:F}
theorem Bm.Qc {b a:F}(B:Bm t C f L b n)(hd:conv C t n=d)(ha:a*b=d)(M:Nat)(h1:L<=M)(h2:n+1-L<=M):Goes t (Aa C f a) M (n+1) where
 one:=by show C 0+a*0=1;rw[mul_zero,add_zero];exact B.go.one
 NG:=λj hj=>by
  show C j+a*sh f j=0;rw[B.go.NG j (by omega),zero_add];cases j with
  |zero=>rfl
  |succ j=>show a*f j=0;rw[B.NG j (by omega),mul_zero]
 Nq:=λk a' c=>by
  unfold Aa;rw[iK,iM];cases k with
  |zero=>exact absurd h2 (by have:=B.le;omega)
  |succ k=>
   rw[kq];by_cases e:k+1=n
   .rw[e,hd,B.Qv k (by omega) e,ha,oH]
   .rw[B.go.Nq _ (by omega) (by omega),B.Nq k (by omega) (by omega),mul_zero,add_zero]
theorem Bm.longer {b a:F}(B:Bm t C f L b n)(hd:conv C t n=d)(h0:d≠0)(ha:a*b=d)(h:2*L<=n):Bm t (Aa C f a) C (n+1-L) d (n+1) where
 go:=B.Qc hd ha _ (by omega) (by omega)
 le:=by omega
 NG:=λj hj=>B.go.NG j (by omega)
 Nq:=λk a c=>B.go.Nq k (by omega) (by omega)
 Qv:=λk a c=>by rw[show k=n by omega,hd]
 ne:=h0
theorem Bm.kept {b a:F}(B:Bm t C f L b n)(hd:conv C t n=d)(ha:a*b=d)(h:¬ 2*L<=n):Bm t (Aa C f a) (sh f) L b (n+1) where
 go:=B.Qc hd ha _ (by omega) (by omega)
 le:=by have:=B.le;omega
 NG:=λj hj=>by
  cases j with
  |zero=>rfl
  |succ j=>exact B.NG j (by have:=B.le;omega)
 Nq:=λk a c=>by
  cases k with
  |zero=>exact pB ..
  |succ k=>rw[kq];exact B.Nq k (by have:=B.le;omega) (by omega)
 Qv:=λk a c=>by
  cases k with
  |zero=>exact absurd a (by have:=B.le;omega)
  |succ k=>rw[kq];exact B.Qv k (by have:=B.le;omega) (by omega)
 ne:=B.ne
variable {R:Nat->F}{w:Nat}
theorem Bm.least {N:Nat}{b:F}(B:Bm t C f L b n)(hd:conv C t n≠0)(R':Goes t R w N)(hN:n+1<=N):n+1-L<=w:=by
 have:=Ie B.go hd (C':=R) (L':=w) ⟨R'.one,R'.NG,λk a c=>R'.Nq k a (by omega)⟩;omega
noncomputable def gL (x:F):Nat->F
 |0=>1
 |n+1=>gL x n*x
theorem lq (x:F)(m:Nat):∀n,gL x (m+n)=gL x m*gL x n
 |0=>(mul_one _).symm
 |n+1=>by show gL x (m+n)*x=gL x m*(gL x n*x);rw[lq x m n,mul_assoc]
theorem AJ {x:F}(h:x≠0):∀n,gL x n≠0
 |0=>by show (1:F)≠0;decide
 |n+1=>kX (AJ h n) h
noncomputable def wo (f:Nat->F)(n:Nat)(x:F):F:=sum n λj=>f j*gL x (n-1-j)
theorem xA (f:Nat->F)(n:Nat)(x:F):wo f (n+1) x=wo f n x*x+f n:=by
 show sum n _+_=_;unfold wo;rw[w9];congr 1
 .refine aJ λj hj=>?_
  rw[mul_assoc];congr 1;show gL x (n+1-1-j)=gL x (n-1-j+1);congr 1;omega
 .show f n*gL x (n+1-1-n)=f n;rw[show n+1-1-n=0 by omega];exact mul_one _
theorem xo {n:Nat}{x:F}:∀{m:Nat},n<=m->(∀j,n<=j->j<m->f j=0)->wo f m x=wo f n x*gL x (m-n)
 |0,h,_=>by rw[k_.mp h];exact (mul_one _).symm
 |m+1,h,z=>by
  by_cases e:n=m+1
  .rw[e,jw];exact (mul_one _).symm
  .rw[xA,z m (by omega) (by omega),add_zero,xo (m:=m) (by omega) λj a b=>z j a (by omega),mul_assoc];congr 1;show gL x (m-n+1)=_;congr 1;omega
theorem Jw (f:Nat->F)(n:Nat)(x:F):wo (sh f) (n+1) x=wo f n x:=by
 unfold wo;rw[cH];show 0*_+_=_;rw[zero_mul,zero_add];exact aJ λi hi=>by show f i*_=_;congr 2;omega
theorem B7 (f g:Nat->F)(n:Nat)(x:F):wo (λj=>f j+g j) n x=wo f n x+wo g n x:=by
 unfold wo;rw[<-sum_add];exact aJ λj _=>add_mul ..
theorem wU (a:F)(f:Nat->F)(n:Nat)(x:F):wo (λj=>a*f j) n x=a*wo f n x:=by
 unfold wo;rw[gS];exact aJ λj _=>mul_assoc ..
theorem A0 {g:Nat->F}{x:F}(h:∀j,j<n->f j=g j):wo f n x=wo g n x:=aJ λj hj=>by rw[h j hj]
noncomputable def eR:List F->Nat->F
 |[],n=>if n=0 then 1 else 0
 |x::l,n=>eR l n+x*sh (eR l) n
theorem oB:∀(l:List F) {j:Nat},l.length<j->eR l j=0
 |[],j,h=>if_neg (by simp at h;omega)
 |x::l,j,h=>by
  simp only[br] at h;show eR l j+x*sh (eR l) j=0;rw[oB l (by omega),zero_add];cases j with
  |zero=>rfl
  |succ j=>show x*eR l j=0;rw[oB l (by omega),mul_zero]
theorem xc:∀(l:List F),eR l 0=1
 |[]=>rfl
 |x::l=>by show eR l 0+x*0=1;rw[xc l,mul_zero,add_zero]
noncomputable def dist (x:F):List F->F
 |[]=>1
 |y::l=>dist x l*(x+y)
theorem xR (x:F):∀(l:List F),wo (eR l) (l.length+1) x=dist x l
 |[]=>by show 0+1*1=1;rw[zero_add,mul_one]
 |y::l=>by
  show wo (λj=>eR l j+y*sh (eR l) j) (l.length+1+1) x=dist x l*(x+y);rw[B7,wU,Jw,xA,oB l (ja _),add_zero,xR x l,mul_add,mul_comm y]
theorem rB {x:F}:∀{l:List F},x∉l->dist x l≠0
 |[],_=>by show (1:F)≠0;decide
 |y::l,h=>kX (rB λe=>h (aa _ e)) λe=>h (by rw[zN e];exact ag)
theorem ky {x:F}:∀{l:List F},x∈l->dist x l=0
 |y::l,h=>by
  show dist x l*(x+y)=0;rcases dm.mp h with rfl|h
  .rw[oH,mul_zero]
  .rw[ky h,zero_mul]
theorem CS (f g:Nat->F):∀n,sh (λj=>f j+g j) n=sh f n+sh g n
 |0=>(add_zero 0).symm
 |n+1=>rfl
theorem CP (a:F)(f:Nat->F):∀n,sh (λj=>a*f j) n=a*sh f n
 |0=>rfl
 |n+1=>rfl
theorem yD {l m:List F}(h:l.Perm m):eR l=eR m:=by
 induction h with
 |nil=>rfl
 |cons x _ ih=>funext n;show eR _ n+x*sh (eR _) n=_;rw[ih];rfl
 |swap x y l=>
  funext n;show (eR l n+x*sh (eR l) n)+y*sh (λj=>eR l j+x*sh (eR l) j) n=(eR l n+y*sh (eR l) n)+x*sh (λj=>eR l j+y*sh (eR l) j) n;rw[CS,CS,CP,CP,mul_add,mul_add,<-mul_assoc,<-mul_assoc,mul_comm y x]
  ac_rfl
 |trans _ _ a b=>rw[a,b]
noncomputable def ps:List (F×F)->Nat->F
 |[],_=>0
 |p::l,j=>p.1*gL p.2 j+ps l j
noncomputable def lsum:List F->F
 |[]=>0
 |a::l=>a+lsum l
theorem yl (j:Nat):∀(l:List (F×F)),ps l j=lsum (l.map λp=>p.1*gL p.2 j)
 |[]=>rfl
 |p::l=>by show _+_=_+_;rw[yl j l]
theorem kl (g:Nat->F)(h:∀j,j<=n->f j=0):conv f g n=0:=cO λj hj=>by rw[h j (by omega),zero_mul]
variable {G:Nat->F}
theorem zb (x:F){m:Nat}(hG:∀j,m<j->G j=0)(k:Nat):conv (λj=>gL x (j+1)) G (m+k)=gL x (k+1)*wo G (m+1) x:=by
 rw[cV];unfold conv wo;rw[gB (n:=m+1) (by omega) λi a b=>by rw[hG i (by omega),zero_mul],gS];refine aJ λj hj=>?_
 show G j*gL x (m+k-j+1)=_;rw[show m+k-j+1=(k+1)+(m+1-1-j) by omega,lq]
 ac_rfl
theorem freed {m:Nat}(hG:∀j,m<j->G j=0)(k:Nat):∀(es:List (F×F)),conv (λj=>ps es (j+1)) G (m+k)=ps (es.map λp=>(p.1*(p.2*wo G (m+1) p.2),p.2)) k
 |[]=>kl G λ_ _=>rfl
 |p::l=>by
  show conv (λj=>p.1*gL p.2 (j+1)+ps l (j+1)) G (m+k)=p.1*(p.2*wo G (m+1) p.2)*gL p.2 k+ps _ k;rw[iK,iM,zb p.2 hG,freed hG k l];congr 1;show p.1*(gL p.2 k*p.2*wo G (m+1) p.2)=_
  ac_rfl
theorem Aj (x:F)(l:List F):∀k,conv (λj=>gL x (j+1)) (eR (x::l)) k=x*eR l k:=by
 have h:∀(f:Nat->F) k,conv f (λj=>gL x (j+1)) (k+1)=x*conv f (λj=>gL x (j+1)) k+f (k+1)*x:=λf k=>by
  show sum (k+1) _+f (k+1)*gL x (k+1-(k+1)+1)=_;rw[jw,show gL x (0+1)=x from one_mul x];unfold conv;rw[gS];congr 1;refine aJ λj hj=>?_
  show f j*gL x (k+1-j+1)=x*(f j*gL x (k-j+1));rw[show k+1-j+1=(k-j+1)+1 by omega];show f j*(gL x (k-j+1)*x)=_
  ac_rfl
 intro k;rw[cV];show conv (λj=>eR l j+x*sh (eR l) j) _ k=_;rw[iK,iM];cases k with
 |zero=>
  rw[pB,mul_zero,add_zero];show 0+eR l 0*(1*x)=_;rw[zero_add,one_mul,mul_comm]
 |succ k=>
  rw[kq,h];generalize x*conv (eR l) (λj=>gL x (j+1)) k=y;rw[add_comm y,add_assoc,oH,add_zero,mul_comm]
theorem heads (ls:List F):∀(es:List (F×F)),(∀p∈es,p.2∈ls)->∀k,conv (λj=>ps es (j+1)) (eR ls) k=lsum (es.map λp=>p.1*(p.2*eR (ls.erase p.2) k))
 |[],_,k=>kl _ λ_ _=>rfl
 |p::l,h,k=>by
  show conv (λj=>p.1*gL p.2 (j+1)+ps l (j+1)) _ k=p.1*(p.2*eR (ls.erase p.2) k)+lsum _;rw[iK,iM,heads ls l (λq hq=>h q (aa _ hq)),yD (List.perm_cons_erase (h p ag)),Aj]
theorem Dg (n:Nat)(x:F):wo (λ_=>0) n x=0:=cO λ_ _=>zero_mul _
theorem uX {ls:List F}(x:F)(h0:ls≠[]):∀(es:List (F×F)),(∀p∈es,p.2∈ls)->wo (λk=>lsum (es.map λp=>p.1*(p.2*eR (ls.erase p.2) k))) ls.length x=lsum (es.map λp=>p.1*(p.2*dist x (ls.erase p.2)))
 |[],_=>Dg _ _
 |p::l,h=>by
  show wo (λk=>p.1*(p.2*eR (ls.erase p.2) k)+lsum (l.map _)) ls.length x=p.1*(p.2*_)+lsum _;rw[B7,wU,wU,uX x h0 l λq hq=>h q (aa _ hq)];have e:ls.length=(ls.erase p.2).length+1:=by
   rw[List.length_erase_of_mem (h p ag)];have:0<ls.length:=List.length_pos_iff.mpr h0;omega
  conv=>lhs;lhs;rw[e]
  rw[xR]
theorem rh:∀{l:List F},(∀a∈l,a=0)->lsum l=0
 |[],_=>rfl
 |a::l,h=>by show a+lsum l=0;rw[h a ag,zero_add];exact rh λb hb=>h b (aa _ hb)
variable {es:List (F×F)}
theorem A5 {ls:List F}(hn:(es.map (·.2)).Nodup)(hnl:ls.Nodup)(h:∀p∈es,p.2∈ls){p:F×F}(hp:p∈es) :
  lsum (es.map λq=>q.1*(q.2*dist p.2 (ls.erase q.2)))=p.1*(p.2*dist p.2 (ls.erase p.2)):=by
 have z:∀q∈es,q.2≠p.2->q.1*(q.2*dist p.2 (ls.erase q.2))=0:=λq hq Oh=>by
  rw[ky ((List.mem_erase_of_ne (bw Oh)).mpr (h p hp)),mul_zero,mul_zero]
 clear h
 induction es with
 |nil=>cases hp
 |cons q l ih=>
  rw[bo,jy] at hn;show q.1*(q.2*_)+lsum _=_;rcases dm.mp hp with rfl|hp
  .rw[rh,add_zero];intro a ha;obtain⟨r,hr,rfl⟩:=Δ.mp ha;exact z r (aa _ hr) λe=>hn.1 (Δ.mpr ⟨r,hr,e⟩)
  .rw[z q ag λe=>hn.1 (Δ.mpr ⟨p,hp,e.symm⟩),zero_add];exact ih hn.2 hp λr hr=>z r (aa _ hr)
theorem Dv {N:Nat}(ht:∀k,k<N->t k=ps es k):Goes t (eR (es.map (·.2))) es.length N where
 one:=xc _
 NG:=λj hj=>oB _ (by rw[aj];exact hj)
 Nq:=λk a b=>by
  rw[jE (g':=ps es) (λ_ _=>rfl) λj hj=>ht j (by omega)];have key:∀(Pe:List (F×F)),(∀p∈Pe,p.2∈es.map (·.2))->conv (eR (es.map (·.2))) (ps Pe) k=0:=by
   intro Pe
   induction Pe with
   |nil=>exact λ_=>cO λ_ _=>mul_zero _
   |cons p l ih=>
    intro h;rw[cV];show conv (λj=>p.1*gL p.2 j+ps l j) _ k=0;rw[iK,iM,cV (ps l),ih λq hq=>h q (aa _ hq),add_zero];have hk:k=es.length+(k-es.length):=by omega
    have e:conv (gL p.2) (eR (es.map (·.2))) k=gL p.2 (k-es.length)*wo (eR (es.map (·.2))) (es.length+1) p.2:=by
     conv=>lhs;rw[hk]
     rw[cV];unfold conv wo;rw[gB (n:=es.length+1) (by omega) λi a b=>by rw[oB _ (by rw[aj];omega),zero_mul],gS];refine aJ λj hj=>?_
     rw[show es.length+(k-es.length)-j=(k-es.length)+(es.length+1-1-j) by omega,lq]
     ac_rfl
    have e2:=xR p.2 (es.map (·.2));rw[aj] at e2;rw[e,e2,ky (h p ag),mul_zero,mul_zero]
  exact key es λp hp=>Δ.mpr ⟨p,hp,rfl⟩
theorem T8 {l:List (F×F)}(h0:∀p∈l,p.2≠0)(hn:(l.map (·.2)).Nodup){a:Nat}(z:∀j,a<=j->j<a+l.length->ps l j=0):∀p∈l,p.1=0:=by
 have UJ:∀(x:F) j,(gL x j).v=pw x.v j:=λx j=>by
  induction j with
  |zero=>rfl
  |succ j ih=>show tm (gL x j).v x.v=_;rw[ih];rfl
 have Ur:∀(l:List (F×F)) j,sm (l.map λp=>(p.1.v,p.2.v)) j=(ps l j).v:=λl j=>by
  induction l with
  |nil=>rfl
  |cons p r ih=>show tm p.1.v (pw p.2.v j)^^^_=tm p.1.v (gL p.2 j).v^^^_;rw[ih,UJ]
 intro p hp;refine F.ext (CU l.length (l:=l.map λp=>(p.1.v,p.2.v)) (by simp) (λq hq=>?_) (λq hq=>?_) ?_ a (λj h1 h2=>?_) (p.1.v,p.2.v) (Δ.mpr ⟨p,hp,rfl⟩))
 .obtain⟨r,_,rfl⟩:=Δ.mp hq;exact⟨r.1.h,r.2.h⟩
 .obtain⟨r,hr,rfl⟩:=Δ.mp hq;exact λe=>h0 r hr (F.ext e)
 .rw[bh];have:(Ò ((λx=>x.2)∘λp:F×F=>(p.1.v,p.2.v)) l)=(l.map (·.2)).map F.v:=by rw[bh];rfl
  rw[this];rw[Ļ,jq];exact hn.imp λh e=>h (F.ext e)
 .rw[Ur,z j h1 h2];rfl
theorem zt {es:List (F×F)}{C:Nat->F}{N n:Nat}(ht:∀k,k<N->t k=ps es k)(h0:∀p∈es,p.2≠0)(hn:(es.map (·.2)).Nodup)(g:Goes t C L N)(hL:L<=es.length)(hN:2*es.length<=N)
  (hn1:0<n) (hnL:n<=L+1) (hC:∀j,n<=j->C j=0) {p:F×F}(hp:p∈es) (hpe:p.1≠0):wo C n p.2=0:=by
 have key:=T8 (l:=es.map λq=>(q.1*wo C (es.length+1) q.2,q.2)) (λq hq=>by obtain⟨r,hr,rfl⟩:=Δ.mp hq;exact h0 r hr) (by rw[bh];exact hn) (a:=0) (λj _ hj=>by
  simp only[aj,gn] at hj;have z:=g.Nq (es.length+j) (by omega) (by omega);rw[jE (g':=ps es) (λ_ _=>rfl) (λi hi=>ht i (by omega))] at z;rw[<-z];clear z;have gen:∀(l:List (F×F)),ps (l.map λq=>(q.1*wo C (es.length+1) q.2,q.2)) j=conv C (ps l) (es.length+j):=by
   intro l
   induction l with
   |nil=>exact (cO λ_ _=>mul_zero _).symm
   |cons q r ih=>
    show q.1*wo C (es.length+1) q.2*gL q.2 j+ps _ j=_;rw[ih,cV C (ps (q::r))];show _=conv (λi=>q.1*gL q.2 i+ps r i) C _;rw[iK,iM,cV (ps r)];congr 1;rw[mul_assoc];congr 1;rw[cV];unfold conv wo;rw[w9,gB (n:=es.length+1) (m:=es.length+j+1) (by omega) λi a b=>by rw[g.NG i (by omega),zero_mul]];refine aJ λi hi=>?_
    rw[show es.length+j-i=(es.length+1-1-i)+j by omega,lq,mul_assoc]
  exact gen es) (p.1*wo C (es.length+1) p.2,p.2) (Δ.mpr ⟨p,hp,rfl⟩)
 have z:wo C (es.length+1) p.2=0:=gi λh=>kX hpe h key
 rw[xo (n:=n) (by omega) λj a b=>hC j a] at z;exact gi λh=>kX h (AJ (h0 p hp) _) z
noncomputable def toF (n:Nat):F:=⟨n%64,jx _ (by decide)⟩
theorem m8 (h:n<64):(toF n).v=n:=Nat.mod_eq_of_lt h
theorem nV {a b:Nat}(ha:a<64)(hb:b<64):toF (a^^^b)=toF a+toF b:=F.ext (by rw[m8 (aP ha hb),JT,m8 ha,m8 hb])
theorem eO {a b:Nat}(ha:a<64)(hb:b<64):toF (tm a b)=toF a*toF b:=F.ext (by rw[m8 (aX ha hb),J4,m8 ha,m8 hb])
theorem B4:toF 0=0:=rfl
theorem rM:toF 1=1:=rfl
theorem oU {a b:Nat}(ha:a<64)(hb:b<64)(h:toF a=toF b):a=b:=by rw[<-m8 ha,<-m8 hb,h]
theorem mL {a:Nat}(ha:a<64)(h:a≠0):toF a≠0:=λe=>h (oU ha (by decide) e)
variable {x:Nat}
theorem r6 (hx:x<64):∀n,toF (pw x n)=gL (toF x) n
 |0=>rfl
 |n+1=>by show toF (tm (pw x n) x)=_;rw[eO (aY hx n) hx,r6 hx n];rfl
noncomputable def cf (l:List Nat)(j:Nat):F:=toF (l.getD j 0)
variable {j:Nat}{l:List Nat}
theorem iC (h:l.length<=j):cf l j=0:=by
 unfold cf;rw[ι,Ps h];rfl
theorem jF (l:List Nat):cf (0::l)=sh (cf l):=by
 funext j;cases j<;>rfl
theorem j0 (l:List Nat)(n:Nat):cf (l++ξ n 0)=cf l:=by
 funext j;unfold cf;congr 1;rw[ι,ι];by_cases h:j<l.length
 .rw[Ν h]
 .rw[Τ (by omega),Ps (l:=l) (by omega),bv];split<;>rfl
theorem CL {f:Nat}(hf:f<64)(h:Gr l)(j:Nat):cf (mulR f l) j=toF f*cf l j:=by
 unfold cf mulR;rw[ι,π,ι];cases q:l[j]? with
 |none=>exact (mul_zero _).symm
 |some g=>exact eO hf (h g (Κ q))
variable {p:Nat}
theorem Ip (h:Gr l){g:Nat}(hg:g<64)(hp:p<l.length)(j:Nat):cf (l.set p (l.getD p 0^^^g)) j=cf l j+if j=p then toF g else 0:=by
 unfold cf;by_cases e:j=p
 .subst e;rw[if_pos rfl,ι,ω hp,î,nV (cX h _) hg]
 .rw[if_neg e,add_zero,ι,ο (by omega),ι]
theorem oW:∀{m l:List Nat}{p:Nat},Gr l->Gr m->p+m.length<=l.length->∀j,cf (cN l p m) j=cf l j+if p<=j then cf m (j-p) else 0
 |[],l,p,_,_,_,j=>by
  show cf l j=_;rw[show (if p<=j then cf [] (j-p) else 0)=0 by split;exact iC (dh _);rfl,add_zero]
 |g::r,l,p,h,hm,hp,j=>by
  have Ms:=hm g ag;have hr:Gr r:=λz hz=>hm z (aa _ hz)
  have Vu:p+(r.length+1)<=l.length:=by simpa using hp
  rw[cN,oW (ph h Ms) hr (by rw[aq];omega),Ip h Ms (by omega),add_assoc];congr 1;by_cases e:j=p
  .subst e;rw[if_pos rfl,if_neg (by omega),if_pos (au _),jw,add_zero];rfl
  .rw[if_neg e,zero_add];by_cases h2:p+1<=j
   .rw[if_pos h2,if_pos (by omega),show j-p=(j-(p+1))+1 by omega];rfl
   .rw[if_neg h2,if_neg (by omega)]
theorem rj:∀{a b l:List Nat}{k:Nat},Gr a->Gr b->Gr l->k+a.length+b.length<=l.length+1->0<b.length->∀j,cf (eC l k a b) j=cf l j+if k<=j then conv (cf a) (cf b) (j-k) else 0
 |[],b,l,k,_,_,_,_,_,j=>by
  show cf l j=_;rw[show (if k<=j then conv (cf []) (cf b) (j-k) else 0)=0 by split;exact kl _ λ_ _=>iC (dh _);rfl,add_zero]
 |g::a,b,l,k,ha,hb,hl,h,h0,j=>by
  have Ms:=ha g ag;have Ox:Gr a:=λz hz=>ha z (aa _ hz)
  simp only[br] at h;rw[eC,rj Ox hb (iF hl (lX Ms hb)) (by rw[eX];omega) h0,oW hl (lX Ms hb) (by rw[lQ];omega),add_assoc];congr 1;by_cases e:j<k
  .rw[if_neg (by omega),if_neg (by omega),if_neg (by omega),add_zero]
  .have e1:k<=j:=by omega
   rw[if_pos e1,CL Ms hb];by_cases e2:j=k
   .subst e2;rw[if_neg (by omega),if_pos e1,add_zero,jw];show _=0+cf (g::a) 0*cf b (0-0);rw[zero_add];rfl
   .rw[if_pos (show k+1<=j by omega),if_pos e1];show _=sum (j-k+1) _;rw[cH,show j-(k+1)=j-k-1 by omega];have e3:j-k=(j-k-1)+1:=by omega
    show _=toF g*cf b (j-k)+sum (j-k) λi=>cf a i*cf b (j-k-(i+1))
    congr 1
    conv=>rhs;rw[e3]
    exact aJ λi hi=>by congr 2;omega
theorem uq (n j:Nat):cf (ξ n 0) j=0:=by
 have:=congrFun (j0 [] n) j;rw[Ä] at this;rw[this];exact iC (dh _)
variable {a b:List Nat}
theorem oJ (ha:Gr a)(hb:Gr b)(TF:0<b.length)(j:Nat):cf (eP a b) j=conv (cf a) (cf b) j:=by
 by_cases h0:a.length=0
 .rw[č.mp h0];show cf (ξ _ 0) j=_;rw[uq,kl _ λ_ _=>iC (dh _)]
 unfold eP;rw[rj ha hb (fV _) (by rw[bu];omega) TF,uq,zero_add,if_pos (dh _)];rfl
theorem rF {x:Nat}(hx:x<64)(h:Gr l):toF (dA x l)=wo (cf l) l.length (toF x):=by
 induction l with
 |nil=>rfl
 |cons g r ih=>
  have hr:Gr r:=λz hz=>h z (aa _ hz)
  have Ms:g<64:=h g ag;have e:dA x (g::r)=tm g (pw x r.length)^^^dA x r:=by
   show iS x (tm 0 x^^^g) r=_;rw[bL hx,cg,iR hx Ms hr]
  rw[e,nV (aX Ms (aY hx _)) (gP hx (by decide) hr),eO Ms (aY hx _),ih hr,r6 hx];show _=sum (r.length+1) _;rw[cH];congr 1;exact aJ λj hj=>by show cf r j*_=cf r j*_;congr 2;show _=r.length+1-1-(j+1);omega
theorem yq:∀{ns r:List Nat}{l:List F},Gr ns->Gr r->0<r.length->cf r=eR l->cf (fM r ns)=eR ((ns.map toF).reverse++l)
 |[],r,l,_,_,_,e=>e
 |n::ns,r,l,hn,hr,h0,e=>by
  have Qq:=hn n ag;have hb:Gr [1,n]:=.cons (by decide) (.cons Qq .nil);have hl:=fS r [1,n];rw[fM,yq (l:=toF n::l) (λz hz=>hn z (aa _ hz)) (jX hr hb) (by rw[hl];simp)]
  .rw[bo,List.reverse_cons,fi];rfl
  .funext j;rw[oJ hr hb (by simp),cV,e];show _=eR l j+toF n*sh (eR l) j;have:∀f:Nat->F,conv (cf [1,n]) f j=f j+toF n*sh f j:=λf=>by
    cases j with
    |zero=>show 0+cf [1,n] 0*f 0=f 0+toF n*0;rw[zero_add,mul_zero,add_zero];exact one_mul _
    |succ j=>
     unfold conv;rw[cH,show cf [1,n] 0=1 from rfl,one_mul,cH,show cf [1,n] (0+1)=toF n from rfl,cO λi _=>by rw[iC (by show 2<=i+1+1;omega),zero_mul],add_zero];rfl
   exact this _
theorem Ih:cf [1]=eR []:=by
 funext j;cases j with
 |zero=>rfl
 |succ j=>exact iC (by simp)
noncomputable def eS (nums:List Nat)(place:Nat):Nat->List Nat->Nat->Nat
 |_,[],g=>g
 |k,f::r,g=>eS nums place (k+1) r (g^^^tm f (nums.getD (place-k) 0))
variable {nums:List Nat}
theorem lJ (hn:Gr nums)(place:Nat):∀{r:List Nat}{k g:Nat},Gr r->g<64->eS nums place k r g<64
 |[],_,_,_,h=>h
 |f::r,k,g,hr,h=>by
  rw[eS];exact lJ hn place (λz hz=>hr z (aa _ hz)) (aP h (aX (hr f ag) (cX hn _)))
theorem qP (hn:Gr nums)(place:Nat):∀{r:List Nat}{k g:Nat},Gr r->g<64->toF (eS nums place k r g)=toF g+sum r.length λj=>cf r j*cf nums (place-(k+j))
 |[],_,_,_,h=>(add_zero _).symm
 |f::r,k,g,hr,h=>by
  have Q6:=hr f ag;have NI:=aX Q6 (cX hn (place-k));rw[eS,qP hn place (λz hz=>hr z (aa _ hz)) (aP h NI),nV h NI,eO Q6 (cX hn _),add_assoc];congr 1;show _=sum (r.length+1) _;rw[cH];congr 1;exact aJ λj hj=>by show cf r j*_=cf r j*_;congr 2;omega
theorem uS {r:List Nat}(hn:Gr nums)(hr:Gr r){place:Nat}(h:r.length<=place+1):toF (eS nums place 0 r 0)=conv (cf r) (cf nums) place:=by
 rw[qP hn place hr (by decide),B4,zero_add];unfold conv;rw[gB h λi a b=>by rw[iC a,zero_mul]];exact aJ λj hj=>by rw[gn]
noncomputable def Ff (row:List Nat)(f:Nat):List Nat:=row.map λg=>tm g f
variable {row:List Nat}
theorem AO {f:Nat}(h:Gr row)(hf:f<64):Gr (Ff row f):=λz hz=>by
 obtain⟨g,hg,rfl⟩:=Δ.mp hz;exact aX (h g hg) hf
theorem Jo {f:Nat}(h:Gr row)(hf:f<64)(j:Nat):cf (Ff row f) j=toF f*cf row j:=by
 have:Ff row f=mulR f row:=du λg hg=>dB (h g hg) hf
 rw[this,CL hf h]
noncomputable def CW (a b:List Nat):List Nat:=cN (a++ξ (b.length-a.length) 0) 0 b
theorem HN (ha:Gr a)(hb:Gr b):Gr (CW a b):=iF (ha.append (fV _)) hb
theorem DA (a b:List Nat):(CW a b).length=a.length+(b.length-a.length):=by rw[CW,eX,ba,bu]
theorem J8 (ha:Gr a)(hb:Gr b)(j:Nat):cf (CW a b) j=cf a j+cf b j:=by
 unfold CW;rw[oW (ha.append (fV _)) hb (by rw[ba,bu];omega),j0,if_pos (dh _)];rfl
theorem inv_one {a:Nat}(h:a<64)(h0:a≠0):tm a (pw a 62)=1:=by
 have:=aS (n:=64) (f:=λa=>a==0 || tm a (pw a 62)==1) (by decide +kernel) a h;simpa[h0] using this
structure Sr where
 rule:List Nat
 len:Nat
 fo:List Nat
 gap:Nat
noncomputable def Sr.Aa (nums:List Nat)(n:Nat)(s:Sr):List Nat:=CW s.rule (Ff (0::s.fo) (tm (eS nums n 0 s.rule 0) (pw s.gap 62)))
noncomputable def Sr.step (nums:List Nat)(n:Nat)(s:Sr):Sr :=
 if eS nums n 0 s.rule 0=0 then ⟨s.rule,s.len,0::s.fo,s.gap⟩
 else if 2*s.len<=n then ⟨s.Aa nums n,n+1-s.len,s.rule,eS nums n 0 s.rule 0⟩
 else ⟨s.Aa nums n,s.len,0::s.fo,s.gap⟩
noncomputable def nM (nums:List Nat):Nat->Sr
 |0=>⟨[1],0,[1],1⟩
 |n+1=>(nM nums n).step nums n
structure tf (nums:List Nat)(n:Nat)(s:Sr):Prop where
 gr:Gr s.rule
 gf:Gr s.fo
 gg:s.gap<64
 l0:0<s.rule.length
 lr:s.rule.length<=s.len+1
 lf:s.fo.length<=n-s.len+1
 f0:0<s.fo.length
 bm:Bm (cf nums) (cf s.rule) (cf s.fo) s.len (toF s.gap) n
variable {s:Sr}
theorem tf.ne (o:tf nums n s):s.gap≠0:=λe=>o.bm.ne (by rw[e];rfl)
theorem tf.rl (o:tf nums n s):s.rule.length<=n+1:=by have:=o.lr;have:=o.bm.le;omega
theorem Jn (h:Gr l):Gr (0::l):=.cons (by decide) h
theorem tf.step (hn:Gr nums)(o:tf nums n s):tf nums (n+1) (s.step nums n):=by
 have hle:=o.bm.le;have Ms:=lJ hn n (k:=0) o.gr (g:=0) (by decide);have gc:=uS hn o.gr o.rl;have NI:=aX Ms (aY o.gg 62);have ha:toF (tm (eS nums n 0 s.rule 0) (pw s.gap 62))*toF s.gap=toF (eS nums n 0 s.rule 0):=by
  rw[eO Ms (aY o.gg 62),mul_assoc,mul_comm (toF (pw s.gap 62)),<-eO o.gg (aY o.gg 62),inv_one o.gg o.ne,rM,mul_one]
 have hA:cf (s.Aa nums n)=Md.Aa (cf s.rule) (cf s.fo) (toF (tm (eS nums n 0 s.rule 0) (pw s.gap 62))):=by
  funext j;show cf (CW _ _) j=_;rw[J8 o.gr (AO (Jn o.gf) NI),Jo (Jn o.gf) NI,jF];rfl
 have gA:Gr (s.Aa nums n):=HN o.gr (AO (Jn o.gf) NI);have lA:(s.Aa nums n).length=s.rule.length+(s.fo.length+1-s.rule.length):=by
  show (CW _ _).length=_;rw[DA];simp[Ff]
 have lr:=o.lr;have lf:=o.lf;have l0:=o.l0;have f0:=o.f0;unfold Sr.step;split
 .rename_i h;rw[h] at gc;exact⟨o.gr,Jn o.gf,o.gg,l0,lr,by simp only[br];omega,by simp,by rw[jF];exact o.bm.same gc.symm⟩
 .rename_i h;split
  .rename_i h2;refine⟨gA,o.gr,Ms,by rw[lA];omega,by rw[lA];show _<=n+1-s.len+1;omega,by show s.rule.length<=n+1-(n+1-s.len)+1;omega,l0,?_⟩;show Bm _ (cf (s.Aa nums n)) _ _ _ _;rw[hA];exact o.bm.longer gc.symm (mL Ms h) ha h2
  .rename_i h2;refine⟨gA,Jn o.gf,o.gg,by rw[lA];omega,by rw[lA];show _<=s.len+1;omega,by show s.fo.length+1<=n+1-s.len+1;omega,by simp,?_⟩;show Bm _ (cf (s.Aa nums n)) (cf (0::s.fo)) _ _ _;rw[hA,jF];exact o.bm.kept gc.symm ha h2
theorem BL (h:0<j):cf [1] j=0:=iC h
theorem wX (hn:Gr nums):∀n,tf nums n (nM nums n)
 |0=>⟨.cons (by decide) .nil,.cons (by decide) .nil,by show 1<64;decide,by show 0<1;decide,by show 1<=0+1;decide,by show 1<=0-0+1;decide,by show 0<1;decide,Bm.init _ _ _ rfl (λj h=>BL h) λj h=>BL h⟩
 |n+1=>(wX hn n).step hn
theorem Fb (hn:Gr nums){N:Nat}(g:Goes (cf nums) R w N):∀n,n<=N->(nM nums n).len<=w
 |0,_=>dh _
 |n+1,h=>by
  have ih:=Fb hn g n (by omega);have o:=wX hn n;show ((nM nums n).step nums n).len<=w;unfold Sr.step;split
  .exact ih
  .rename_i h0;have gc:=uS hn o.gr o.rl;split
   .exact o.bm.least (by rw[<-gc];exact mL (lJ hn n o.gr (by decide)) h0) g h
   .exact ih
noncomputable def loc (n p:Nat):Nat:=pw 2 (n-1-p)
theorem gJ (n p:Nat):loc n p<64:=aY (by decide) _
theorem rS (n p:Nat):loc n p≠0:=CM (by decide) (by decide) _
noncomputable def locs (n:Nat)(l:List Nat):List Nat:=l.map (loc n)
theorem gZ (n:Nat)(l:List Nat):Gr (locs n l):=λz hz=>by obtain⟨p,_,rfl⟩:=Δ.mp hz;exact gJ n p
variable {q:Nat}
theorem w4 (h:n<=63)(hp:p<n)(hq:q<n)(e:loc n p=loc n q):p=q:=by
 unfold loc at e;rcases Nat.lt_trichotomy (n-1-p) (n-1-q) with c|c|c
 .exact absurd e.symm (yB (by omega) c)
 .omega
 .exact absurd e (yB (by omega) c)
noncomputable def aQ (g:List Nat)(c:Nat):List Nat:=(bB c).map λx=>dA x g
noncomputable def pM (n:Nat)(mi:List Nat):List Nat:=fM [1] (locs n mi)
noncomputable def gF (wo mi:List Nat)(n:Nat):List Nat:=((eP wo (pM n mi)).take wo.length).drop mi.length
noncomputable def mX (wo mi:List Nat)(n:Nat):List Nat:=(nM (gF wo mi n) (gF wo mi n).length).rule
noncomputable def others (mi:List Nat)(n:Nat):List Nat:=(ρ n).filter λp=>!mi.contains p
noncomputable def susp (wo mi:List Nat)(n:Nat):List Nat:=(others mi n).filter λp=>dA (loc n p) (mX wo mi n)==0
noncomputable def eU (x:Nat)(pr:Nat):List Nat->Nat
 |[]=>pr
 |o::l=>eU x (if o=x then pr else tm pr (x^^^o)) l
noncomputable def fZ (wo ls:List Nat):List Nat:=(eP wo (fM [1] ls)).take ls.length
noncomputable def share (hd ls:List Nat)(x:Nat):Nat:=tm (dA x hd) (pw (tm x (eU x 1 ls)) 62)
noncomputable def rE (n:Nat)(hd ls:List Nat):List Nat->List Nat->List Nat
 |[],ch=>ch
 |p::r,ch=>rE n hd ls r (ch.set p (ch.getD p 0^^^share hd ls (loc n p)))
noncomputable def gU (g su wo:List Nat):List Nat:=rE g.length (fZ wo (locs g.length su)) (locs g.length su) su g
variable {g:List Nat}
theorem fR (h:Gr g)(c:Nat):Gr (aQ g c):=λz hz=>by
 obtain⟨x,hx,rfl⟩:=Δ.mp hz;exact gP (dC c x hx) (by decide) h
theorem kJ (g:List Nat)(c:Nat):(aQ g c).length=c:=by rw[aQ,aj,dM]
theorem jO:Gr [1]:=.cons (by decide) .nil
theorem lV (n:Nat)(mi:List Nat):(pM n mi).length=mi.length+1/\Gr (pM n mi):=by
 obtain⟨a,b,_⟩:=eF (r:=[1]) (gZ n mi) jO (by decide) rfl;exact⟨by rw[pM,a];simp[locs];omega,b⟩
theorem A2 (ls:List Nat)(h:Gr ls):cf (fM [1] ls)=eR (ls.map toF):=by
 rw[yq (l:=[]) h jO (by decide) Ih,aw];exact yD (List.reverse_perm _)
theorem pg {wo:List Nat}(h:Gr wo)(mi:List Nat)(n:Nat):Gr (gF wo mi n):=λz hz=>
 jX h (lV n mi).2 z (ZU (ZT hz))
theorem qg (wo mi:List Nat)(n:Nat):(gF wo mi n).length=wo.length-mi.length:=by
 unfold gF;rw[gv,dn,fS,(lV n mi).1];omega
theorem sum_list:∀{l:List Nat}{n:Nat}{f:Nat->F},l.Nodup->(∀p∈l,p<n)->(∀p,p<n->p∉l->f p=0)->sum n f=lsum (l.map f)
 |[],n,f,_,_,z=>cO λp hp=>z p hp (by simp)
 |a::l,n,f,hn,hl,z=>by
  rw[jy] at hn;have ha:=hl a ag;have e:sum n f=sum n (λp=>if p=a then f p else 0)+sum n λp=>if p=a then 0 else f p:=by
   rw[<-sum_add];exact aJ λp _=>by split;rw[add_zero];rw[zero_add]
  rw[e,Ef ha (λp _ hp=>if_neg hp),if_pos rfl,sum_list (l:=l) hn.2 (λp hp=>hl p (aa _ hp)) λp hp hm=>?_]
  .show _=f a+lsum (l.map f);congr 2;exact du λp hp=>if_neg λ(q:p=a)=>hn.1 (q ▸ hp)
  .by_cases h:p=a
   .rw[if_pos h]
   .rw[if_neg h];exact z p hp λOi=>by rcases dm.mp Oi with q|q;exact h q;exact hm q
noncomputable def yZ (n:Nat)(E:List Nat)(l:List Nat):List (F×F):=l.map λp=>(cf E p,toF (loc n p))
theorem rY (x:F)(i:Nat):∀j,gL (gL x i) j=gL x (i*j)
 |0=>rfl
 |j+1=>by show gL (gL x i) j*_=_;rw[rY x i j,<-lq,h!]
theorem An {E:List Nat}(hE:Gr E)(hn:l.Nodup)(hl:∀p∈l,p<E.length)(z:∀p,p<E.length->p∉l->E.getD p 0=0)(j:Nat):toF (dA (pw 2 j) E)=ps (yZ E.length E l) j:=by
 rw[rF (aY (by decide) j) hE,yl];unfold wo yZ;rw[sum_list hn hl λp hp hm=>by show toF (E.getD p 0)*_=0;rw[z p hp hm];exact zero_mul _,bh];congr 1;refine du λp hp=>?_
 show cf E p*_=cf E p*gL (toF (loc E.length p)) j;rw[loc,r6 (by decide),r6 (by decide),rY,rY,e_]
structure jU (g y mi W:List Nat)(c:Nat):Prop where
 gg:Gr g
 gy:Gr y
 ly:y.length=g.length
 Q0:g.length<=63
 TQ:c<=62
 code:Ad y c
 mn:mi.Nodup
 ml:∀p∈mi,p<g.length
 wr:W=(others mi g.length).filter λp=>y.getD p 0 != g.getD p 0
 le:2*W.length+mi.length<=c
variable {mi:List Nat}
theorem dH:p∈others mi n↔p<n/\p∉mi:=by
 unfold others;rw[ie,pi];simp
theorem lW (mi:List Nat)(n:Nat):(others mi n).Nodup:=Ő.filter _
section
variable {g y mi W:List Nat}{c:Nat}(N:jU g y mi W c)
include N
theorem jU.lE:(cZ g y).length=g.length:=CF N.ly.symm
theorem jU.gE:Gr (cZ g y):=yz N.gg N.gy
theorem jU.E {p:Nat}(hp:p<g.length):(cZ g y).getD p 0=g.getD p 0^^^y.getD p 0:=by
 rw[ι,ι,ι,cZ,List.getElem?_zipWith,υ hp,υ (by rw[N.ly];exact hp)];rfl
theorem jU.Wm:p∈W↔p<g.length/\p∉mi/\y.getD p 0≠g.getD p 0:=by
 rw[N.wr,ie,dH];simp[and_assoc]
theorem jU.nd:(mi++W).Nodup:=by
 rw[fh];refine⟨N.mn,by rw[N.wr];exact (lW _ _).filter _,λa ha b hb e=>?_⟩;exact ((N.Wm).mp hb).2.1 (e ▸ ha)
theorem jU.lt (h:p∈mi++W):p<g.length:=by
 rcases ig.mp h with h|h
 .exact N.ml p h
 .exact ((N.Wm).mp h).1
theorem jU.out (hp:p<g.length)(h:p∉mi++W):(cZ g y).getD p 0=0:=by
 rw[N.E hp];have:y.getD p 0=g.getD p 0:=gi λe=>h (ao _ ((N.Wm).mpr ⟨hp,λm=>h (ax _ m),e⟩))
 rw[this,gq]
theorem jU.worth (hj:j<c):cf (aQ g c) j=ps (yZ g.length (cZ g y) (mi++W)) (j+1):=by
 have e1:(aQ g c).getD j 0=dA (pw 2 (j+1)) g:=by
  unfold aQ bB;rw[ι,bh,π,List.getElem?_range' hj,cq,î];show dA (pw 2 _) g=_;congr 2;omega
 have hx:pw 2 (j+1)<64:=aY (by decide) _;have e2:dA (pw 2 (j+1)) (cZ g y)=dA (pw 2 (j+1)) g:=by
  rw[xx hx N.ly.symm N.gg N.gy,N.code (pw 2 (j+1)) (by
   unfold bB;exact Δ.mpr ⟨j+1,ņ.mpr ⟨by omega,by omega⟩,rfl⟩),gx]
 have:=An N.gE N.nd (λp hp=>by rw[N.lE];exact N.lt hp) (λp hp hm=>N.out (by rw[<-N.lE];exact hp) hm) (j+1);rw[N.lE] at this;rw[cf,e1,<-e2,this]
theorem jU.RS (hp:p<g.length)(hq:q<g.length)(e:toF (loc g.length p)=toF (loc g.length q)):p=q:=w4 N.Q0 hp hq (oU (gJ _ _) (gJ _ _) e)
theorem jU.Qt (hn:l.Nodup)(hl:∀p∈l,p<g.length):(l.map λp=>toF (loc g.length p)).Nodup:=by
 rw[Ļ,jq];exact ç (λha hb h e=>h (N.RS (hl _ ha) (hl _ hb) e)) hn
end
theorem Cw (j:Nat):∀(a b:List (F×F)),ps (a++b) j=ps a j+ps b j
 |[],b=>(zero_add _).symm
 |p::a,b=>by show _+ps (a++b) j=_+ps a j+_;rw[Cw j a b,add_assoc]
theorem xQ (j:Nat):∀{a:List (F×F)},(∀p∈a,p.1=0)->ps a j=0
 |[],_=>rfl
 |p::a,h=>by show p.1*_+_=0;rw[h p ag,zero_mul,zero_add];exact xQ j λq hq=>h q (aa _ hq)
section
variable {g y mi W:List Nat}{c:Nat}(N:jU g y mi W c)
include N
theorem jU.freed (hk:k<c-mi.length):cf (gF (aQ g c) mi g.length) k=ps ((yZ g.length (cZ g y) W).map λp=>(p.1*(p.2*dist p.2 ((locs g.length mi).map toF)),p.2)) k:=by
 have lg:=lV g.length mi;have e1:cf (gF (aQ g c) mi g.length) k=conv (cf (aQ g c)) (cf (pM g.length mi)) (mi.length+k):=by
  rw[<-oJ (fR N.gg c) lg.2 (by rw[lg.1];omega)];unfold cf gF;rw[ι,ι,List.getElem?_drop,á,if_pos (by rw[kJ];omega)]
 rw[e1,jE (f':=λj=>ps (yZ g.length (cZ g y) (mi++W)) (j+1)) (λj hj=>N.worth (by omega)) λ_ _=>rfl,Md.freed (m:=mi.length) (λj hj=>iC (by rw[lg.1];omega)) k];rw[pM,A2 _ (gZ _ _)];have ed:∀x,wo (eR ((locs g.length mi).map toF)) (mi.length+1) x=dist x ((locs g.length mi).map toF):=λx=>by
  rw[<-xR,aj,locs,aj]
 simp only[ed];rw[yZ,gj,gj,Cw,xQ,zero_add];rfl;intro q hq;obtain⟨r,hr,rfl⟩:=Δ.mp hq;obtain⟨p,hp,rfl⟩:=Δ.mp hr;show _*(_*dist (toF (loc g.length p)) _)=0;rw[ky (l:=(locs g.length mi).map toF) (Δ.mpr ⟨loc g.length p,Δ.mpr ⟨p,hp,rfl⟩,rfl⟩),mul_zero,mul_zero]
theorem jU.susp:susp (aQ g c) mi g.length=W:=by
 have gw:=fR N.gg c;let fr:=gF (aQ g c) mi g.length;have lf:fr.length=c-mi.length:=by show (gF _ _ _).length=_;rw[qg,kJ]
 let es:=(yZ g.length (cZ g y) W).map λp=>(p.1*(p.2*dist p.2 ((locs g.length mi).map toF)),p.2)
 have Ym:es.length=W.length:=by simp[es,yZ]
 have ht:∀k,k<fr.length->cf fr k=ps es k:=λk hk=>N.freed (lf ▸ hk)
 have hle:=N.le;have go:=Dv ht;have o:=wX (pg gw mi g.length) fr.length;have hL:=Fb (pg gw mi g.length) go fr.length (au _);have hr:∀p∈W,dA (loc g.length p) (mX (aQ g c) mi g.length)=0:=λp hp=>by
  have m:=(N.Wm).mp hp;have hx:toF (loc g.length p)≠0:=mL (gJ _ _) (rS _ _);have z:=zt (es:=es) (C:=cf (mX (aQ g c) mi g.length)) (n:=(mX (aQ g c) mi g.length).length) ht (λq hq=>by
    obtain⟨r,hr,rfl⟩:=Δ.mp hq;obtain⟨p,hp,rfl⟩:=Δ.mp hr;exact mL (gJ _ _) (rS _ _)) (by
    simp only[es,yZ,bh];exact N.Qt ((fh.mp N.nd).2.1) λq hq=>((N.Wm).mp hq).1) o.bm.go hL (by rw[Ym];omega) o.l0 o.lr (λj hj=>iC hj) (Δ.mpr ⟨_,Δ.mpr ⟨p,hp,rfl⟩,rfl⟩) (by
    refine kX ?_ (kX hx (rB λq=>?_))
    .show toF ((cZ g y).getD p 0)≠0;rw[N.E m.1];exact mL (aP (cX N.gg _) (cX N.gy _)) λe=>m.2.2 (cC e).symm
    .obtain⟨x,hx,e⟩:=Δ.mp q;obtain⟨q,hq,rfl⟩:=Δ.mp hx;exact m.2.1 (N.RS (N.ml q hq) m.1 e ▸ hq))
  have z':=(rF (x:=loc g.length p) (gJ _ _) o.gr).trans z;exact oU (gP (gJ _ _) (by decide) o.gr) (by decide) z'
 have Vd:W=(Md.susp (aQ g c) mi g.length).filter λp=>y.getD p 0 != g.getD p 0:=by
  unfold Md.susp;rw[â]
  conv=>lhs;rw[N.wr]
  refine ï λp hp=>?_
  by_cases e:y.getD p 0=g.getD p 0
  .have:(y.getD p 0 != g.getD p 0)=ε:=by rw[e];exact bne_self_eq_false _
   rw[this,ť]
  .have:=hr p ((N.Wm).mpr ⟨(dH.mp hp).1,(dH.mp hp).2,e⟩);rw[this];simp
 have hlen:(Md.susp (aQ g c) mi g.length).length<=W.length:=by
  refine jb λh=>?_
  have hz:=oj (xs:=locs g.length (Md.susp (aQ g c) mi g.length)) (l:=mX (aQ g c) mi g.length) (by
    unfold locs;rw[Ļ,jq];refine ç (λ{a b} ha hb h e=>h (w4 N.Q0 ?_ ?_ e)) ((lW mi g.length).filter _)
    .exact (dH.mp (ie.mp ha |>.1)).1
    .exact (dH.mp (ie.mp hb |>.1)).1) (gZ _ _) o.gr (by
    have:=o.lr;have h2:(nM fr fr.length).len<=W.length:=by rw[<-Ym];exact hL
    have h3:(mX (aQ g c) mi g.length).length<=(nM fr fr.length).len+1:=o.lr;simp only[locs,aj];omega) (λx hx=>by
    obtain⟨p,hp,rfl⟩:=Δ.mp hx;have:=(ie.mp hp).2;simpa using this)
  have h1:=o.bm.go.one;have l0:=o.l0;have:(nM fr fr.length).rule.getD 0 0=0:=by
   rw[ι,υ l0];exact hz _ (iq l0)
  unfold cf at h1;rw[this] at h1;exact absurd h1 (by decide)
 have sl:W.Sublist (Md.susp (aQ g c) mi g.length):=by
  conv=>lhs;rw[Vd]
  exact List.filter_sublist
 exact (sl.eq_of_length_le hlen).symm
end
theorem lO (hx:x<64):∀{l:List Nat}{pr:Nat},Gr l->pr<64->eU x pr l<64
 |[],_,_,h=>h
 |o::l,pr,hl,h=>by
  rw[eU];refine lO hx (λz hz=>hl z (aa _ hz)) ?_;split
  .exact h
  .exact aX h (aP hx (hl o ag))
theorem kK (hx:x<64):∀{l:List Nat}{pr:Nat},Gr l->pr<64->toF (eU x pr l)=toF pr*dist (toF x) ((l.map toF).filter (· != toF x))
 |[],_,_,h=>(mul_one _).symm
 |o::l,pr,hl,h=>by
  have Qn:=hl o ag;have hr:Gr l:=λz hz=>hl z (aa _ hz)
  rw[eU,bo];by_cases e:o=x
  .rw[if_pos e,kK hx hr h,Ď (by rw[e];simp)]
  .have ne:toF o≠toF x:=λq=>e (oU Qn hx q)
   rw[if_neg e,kK hx hr (aX h (aP hx Qn)),ď (by simpa using ne),eO h (aP hx Qn),nV hx Qn];show _=toF pr*(dist _ _*(toF x+toF o))
   ac_rfl
variable {hd ls:List Nat}
theorem tP (h1:Gr hd)(h2:Gr ls)(hx:x<64):share hd ls x<64:=aX (gP hx (by decide) h1) (aY (aX hx (lO hx h2 (by decide))) _)
theorem lL (n:Nat)(hd ls:List Nat):∀(su ch:List Nat),(rE n hd ls su ch).length=ch.length
 |[],_=>rfl
 |p::r,ch=>by rw[rE,lL n hd ls r,aq]
theorem xt (h1:Gr hd)(h2:Gr ls):∀{su ch:List Nat},Gr ch->Gr (rE n hd ls su ch)
 |[],_,h=>h
 |p::r,ch,h=>by rw[rE];exact xt h1 h2 (ph h (tP h1 h2 (gJ _ _)))
theorem xZ (n:Nat)(hd ls:List Nat):∀{su ch:List Nat},su.Nodup->(∀p∈su,p<ch.length)->∀q,(rE n hd ls su ch).getD q 0=if q∈su then ch.getD q 0^^^share hd ls (loc n q) else ch.getD q 0
 |[],_,_,_,q=>by rw[if_neg (by simp)];rfl
 |p::r,ch,hn,hl,q=>by
  rw[jy] at hn;rw[rE,xZ n hd ls hn.2 (λz hz=>by rw[aq];exact hl z (aa _ hz))];by_cases e:q=p
  .subst e;rw[if_neg hn.1,if_pos ag,ι,ω (hl q ag)];rfl
  .have:(ch.set p (ch.getD p 0^^^share hd ls (loc n p))).getD q 0=ch.getD q 0:=by
    rw[ι,ο (by omega),ι]
   rw[this];by_cases m:q∈r
   .rw[if_pos m,if_pos (aa _ m)]
   .rw[if_neg m,if_neg λh=>by rcases dm.mp h with h|h;exact e h;exact m h]
theorem og {wo:List Nat}(h:Gr wo)(h2:Gr ls):Gr (fZ wo ls):=λz hz=>
 jX h (eF (r:=[1]) h2 jO (by decide) rfl).2.1 z (ZU hz)
theorem zw (wo ls:List Nat)(h2:Gr ls):(fZ wo ls).length=ls.length:=by
 unfold fZ;rw[dn,fS,(eF (r:=[1]) h2 jO (by decide) rfl).1];simp;omega
theorem B0 (h:a.length=b.length)(e:∀p,p<a.length->a.getD p 0=b.getD p 0):a=b:=by
 refine cy h λp h1 h2=>?_
 have:=e p h1;rw[ι,ι,υ h1,υ h2] at this;exact this
section
variable {g y mi W:List Nat}{c:Nat}(N:jU g y mi W c)
include N
theorem jU.share (hp:p∈mi++W):share (fZ (aQ g c) (locs g.length (mi++W))) (locs g.length (mi++W)) (loc g.length p)=(cZ g y).getD p 0:=by
 have gw:=fR N.gg c;have gl:=gZ g.length (mi++W);have hx:=gJ g.length p;have gh:=og gw gl;have ll:(locs g.length (mi++W)).length=mi.length+W.length:=by simp[locs]
 have hle:=N.le;have eL:(locs g.length (mi++W)).map toF=(mi++W).map λp=>toF (loc g.length p):=by rw[locs,bh];rfl
 have Se:((locs g.length (mi++W)).map toF).Nodup:=by rw[eL];exact N.Qt N.nd λq hq=>N.lt hq
 have QI:∀q∈yZ g.length (cZ g y) (mi++W),q.2∈(locs g.length (mi++W)).map toF:=λq hq=>by
  obtain⟨r,hr,rfl⟩:=Δ.mp hq;rw[eL];exact Δ.mpr ⟨r,hr,rfl⟩
 have Oh:(locs g.length (mi++W)).map toF≠[]:=λe=>by
  have:=(Δ (f:=λp=>toF (loc g.length p))).mpr ⟨p,hp,rfl⟩;rw[<-eL,e] at this;cases this
 have Vp:((yZ g.length (cZ g y) (mi++W)).map (·.2)).Nodup:=by
  unfold yZ;rw[bh];exact N.Qt N.nd λq hq=>N.lt hq
 have Vt:(cf (cZ g y) p,toF (loc g.length p))∈yZ g.length (cZ g y) (mi++W):=Δ.mpr ⟨p,hp,rfl⟩;have e1:toF (dA (loc g.length p) (fZ (aQ g c) (locs g.length (mi++W))))=cf (cZ g y) p*(toF (loc g.length p)*dist (toF (loc g.length p)) (((locs g.length (mi++W)).map toF).erase (toF (loc g.length p)))):=by
  rw[rF hx gh,zw _ _ gl,<-A5 Vp Se QI Vt,<-uX _ Oh _ QI,aj];refine A0 λk hk=>?_
  rw[<-heads _ _ QI];have:cf (fZ (aQ g c) (locs g.length (mi++W))) k=cf (eP (aQ g c) (fM [1] (locs g.length (mi++W)))) k:=by
   unfold cf fZ;rw[ι,ι,á,if_pos hk]
  rw[this,oJ gw (eF (r:=[1]) gl jO (by decide) rfl).2.1 (by rw[(eF (r:=[1]) gl jO (by decide) rfl).1];simp;omega),A2 _ gl];exact jE (λj hj=>N.worth (by omega)) λ_ _=>rfl
 have WV:=lO hx gl (pr:=1) (by decide);have e2:toF (eU (loc g.length p) 1 (locs g.length (mi++W)))=dist (toF (loc g.length p)) (((locs g.length (mi++W)).map toF).erase (toF (loc g.length p))):=by
  rw[kK hx gl (by decide),rM,one_mul,Se.erase_eq_filter]
 have ne:tm (loc g.length p) (eU (loc g.length p) 1 (locs g.length (mi++W)))≠0:=λe=>by
  have z:toF (tm (loc g.length p) (eU (loc g.length p) 1 (locs g.length (mi++W))))=0:=by rw[e];rfl
  rw[eO hx WV,e2] at z;exact kX (mL hx (rS _ _)) (rB Se.not_mem_erase) z
 have NI:=aX hx WV;refine oU (tP gh gl hx) (cX N.gE p) ?_;unfold Md.share;rw[eO (gP hx (by decide) gh) (aY NI _),e1,<-e2,<-eO hx WV,mul_assoc,<-eO NI (aY NI _),inv_one NI ne,rM,mul_one];rfl
theorem jU.gU:gU g (mi++W) (aQ g c)=y:=by
 unfold Md.gU;refine B0 (by rw[lL,N.ly]) λp hp=>?_
 rw[lL] at hp;rw[xZ _ _ _ N.nd λq hq=>N.lt hq];split
 .rename_i h;rw[N.share h,N.E hp,<-bj,gq,cg]
 .rename_i h;have:=N.out hp h;rw[N.E hp] at this;exact cC this
end
noncomputable def bE (g y mi:List Nat):List Nat:=(ρ g.length).filter λp=>!mi.contains p&&y.getD p 0 != g.getD p 0
theorem yJ (g y mi:List Nat):bE g y mi=(others mi g.length).filter λp=>y.getD p 0 != g.getD p 0:=by
 unfold bE others;rw[â];exact ï λp _=>Bool.and_comm ..
noncomputable def cA (g mi:List Nat)(c:Nat):List Nat:=gU g (mi++susp (aQ g c) mi g.length) (aQ g c)
theorem qT (g mi:List Nat)(c:Nat):(cA g mi c).length=g.length:=lL ..
theorem Cy (h:Gr g)(mi:List Nat)(c:Nat):Gr (cA g mi c):=xt (og (fR h c) (gZ _ _)) (gZ _ _) h
theorem found {y:List Nat}{c:Nat}(gg:Gr g)(gy:Gr y)(ly:y.length=g.length)(Q0:g.length<=63)(TQ:c<=62)(code:Ad y c)(mn:mi.Nodup)(ml:∀p∈mi,p<g.length)(le:2*(bE g y mi).length+mi.length<=c):cA g mi c=y:=by
 have N:jU g y mi (bE g y mi) c:=⟨gg,gy,ly,Q0,TQ,code,mn,ml,yJ g y mi,le⟩;unfold cA;rw[N.susp,N.gU]
end Md
end
section
namespace Pc.Vw
open PySem Pc Pc.Sm Pc.Gr Fl64 Md
def aC (T:Tb)(e:Ex)(env:En)(d:D):Prop:=∃R,ev T e env=.ok (d,R)
variable {f:Nat}{fr w:Bool}{r:D}
section
variable {T:Tb}{env:En}{a b c:Ex}{x y z d:D}
theorem aC.bin {op:At}(h:aC T a env x)(h':aC T b env y)(e:qa op x y=θ z):aC T (.bin op a b) env z:=by
 obtain⟨R,h⟩:=h;obtain⟨R',h'⟩:=h';exact⟨_,by rw[ev,h,aA,h',aA,e,fG,aA]⟩
theorem aC.cmp {op:Z2}{k:Bool}(h:aC T a env x)(h':aC T b env y)(e:uv op x y=θ k):aC T (.cmp op a b) env (.bl k):=by
 obtain⟨R,h⟩:=h;obtain⟨R',h'⟩:=h';exact⟨_,by rw[ev,h,aA,h',aA,e,fG,aA]⟩
theorem aC.ix (h:aC T a env x)(h':aC T b env y)(e:Jj x y=θ z):aC T (.ix a b) env z:=by
 obtain⟨R,h⟩:=h;obtain⟨R',h'⟩:=h';exact⟨_,by rw[ev,h,aA,h',aA,e,fG,aA]⟩
theorem aC.cst (d:D):aC T (.cst d) env d:=⟨_,by rw[ev]⟩
theorem aC.NC (i:Nat):aC T (.NC i) env (T.gl i):=by
 cases h:ev T (.NC i) env with
 |ok p=>rw[ev] at h;exact⟨p.2,by rw[ev];cases h;rfl⟩
 |bad=>rw[ev] at h;cases h
theorem aC.M6 (h:aC T a env x)(e:T.cl f [x]=.ok (r,fr)):aC T (.call f (.cons a .nil)) env r:=by
 obtain⟨R,h⟩:=h;exact⟨_,by rw[ev,aR,h,aA,aR,aA,aA];show (T.cl f [x]).bind _=_;rw[e,aA]⟩
theorem aC.Mi (h:aC T a env x)(h2:aC T b env y)(e:T.cl f [x,y]=.ok (r,fr)):aC T (.call f (.cons a (.cons b .nil))) env r:=by
 obtain⟨R,h⟩:=h;obtain⟨R2,h2⟩:=h2;exact⟨_,by rw[ev,aR,h,aA,aR,h2,aA,aR,aA,aA,aA];show (T.cl f [x,y]).bind _=_;rw[e,aA]⟩
theorem aC.Qb (h:aC T a env x)(h2:aC T b env y)(h3:aC T c env z)(e:T.cl f [x,y,z]=.ok (r,fr)):aC T (.call f (.cons a (.cons b (.cons c .nil)))) env r:=by
 obtain⟨R,h⟩:=h;obtain⟨R2,h2⟩:=h2;obtain⟨R3,h3⟩:=h3;exact⟨_,by rw[ev,aR,h,aA,aR,h2,aA,aR,h3,aA,aR,aA,aA,aA,aA];show (T.cl f [x,y,z]).bind _=_;rw[e,aA]⟩
theorem aC.Ml {k:El}(h:aC T a env x)(e:lK k [x]=θ z):aC T (.blt k (.cons a .nil)) env z:=by
 obtain⟨R,h⟩:=h;exact⟨_,by rw[ev,aR,h,aA,aR,aA,aA];show (pS (lK k [x])).bind _=_;rw[e,fG,aA]⟩
theorem aC.Oe (h:aC T a env x):aC T (.lst (.cons a .nil)) env (.lst [x]):=by
 obtain⟨R,h⟩:=h;exact⟨_,by rw[ev,aR,h,aA,aR,aA,aA];exact if_pos (by show (1:Nat)<=lim;decide)⟩
theorem aC.not {k:Bool}(h:aC T a env (.bl k)):aC T (.not a) env (.bl (!k)):=by
 obtain⟨R,h⟩:=h;exact⟨_,by rw[ev,h,aA]⟩
theorem aC.and {k:Bool}(h:aC T a env (.bl k))(h':k=ζ->aC T b env (.bl w))(hw:k=ε->w=ε):aC T (.and a b) env (.bl w):=by
 obtain⟨R,h⟩:=h;cases k with
 |true=>obtain⟨R',h'⟩:=h' rfl;exact⟨_,by rw[ev,h,aA];exact h'⟩
 |false=>rw[hw rfl];exact⟨_,by rw[ev,h,aA]⟩
theorem aC.or {k:Bool}(h:aC T a env (.bl k))(h':k=ε->aC T b env (.bl w))(hw:k=ζ->w=ζ):aC T (.or a b) env (.bl w):=by
 obtain⟨R,h⟩:=h;cases k with
 |false=>obtain⟨R',h'⟩:=h' rfl;exact⟨_,by rw[ev,h,aA];exact h'⟩
 |true=>rw[hw rfl];exact⟨_,by rw[ev,h,aA]⟩
theorem ze {k:Bool}{p q:aU}(h:aC T c env (.bl k)):bH T (.ite c p q) env=if k then aE T p env else aE T q env:=by
 obtain⟨R,h⟩:=h;rw[bH,h,bC];cases k<;>rfl
theorem IA {e:Ex}(h:aC T e env d):∃fr,Pc.ret (aE T (.cons (.ret e) .nil) env)=.ok (d,fr):=by
 obtain⟨R,h⟩:=h;rw[aE,bH,h,bC];exact⟨_,rfl⟩
end
def Vw (env:En)(vs:List (Option D)):Prop:=env.length=vs.length/\∀(j:Nat) (d:D),vs[j]? = θ (θ d)->∃t,env[j]? = θ (θ (d,t))
section
variable {T:Tb}{env:En}{vs:List (Option D)}{d:D}
theorem Vw.var (h:Vw env vs){i:Nat}(e:vs[i]? = θ (θ d)):aC T (.var i) env d:=by
 obtain⟨t,q⟩:=h.2 i d e;rw[aC,ev,q];exact⟨_,rfl⟩
theorem Vw.put (h:Vw env vs)(i:Nat)(d:D)(t:Tg):Vw (Pc.put env i d t) (vs.set i (θ d)):=by
 unfold Pc.put;refine⟨by rw[aq,aq,aj,h.1],λj x e=>?_⟩;by_cases hj:i=j
 .subst hj;have hl:i<vs.length:=by
   have:=(χ.mp e).1
   rwa [aq] at this
  rw[ω hl] at e;cases e;exact⟨t,ω (by rw[aj,h.1];exact hl)⟩
 .rw[ο hj] at e;obtain⟨t',q⟩:=h.2 j x e;refine⟨t'.drop i,?_⟩;rw[ο hj,π,q];rfl
theorem Vw.asg (h:Vw env vs){i:Nat}(hi:i<vs.length){e:Ex}(he:aC T e env d):∃env',bH T (.asg (.nm i) e ε) env=.nx env'/\Vw env' (vs.set i (θ d)):=by
 obtain⟨R,he⟩:=he;rw[bH,he,bC];have Oj:i<env.length:=by rw[h.1];exact hi
 show ∃env',(if i<env.length then _ else _)=_/\_;rw[if_pos Oj];cases R with
 |mv R=>
  cases R with
  |nil=>exact⟨_,rfl,h.put i d _⟩
  |cons r R=>exact⟨_,rfl,h.put i d _⟩
 |sh R=>exact⟨_,rfl,h.put i d _⟩
theorem Vw.bind (h:Vw env vs){i:Nat}(hi:i<vs.length)(R:List Nat)(d:D):∃env',bP R (.nm i) d env=θ env'/\Vw env' (vs.set i (θ d)):=by
 refine⟨_,?_,h.put i d (cU d R)⟩;show (if i<env.length then _ else _)=_;rw[if_pos (by rw[h.1];exact hi)]
theorem Vw.start (ds:List D)(n:Nat):Vw (aD ds n) (ds.map θ++ξ (n-ds.length) η):=by
 unfold aD;refine⟨by simp,λj d e=>?_⟩;by_cases hj:j<ds.length
 .rw[Ν (by rw[aj];exact hj),π] at e;rw[Ν (by rw[aj];exact hj),π];cases q:ds[j]? with
  |none=>rw[q] at e;cases e
  |some x=>rw[q] at e;cases e;exact⟨_,rfl⟩
 .rw[Τ (by rw[aj];omega),bv] at e;split at e<;>cases e
end
theorem Dq {t:md}{R:List Nat}{b:En->Fl}(J:Nat->En->Prop):∀(l:List D) (k:Nat) (env:En),J k env ->
  (∀(i:Nat) (d:D) (e:En),l[i]? = θ d->J (k+i) e->∃e1 e2,bP R t d e=θ e1/\(b e1=.nx e2\/b e1=.ct e2)/\J (k+i+1) e2)->∃e,gK t R b l env=.nx e/\J (k+l.length) e
 |[],k,env,h,_=>⟨env,rfl,h⟩
 |d::r,k,env,h,st=>by
  obtain⟨e1,e2,h1,h2,h3⟩:=st 0 d env rfl h;obtain⟨e,q1,q2⟩:=Dq J r (k+1) e2 h3 λi d e hd hJ=>by
   have:=st (i+1) d e hd (by rw[show k+(i+1)=k+1+i by omega];exact hJ);rw[show k+(i+1)+1=k+1+i+1 by omega] at this;exact this
  refine⟨e,?_,by rw[br,show k+(r.length+1)=k+1+r.length by omega];exact q2⟩;rw[gK,h1];rcases h2 with h2|h2
  .dsimp only;rw[h2];exact q1
  .dsimp only;rw[h2];exact q1
def Ew (T:Tb)(iv:Nat):Prop:=∀a:Nat,a<64->a≠0->T.cl iv [.int (a:Int)]=.ok (.int ((pw a 62:Nat):Int),ζ)
noncomputable def Zh (g PR:Nat):aU:=(.cons (.ite (.cmp .Eq LN LA) (.cons (.expr (.neg (.cst .Mh)))
  .nil) .nil)
  (.cons (.ret (.call PR (L6 LN (.bin .Sub (.NC g) Ly))))
  .nil))
def Ga (T:Tb)(gp:Nat):Prop:=∀(rule nums:List Nat) (place:Nat),Gr rule->Gr nums->rule.length<=place+1->place<nums.length->T.cl gp [.lst (gD rule),.lst (gD nums),.int (place:Int)]=.ok (.int ((eS nums place 0 rule 0:Nat):Int),ζ)
noncomputable def Xb (t:Nat):aU:=(.cons (.asg (.nm 3) (.bin .BitXor LM (.call t (L6 LP (.ix LO (.bin .Sub LL LK))))) ε)
  .nil)
noncomputable def Zj (t:Nat):aU:=(.cons (.asg (.nm 3) LA ε)
  (.cons (.Mg (.tp [4,5]) (.enum LN) (Xb t))
  (.cons (.ret LM)
  .nil)))
def Gg (T:Tb)(sc:Nat):Prop:=∀(row:List Nat) (f:Nat),Gr row->f<64->row.length<=900->T.cl sc [.lst (gD row),.int (f:Int)]=.ok (.lst (gD (Ff row f)),ζ)
noncomputable def Y9 (t:Nat):aU:=(.cons (.ret (.comp 1 [1] (.nm 0) (.seq LN) .none (.call t (L6 LN LO))))
  .nil)
def Iu (T:Tb)(ad:Nat):Prop:=∀(a b:List Nat),a.length<=400->b.length<=400->T.cl ad [.lst (gD a),.lst (gD b)]=.ok (.lst (gD (CW a b)),ζ)
noncomputable def Xf:aU:=(.cons (.MD 2 .none LM (.bin .BitXor (.ix LL LM) LK))
  .nil)
noncomputable def Zp:aU:=(.cons (.asg (.nm 2) (.bin .Add LN (.bin .Mult (.lst (L5 LA)) (.bin .Sub (L9 LO) (L9 LN)))) ε)
  (.cons (.Mg (.tp [3,4]) (.enum LO) Xf)
  (.cons (.ret LL)
  .nil)))
theorem zx (n m:Nat)(hn:n<=1000)(hm:m<=1000):qa .Mult (.lst [.int 0]) (.int ((n:Int)-(m:Int)))=θ (.lst (gD (ξ (n-m) 0))):=by
 by_cases h:m<=n
 .rw[show (n:Int)-(m:Int)=((n-m:Nat):Int) by omega];exact mJ _ (by omega)
 .show (if -(2 ^ 63)<=(n:Int)-(m:Int)/\(n:Int)-(m:Int)<2 ^ 63 then (if D.Mk [D.int 0] then ck ([D.int 0].length*((n:Int)-(m:Int)).toNat) (.lst (ξ ((n:Int)-(m:Int)).toNat [D.int 0]).flatten) else η) else η)=_;rw[if_pos (by omega),show ((n:Int)-(m:Int)).toNat=0 by omega,show n-m=0 by omega];rfl
def JE (T:Tb)(dp:Nat):Prop:=∀(x:Nat) (ls:List Nat),x<64->Gr ls->T.cl dp [.int (x:Int),.lst (gD ls)]=.ok (.int ((eU x 1 ls:Nat):Int),ζ)
noncomputable def Xc (t:Nat):aU:=(.cons (.ite (.cmp .NotEq LM LN) (.cons (.asg (.nm 2) (.call t (L6 LL (.bin .BitXor LN LM))) ε)
  .nil) .nil)
  .nil)
noncomputable def Zk (t:Nat):aU:=(.cons (.asg (.nm 2) Lz ε)
  (.cons (.Mg (.nm 3) (.seq LO) (Xc t))
  (.cons (.ret LL)
  .nil)))
def IS (T:Tb)(lo:Nat):Prop:=∀(p n:Nat),p<n->n<=1000->T.cl lo [.int (p:Int),.int (n:Int)]=.ok (.int ((loc n p:Nat):Int),ζ)
noncomputable def Zg (PR:Nat):aU:=(.cons (.ret (.call PR (L6 Ly (.bin .Sub (.bin .Sub LO Lz) LN))))
  .nil)
def Kd (T:Tb)(sr:Nat):Prop:=∀(nums:List Nat),Gr nums->nums.length<=100->∃fr,T.cl sr [.lst (gD nums)]=.ok (.lst (gD (nM nums nums.length).rule),fr)
noncomputable def Gb (NH iv gp sc ad:Nat):aU:=(.cons (.asg (.nm 3) (.bin .Add (.lst (L5 LA)) LM) ε)
  (.cons (.asg (.nm 6) (.call gp (L7 LO LN LP)) ε)
  (.cons (.ite (.cmp .Eq LQ LA) (.cons .cnt
  .nil) .nil)
  (.cons (.asg (.nm 7) (.call ad (L6 LO (.call sc (L6 LM (.call NH (L6 LQ (.call iv (L5 LK)))))))) ε)
  (.cons (.ite (.cmp .LtE (.bin .Mult Ly LL) LP) (.cons (.asg (.nm 2) (.bin .Sub (.bin .Add LP Lz) LL) ε)
  (.cons (.asg (.nm 3) LO ε)
  (.cons (.asg (.nm 4) LQ ε)
  .nil))) .nil)
  (.cons (.asg (.nm 1) LS ε)
  .nil))))))
noncomputable def Y8 (NH iv gp sc ad:Nat):aU:=(.cons (.asg (.nm 1) (.lst (L5 Lz)) ε)
  (.cons (.asg (.nm 2) LA ε)
  (.cons (.asg (.nm 3) (.lst (L5 Lz)) ε)
  (.cons (.asg (.nm 4) Lz ε)
  (.cons (.Mg (.nm 5) (.Mo (L9 LN)) (Gb NH iv gp sc ad))
  (.cons (.ret LO)
  .nil))))))
noncomputable abbrev nD (n:Nat):Option D:=θ (.int (n:Int))
noncomputable abbrev lD (l:List Nat):Option D:=θ (.lst (gD l))
def Zt (nums:List Nat)(s:Sr)(env:En):Prop:=∃v5 v6 v7,Vw env [lD nums,lD s.rule,nD s.len,lD s.fo,nD s.gap,v5,v6,v7]
variable {env:En}{vs:List (Option D)}
theorem Vw.len {T:Tb}(h:Vw env vs){i:Nat}{l:List Nat}(e:vs[i]? = θ (lD l)):aC T (L9 (.var i)) env (.int (l.length:Int)):=aC.Ml (h.var e) (fK l)
variable {e:Ex}{n:Nat}
theorem uY {T:Tb}(h:aC T e env (.int (n:Int)))(hn:n<=1000):iL T (.Mo e) env=.ok ((ρ n).map λ(k:Nat)=>D.int (k:Int),[]):=by
 obtain⟨R,h⟩:=h;rw[DV T env e _ R h (xv hn),ey];have:=fQ n 0;rw[show ((0:Nat):Int)=0 from rfl] at this;rw[this,ZV]
theorem oo (mi:List Nat)(p:Nat):inD (.int (p:Int)) (.lst (gD mi))=θ (mi.contains p):=by
 show (if (ζ&&(gD mi).all D.Mw)=ζ then θ ((gD mi).any λy=>D.QP y (.int (p:Int))) else η)=_;have h1:(gD mi).all D.Mw=ζ:=by rw[ĕ,bz];intro _ _;rfl
 rw[h1,Z9,if_pos rfl,List.any_map];congr 1
 induction mi with
 |nil=>rfl
 |cons a l ih=>
  rw[jc,dk,ih (by rw[ĕ,bz];intro _ _;rfl)];congr 1;show ((a:Int)==(p:Int))=(p==a);rw[fm];simp;omega
theorem wO {T:Tb}{l:List D}(h:aC T e env (.lst l)):∃R,iL T (.seq e) env=.ok (l,R):=by
 obtain⟨R,h⟩:=h;exact⟨R.roots,by rw[iL,h,aA];rfl⟩
theorem Vw.picked {ws:List (Option D)}(h:Vw env vs){pick:List Nat}(hw:∀(j:Nat) (d:D),ws[j]? = θ (θ d)->∃i,pick[j]? = θ i/\vs[i]? = θ (θ d))(hl:ws.length=pick.length)(a:D) :
  0<(bU env 1 pick).length/\Vw (Pc.put (bU env 1 pick) 0 a .own) (θ a::ws):=by
 have hlen:(bU env 1 pick).length=ws.length+1:=by unfold bU;simp[hl,õ]
 have V:Vw (bU env 1 pick) (η::ws):=by
  refine⟨by rw[hlen];simp,λj d e=>?_⟩;cases j with
  |zero=>cases e
  |succ j=>
   have e:ws[j]? = θ (θ d):=e;obtain⟨i,p1,p2⟩:=hw j d e;refine⟨.sh [],?_⟩;unfold bU;rw[Τ (by simp),bu,show j+1-1=j by omega,π,p1];obtain⟨t,q⟩:=h.2 i d p2;show θ (match env[i]? with|some (θ (d,_))=>θ (d,Tg.sh [])|_=>η:Slot)=_;rw[q]
 exact⟨by omega,V.put 0 a .own⟩
theorem AY (l:List Nat)(m c:Nat):Fi (.lst (gD l)) (θ (m:Int)) (θ (c:Int))=θ (.lst (gD ((l.take c).drop m))):=by
 show θ (D.lst (cut (gD l) (θ (m:Int)) (θ (c:Int))))=_;unfold cut lZ;simp only;rw[if_neg (by omega),if_neg (by omega),ey,ey,cD,gD,gD,<-ŵ,<-List.map_take];congr 3;rw[ū];by_cases h:m<=l.length
 .rw[Í h];by_cases h2:c<=l.length
  .rw[Í h2]
  .rw[ś (by omega),i9 (by rw[gv];omega),i9 (by rw[gv];omega)]
 .rw[ś (show l.length<=m by omega),ė (au _),ė (show l.length<=m by omega)];simp
theorem FV (l:List Nat)(c:Nat):Fi (.lst (gD l)) η (θ (c:Int))=θ (.lst (gD (l.take c))):=by
 have:=AY l 0 c;rw[Ŭ] at this;rw[<-this];show θ (D.lst (cut (gD l) η (θ (c:Int))))=θ (D.lst (cut (gD l) (θ ((0:Nat):Int)) (θ (c:Int))));unfold cut lZ;simp
variable {T:Tb}{a hi:Ex}{x z:D}
theorem aC.sl {lo:Ex}{m c:Int}(h:aC T a env x)(h1:aC T lo env (.int m))(h2:aC T hi env (.int c))(e:Fi x (θ m) (θ c)=θ z):aC T (.sl a (.some lo) (.some hi)) env z:=by
 obtain⟨R,h⟩:=h;obtain⟨R1,h1⟩:=h1;obtain⟨R2,h2⟩:=h2;exact⟨_,by rw[ev,h,aA,nt,h1,aA];dsimp only;rw[aA,nt,h2,aA];dsimp only;rw[aA,e,fG,aA]⟩
theorem aC.XY {c:Int}(h:aC T a env x)(h2:aC T hi env (.int c))(e:Fi x η (θ c)=θ z):aC T (.sl a .none (.some hi)) env z:=by
 obtain⟨R,h⟩:=h;obtain⟨R2,h2⟩:=h2;exact⟨_,by rw[ev,h,aA,nt,aA,nt,h2,aA];dsimp only;rw[aA,e,fG,aA]⟩
def Ea (T:Tb)(su:Nat):Prop:=∀(wo mi:List Nat) (n:Nat),Gr wo->wo.length<=62->mi.length<=63->(∀p∈mi,p<n)->n<=63->∃fr,T.cl su [.lst (gD wo),.lst (gD mi),.int (n:Int)]=.ok (.lst (gD (susp wo mi n)),fr)
noncomputable def Y7 (wa rp rn lo sr:Nat):aU:=(.cons (.asg (.nm 3) (.call rn (L5 (.comp 1 [2] (.nm 0) (.seq LO) .none (.call lo (L6 LN LO))))) ε)
  (.cons (.asg (.nm 4) (.sl (.call rp (L6 LN LM)) (.some (L9 LO)) (.some (L9 LN))) ε)
  (.cons (.asg (.nm 5) (.call sr (L5 LK)) ε)
  (.cons (.asg (.nm 6) (.comp 1 [1] (.nm 0) (.Mo LL) (.some (.cmp .NotIn LN LO)) LN) ε)
  (.cons (.ret (.comp 1 [2,5] (.nm 0) (.seq LQ) (.some (.cmp .Eq (.call wa (L6 LL (.call lo (L6 LN LO)))) LA)) LN))
  .nil)))))
theorem tL {x:Nat}(hx:x<64):∀{l:List Nat}{pr:Nat},Gr l->pr<64->pr≠0->eU x pr l≠0
 |[],_,_,_,h=>h
 |o::l,pr,hl,hp,h=>by
  have Qn:=hl o ag;rw[eU];refine tL hx (λz hz=>hl z (aa _ hz)) ?_ ?_
  .split
   .exact hp
   .exact aX hp (aP hx Qn)
  .split
   .exact h
   .rename_i ne;exact λe=>(dI hp (aP hx Qn) e).elim h λe=>ne (cC e).symm
def Ee (T:Tb)(ch:Nat):Prop:=∀(g su wo:List Nat),Gr g->Gr wo->g.length<=63->su.length<=130->wo.length<=62->(∀p∈su,p<g.length)->T.cl ch [.lst (gD g),.lst (gD su),.lst (gD wo)]=.ok (.lst (gD (gU g su wo)),ζ)
noncomputable def Xd (NH iv wa dp:Nat):aU:=(.cons (.asg (.nm 8) (.call iv (L5 (.call NH (L6 LS (.call dp (L6 LS LK)))))) ε)
  (.cons (.MD 6 .none LM (.bin .BitXor (.ix LQ LM) (.call NH (L6 (.call wa (L6 LP LS)) LU))))
  .nil))
noncomputable def Zn (NH iv wa rp rn lo dp:Nat):aU:=(.cons (.asg (.nm 4) (.comp 1 [0] (.nm 0) (.seq LO) .none (.call lo (L6 LN (L9 LO)))) ε)
  (.cons (.asg (.nm 5) (.sl (.call rp (L6 LL (.call rn (L5 LK)))) .none (.some (L9 LK))) ε)
  (.cons (.asg (.nm 6) (.blt .list (L5 LN)) ε)
  (.cons (.Mg (.tp [3,7]) (.zip LO LK) (Xd NH iv wa dp))
  (.cons (.ret LQ)
  .nil)))))
theorem aC.Qf {b:Ex}{y:D}(h:aC T a env x)(h2:aC T b env y):aC T (.tup (.cons a (.cons b .nil))) env (.tup [x,y]):=by
 obtain⟨R,h⟩:=h;obtain⟨R2,h2⟩:=h2;exact⟨_,by rw[ev,aR,h,aA,aR,h2,aA,aR,aA,aA,aA];exact if_pos (by show (2:Nat)<=lim;decide)⟩
def DJ (T:Tb)(ic:Nat):Prop:=∀(gs:List Nat) (c:Nat),c<=900->T.cl ic [.lst (gD gs),.int (c:Int)]=.ok (.bl (decide (Ad gs c)),ζ)
noncomputable def Ir:Ex:=.cmp .Gt (L9 LO) LL
noncomputable def Hw (wa cn su ch:Nat)(r:aU):aU:=(.cons (.asg (.nm 3) (.comp 1 [0] (.nm 0) (.seq (.call cn (L5 LL))) .none (.call wa (L6 LO LN))) ε)
  (.cons (.asg (.nm 4) (.bin .Add (.blt .list (L5 LO)) (.call su (L7 LM LO (L9 LN)))) ε)
  (.cons (.asg (.nm 5) (.call ch (L7 LN LK LM)) ε)
  (.cons (.asg (.nm 6) (.comp 1 [0,5,1] (.nm 0) (.Mo (L9 LN)) (.some (.and (.cmp .NotIn LN LM) (.cmp .NotEq (.ix LL LN) (.ix LO LN)))) LN) ε)
  r))))
noncomputable def Jb (ic:Nat):Ex:=.or (.cmp .Gt (.bin .Add (.bin .Mult Ly (L9 LQ)) (L9 LO)) LL) (.not (.call ic (L6 LP LL)))
noncomputable def Zf (wa cn ic su ch:Nat):aU:=(.cons (.ite Ir (.cons (.expr (.neg (.cst .Mh)))
  .nil) .nil)
  (Hw wa cn su ch (.cons (.ite (Jb ic) (.cons (.expr (.neg (.cst .Mh)))
  .nil) .nil)
  (.cons (.ret (.tup (L6 LP LQ)))
  .nil))))
variable {c:Nat}{g mi:List Nat}
theorem Fv {T:Tb}{r:List (Option D)}(V:Vw env (lD g::lD mi::nD c::r)):aC T Ir env (.bl (decide (c<mi.length))):=by
 refine aC.cmp (V.len (i:=1) rfl) (V.var (i:=2) rfl) ?_;show θ (decide ((c:Int)<(mi.length:Int)))=_;congr 1;rw[fm];simp
noncomputable abbrev HR (g mi:List Nat)(c:Nat):List Nat:=mi++susp (aQ g c) mi g.length
theorem Ao {wo:List Nat}{p:Nat}(h:p∈susp wo mi n):p<n:=(dH.mp (ie.mp h).1).1
theorem Bo (wo mi:List Nat)(n:Nat):(susp wo mi n).length<=n:=by
 have h1:=il (λp=>dA (loc n p) (mX wo mi n)==0) (others mi n);have h2:=il (λp=>!mi.contains p) (ρ n);rw[bq] at h2;exact bp h1 h2
noncomputable def rC (g mi:List Nat)(c:Nat):Bool:=decide (c<2*(bE g (cA g mi c) mi).length+mi.length) || !decide (Ad (cA g mi c) c)
theorem FT {T:Tb}{ic:Nat}(hi:DJ T ic)(lc:c<=62){v3 v4:Option D}(V:Vw env [lD g,lD mi,nD c,v3,v4,lD (cA g mi c),lD (bE g (cA g mi c) mi)]):aC T (Jb ic) env (.bl (rC g mi c)):=by
 refine aC.or (k:=decide (c<2*(bE g (cA g mi c) mi).length+mi.length)) (aC.cmp (aC.bin (op:=.Add) (aC.bin (op:=.Mult) (aC.cst _) (V.len (i:=6) rfl) (z:=.int (2*((bE g (cA g mi c) mi).length:Int))) rfl) (V.len (i:=1) rfl) (z:=.int (2*((bE g (cA g mi c) mi).length:Int)+(mi.length:Int))) rfl) (V.var (i:=2) rfl) ?_) (λhk=>?_) (λhk=>?_)
 .show θ (decide ((c:Int)<2*((bE g (cA g mi c) mi).length:Int)+(mi.length:Int)))=_;congr 1;rw[fm];simp;omega
 .unfold rC;rw[hk,Bool.false_or];exact aC.not (aC.Mi (V.var (i:=5) rfl) (V.var (i:=2) rfl) (hi _ c (by omega)))
 .unfold rC;rw[hk,c_]
noncomputable abbrev Jl (g mi:List Nat)(c:Nat):D:=.tup [.lst (gD (cA g mi c)),.lst (gD (bE g (cA g mi c) mi))]
def BI (g y mi:List Nat)(c:Nat):Prop:=Gr y/\y.length=g.length/\Ad y c/\2*(bE g y mi).length+mi.length<=c
theorem jK {y:List Nat}(gg:Gr g)(Q0:g.length<=63)(TQ:c<=62)(mn:mi.Nodup)(ml:∀p∈mi,p<g.length)(N:BI g y mi c):cA g mi c=y/\rC g mi c=ε:=by
 obtain⟨gy,ly,code,le⟩:=N;have e:=found gg gy ly Q0 TQ code mn ml le;refine⟨e,?_⟩;unfold rC;rw[e,cm (by omega),cu code];rfl
theorem uQ (gg:Gr g)(h:rC g mi c=ε):BI g (cA g mi c) mi c:=by
 unfold rC at h;rw[Bool.or_eq_false_iff] at h;refine⟨Cy gg mi c,qT g mi c,?_,?_⟩
 .have:=h.2;simpa using this
 .have:=fv h.1;omega
end Pc.Vw
end
section
namespace Pc.Vw
open PySem Pc Pc.Sm Pc.Gr Pc.Lw Fl64 Md
theorem qV:∀(l:List Nat) (i:Nat),(gD l).eraseIdx i=gD (l.eraseIdx i)
 |[],_=>rfl
 |a::l,0=>rfl
 |a::l,i+1=>by
  show D.int (a:Int)::(gD l).eraseIdx i=_;rw[qV l i];rfl
variable {i:Nat}{l:List Nat}
theorem FD (h:i<l.length)(hl:l.length<=1000):pI (gD l) [.int (i:Int)]=θ (.int ((l.getD i 0:Nat):Int),gD (l.eraseIdx i)):=by
 have e:pI (gD l) [.int (i:Int)]=(kH (gD l).length (i:Int)).bind (pD (gD l)):=by
  unfold pI;exact if_pos ⟨ģ (by decide) (i5 i),Int.lt_of_lt_of_le (Int.ofNat_lt.mpr (av h hl)) (by decide)⟩
 rw[e,mQ (by rw[cD];exact h)];show pD (gD l) i=_;unfold pD;rw[CJ h];dsimp only;rw[if_pos (show (D.int ((l.getD i 0:Nat):Int)).flat=ζ from rfl),qV]
variable {R:Rt}{T:Tb}{d:D}{e:Ex}{env:En}{x y:Nat}
theorem B3 {xs ys rest:List D}{it:D}(ht:Tame env)(Pq:y≠x)(hx:env[x]? = θ (θ (.lst xs,.own)))(hy:env[y]? = θ (θ (.lst ys,.own)))(h:ev T e env=.ok (d,R))(hp:pI xs [d]=θ (it,rest))(lx:rest.length<=lim)(ly:(ys ++ [it]).length<=lim) :
  bH T (.Ot y x (.cons e .nil)) env=.nx ((env.set x (θ (.lst rest,.own))).set y (θ (.lst (ys ++ [it]),.own))):=by
 have ox:ownAt env x=θ (.lst xs):=by unfold ownAt;rw[hx]
 have Sn:aR T (.cons e .nil) env=.ok [(d,R)]:=by rw[aR,h,aA,aR,aA]
 have m1:bW x η env (.lst xs) rest []=.nx (env.set x (θ (.lst rest,.own))):=by
  unfold bW;show (if (decide ([]:List Nat).Nodup&&dD env [] && !([]:List Nat).contains x&&decide (rest.length<=lim))=ζ then Fl.nx ((kill [x] env).set x (θ (.lst rest,.own))) else .bad)=_;rw[if_pos (by rw[cu lx];rfl),gO ht]
 have Ue:Tame (env.set x (θ (.lst rest,.own))):=ht.set (aI _) x;have oy:ownAt (env.set x (θ (.lst rest,.own))) y=θ (.lst ys):=by unfold ownAt;rw[ο (bw Pq),hy]
 have m2:bW y η (env.set x (θ (.lst rest,.own))) (.lst ys) (ys ++ [it]) []=.nx ((env.set x (θ (.lst rest,.own))).set y (θ (.lst (ys ++ [it]),.own))):=by
  unfold bW;show (if (decide ([]:List Nat).Nodup&&dD (env.set x (θ (.lst rest,.own))) [] && !([]:List Nat).contains y&&decide ((ys ++ [it]).length<=lim))=ζ then Fl.nx ((kill [y] (env.set x (θ (.lst rest,.own)))).set y (θ (.lst (ys ++ [it]),.own))) else .bad)=_;rw[if_pos (by rw[cu ly];rfl),gO Ue]
 rw[bH,if_neg Pq,ox];dsimp only[D.Mv];rw[Sn,bC,JM,hp];dsimp only;rw[m1];dsimp only[Fl.andThen];rw[oy];exact m2
theorem CY {xs ys:List Nat}(ht:Tame env)(Pq:y≠x)(hx:env[x]? = θ (oG xs))(hy:env[y]? = θ (oG ys))(h:ev T e env=.ok (.int (i:Int),R))(hi:i<xs.length)(lx:xs.length<=1000)(ly:ys.length<1000) :
  bH T (.Ot y x (.cons e .nil)) env=.nx ((env.set x (oG (xs.eraseIdx i))).set y (oG (ys ++ [xs.getD i 0]))):=by
 have ga:gD (ys ++ [xs.getD i 0])=gD ys ++ [D.int ((xs.getD i 0:Nat):Int)]:=iY _ _;have:=B3 ht Pq hx hy h (FD hi lx) (by rw[cD];exact j7 (bp (Đ ..) lx)) (by rw[<-ga,cD];exact j7 (by simp;omega));rw[this,<-ga]
theorem A3:∀l:List Nat,rX (gD l)=θ (gI l)
 |[]=>rfl
 |a::l=>by
  show (rX (gD l)).map ((a:Int) :: ·)=_;rw[A3 l];rfl
noncomputable def jR (l:List Nat):List Nat:=(gR (gI l)).map Ŝ
theorem Cz (l:List Nat):(gI l).map Ŝ=l:=by
 rw[bh]
 conv=>rhs;rw[<-h_ l]
 exact du λa _=>ey a
theorem gC (l:List Nat):(jR l).Perm l:=by
 have:=(hZ (gI l)).map Ŝ
 rwa [Cz] at this
theorem BB (l:List Nat):(gR (gI l)).map D.int=gD (jR l):=by
 unfold jR;rw[gD,bh];refine du λz hz=>?_
 obtain⟨a,_,rfl⟩:=Δ.mp ((hZ (gI l)).mem_iff.mp hz);show D.int (a:Int)=D.int (((a:Int).toNat:Nat):Int);rw[ey]
theorem yV (hn:l.Nodup):(jR l).Pairwise (· < ·):=by
 have h1:(jR l).Pairwise (·<=·):=by
  unfold jR;rw[jq];refine (kR (gI l)).imp λh=>?_
  omega
 have h2:(jR l).Nodup:=(gC l).nodup_iff.mpr hn;exact (h1.and h2).imp λ⟨a,b⟩=>by omega
variable {a:Ex}
theorem aC.sorted (h:aC T a env (.lst (gD l)))(hl:l.length<64):aC T (.blt .sorted (.cons a .nil)) env (.lst (gD (jR l))):=aC.Ml h (by
 show (match rX (gD l) with
  |some ns=>if ns.length<64 then θ (D.lst ((gR ns).map .int)) else η
  |none=>η)=_
 rw[A3];dsimp only;rw[if_pos (by rw[aj];exact hl),BB])
theorem wd:∀{a b:List Nat},a.Pairwise (· < ·)->b.Pairwise (· < ·)->(∀p,p∈a↔p∈b)->a=b
 |[],[],_,_,_=>rfl
 |[],y::b,_,_,h=>absurd ((h y).mpr ag) (by simp)
 |x::a,[],_,_,h=>absurd ((h x).mp ag) (by simp)
 |x::a,y::b,ha,hb,h=>by
  have Ox:=wT.mp ha;have Ng:=wT.mp hb;have e:x=y:=by
   rcases dm.mp ((h x).mp ag) with q|q
   .exact q
   .rcases dm.mp ((h y).mpr ag) with r|r
    .exact r.symm
    .have:=Ng.1 x q;have:=Ox.1 y r;omega
  subst e;rw[wd Ox.2 Ng.2 λp=>⟨λhp=>?_,λhp=>?_⟩]
  .rcases dm.mp ((h p).mp (aa _ hp)) with q|q
   .have:=Ox.1 p hp;omega
   .exact q
  .rcases dm.mp ((h p).mpr (aa _ hp)) with q|q
   .have:=Ng.1 p hp;omega
   .exact q
theorem mz (n:Nat):(ρ n).Pairwise (· < ·):=List.pairwise_lt_range
theorem pJ {α:Type}{a b:α}(h:Rs.ok a=Rs.ok b):a=b:=by cases h;rfl
theorem cF {α β:Type}{a:Rs α}{f:α->Rs β}{b:β}(h:a.bind f=.ok b):∃x,a=.ok x/\f x=.ok b:=by
 cases a with
 |ok x=>exact⟨x,rfl,h⟩
 |bad=>cases h
theorem vm {d:D}{k:El}{es:kE}(h:aC T (.blt k es) env d)(hd:d.inner=ζ):ev T (.blt k es) env=.ok (d,.mv []):=by
 obtain⟨R,h⟩:=h;have h':=h;rw[ev] at h;obtain⟨p,_,h⟩:=cF h;obtain⟨z,_,h⟩:=cF h;have:=pJ h;rw[ij] at this;obtain⟨rfl,e⟩:=this;rw[h',<-e];unfold ka;rw[if_pos hd]
def XC (T:Tb)(pl:Nat):Prop:=∀(ns:List Int) (m s t:Nat),s<=m->m<=63->∃ps:List Nat,ps.Pairwise (· < ·)/\ps.length=s/\(∀p∈ps,p<m)/\T.cl pl [.lst (ns.map D.int),.int (m:Int),.int (s:Int),.int (t:Int)]=.ok (.lst (gD ps),ζ)
noncomputable def Xa (mx ce:Nat):aU:=(.cons (.asg (.nm 7) (.call mx (L6 (.call ce (L6 LN (.bin .Add LQ LM))) (.bin .Add LQ LM))) ε)
  (.cons (.Ot 5 4 (L5 (.bin .Mod (.bin .FloorDiv LS LD) (L9 LK))))
  .nil))
noncomputable def Zd (mx ce:Nat):aU:=(.cons (.asg (.nm 4) (.blt .OJ (L5 LO)) ε)
  (.cons (.asg (.nm 5) (.lst .nil) ε)
  (.cons (.Mg (.nm 6) (.Mo LL) (Xa mx ce))
  (.cons (.ret (.blt .sorted (L5 LP)))
  .nil))))
theorem pe:∀{l:List Nat}{i:Nat},i<l.length->l.Perm (l.getD i 0::l.eraseIdx i)
 |[],i,h=>by cases h
 |a::l,0,h=>.refl _
 |a::l,i+1,h=>by
  have:=pe (l:=l) (i:=i) (by simpa using h);exact (this.cons a).trans (.swap _ _ _)
structure TV (m k:Nat)(L P:List Nat):Prop where
 nd:(L++P).Nodup
 lt:∀p∈L++P,p<m
 lp:P.length=k
 ll:L.length+k=m
theorem TV.step {m k:Nat}{L P:List Nat}(h:TV m k L P)(hi:i<L.length):TV m (k+1) (L.eraseIdx i) (P ++ [L.getD i 0]):=by
 have e:(L.eraseIdx i++(P ++ [L.getD i 0])).Perm (L++P):=by
  have h1:=pe hi;refine z? ?_ (h1.symm.append_right P);rw[<-fi];refine (Ģ).trans ?_;exact .refl _
 refine⟨e.nodup_iff.mpr h.nd,λp hp=>h.lt p (e.mem_iff.mp hp),by simp[h.lp],?_⟩;have:=h.ll;rw[List.length_eraseIdx_of_lt hi];omega
variable {p:Nat}
theorem yH {q:Nat}(h:q≠p):(l.set p x).getD q 0=l.getD q 0:=by
 rw[ι,ο (bw h),ι]
theorem Ab (h:p<l.length):(l.set p x).getD p 0=x:=by
 rw[ι,ω h];rfl
theorem DL (h:Gr l){g:Nat}(hg:g<64):Gr (l.set p g):=λz hz=>by
 rcases jo hz with q|q
 .exact h z q
 .rw[q];exact hg
theorem Iy {a e:Nat}(h:e≠0):a^^^e≠a:=λq=>h (by
 have:a^^^(a^^^e)=a^^^a:=by rw[q]
 rwa [<-bj,gq,cg] at this)
theorem xl {n:Nat}(hd:((ρ n).map λ(k:Nat)=>D.int (k:Int))[i]? = θ d):i<n/\d=.int (i:Int):=by
 rw[π] at hd;have Oj:i<n:=by
  cases q:(ρ n)[i]? with
  |none=>rw[q] at hd;cases hd
  |some z=>have:=(χ.mp q).1;rwa [bq] at this
 rw[sw Oj] at hd;cases hd;exact⟨Oj,rfl⟩
variable {b:Ex}
section
variable {T:Tb}{env:En}{d:D}
theorem nK {op:At}(h:aC T (.bin op a b) env d)(hd:d.inner=ζ):ev T (.bin op a b) env=.ok (d,.mv []):=by
 obtain⟨R,h⟩:=h;have h':=h;rw[ev] at h;obtain⟨p,_,h⟩:=cF h;obtain⟨q,_,h⟩:=cF h;obtain⟨z,_,h⟩:=cF h;have:=pJ h;rw[ij] at this;obtain⟨rfl,e⟩:=this;rw[h',<-e];unfold ka;rw[if_pos hd]
theorem Ta {lo hi:nP}(h:aC T (.sl a lo hi) env d)(hd:d.inner=ζ):ev T (.sl a lo hi) env=.ok (d,.mv []):=by
 obtain⟨R,h⟩:=h;have h':=h;rw[ev] at h;obtain⟨p,_,h⟩:=cF h;obtain⟨q,_,h⟩:=cF h;obtain⟨r,_,h⟩:=cF h;obtain⟨z,_,h⟩:=cF h;have:=pJ h;rw[ij] at this;obtain⟨rfl,e⟩:=this;rw[h',<-e];unfold ka;rw[if_pos hd]
theorem U3 {i:Ex}(h:aC T (.ix a i) env d)(hd:d.flat=ζ):ev T (.ix a i) env=.ok (d,.mv []):=by
 obtain⟨R,h⟩:=h;have h':=h;rw[ev] at h;obtain⟨p,_,h⟩:=cF h;obtain⟨q,_,h⟩:=cF h;obtain⟨z,_,h⟩:=cF h;have:=pJ h;rw[ij] at this;obtain⟨rfl,e⟩:=this;rw[h',<-e];unfold wB;rw[if_pos hd]
theorem Ay (h:aC T (.var i) env d)(hd:d.flat=ζ):ev T (.var i) env=.ok (d,.mv []):=by
 obtain⟨R,h⟩:=h;cases q:env[i]? with
 |none=>rw[ev,q] at h;cases h
 |some o=>
  cases o with
  |none=>rw[ev,q] at h;cases h
  |some p=>
   obtain⟨d',t⟩:=p;rw[ev,q] at h;have:=pJ h;rw[ij] at this;obtain⟨rfl,e⟩:=this;exact BF q hd
theorem eJ (l:List Nat):(D.lst (gD l)).inner=ζ:=sJ l
theorem aC.of (h:ev T e env=.ok (d,R)):aC T e env d:=⟨R,h⟩
theorem aC.RQ {x y:D}(h:aC T a env x)(h2:aC T b env y):aC T (.lst (.cons a (.cons b .nil))) env (.lst [x,y]):=by
 obtain⟨R,h⟩:=h;obtain⟨R2,h2⟩:=h2;exact⟨_,by rw[ev,aR,h,aA,aR,h2,aA,aR,aA,aA,aA];exact if_pos (by show (2:Nat)<=lim;decide)⟩
end
structure Tv (env:En)(vs:List (Option (D×Bool))):Prop where
 len:env.length=vs.length
 tm:Tame env
 at':∀(j:Nat) (d:D) (b:Bool),vs[j]? = θ (θ (d,b))->∃t,env[j]? = θ (θ (d,t))/\(b=ζ->t=.own)
section
variable {T:Tb}{env:En}{vs:List (Option (D×Bool))}{d:D}
theorem Tv.vw (h:Tv env vs):Vw env (vs.map λo=>o.map (·.1)):=by
 refine⟨by rw[aj];exact h.len,λj d e=>?_⟩;rw[π] at e;cases q:vs[j]? with
 |none=>rw[q] at e;cases e
 |some o=>
  cases o with
  |none=>rw[q] at e;cases e
  |some p=>
   rw[q] at e;cases e;obtain⟨t,a,_⟩:=h.at' j p.1 p.2 q;exact⟨t,a⟩
theorem Tv.own (h:Tv env vs)(e:vs[i]? = θ (θ (d,ζ))):env[i]? = θ (θ (d,.own)):=by
 obtain⟨t,a,b⟩:=h.at' i d ζ e;rw[a,b rfl]
theorem Tv.var (h:Tv env vs){i:Nat}{b:Bool}(e:vs[i]? = θ (θ (d,b))):aC T (.var i) env d:=by
 obtain⟨t,a,_⟩:=h.at' i d b e;rw[aC,ev,a];exact⟨_,rfl⟩
theorem Tv.set (h:Tv env vs)(i:Nat)(d:D)(t:Tg)(b:Bool)(ht:pU (θ (d,t)))(hb:b=ζ->t=.own):Tv (env.set i (θ (d,t))) (vs.set i (θ (d,b))):=by
 refine⟨by rw[aq,aq];exact h.len,h.tm.set ht i,λj x y e=>?_⟩;by_cases hj:i=j
 .subst hj;have hl:i<vs.length:=by
   have:=(χ.mp e).1
   rwa [aq] at this
  rw[ω hl] at e;cases e;exact⟨t,ω (by rw[h.len];exact hl),hb⟩
 .rw[ο hj] at e;rw[ο hj];exact h.at' j x y e
theorem Tv.asg (h:Tv env vs){i:Nat}(hi:i<vs.length){e:Ex}(he:ev T e env=.ok (d,.mv [])):∃env',bH T (.asg (.nm i) e ε) env=.nx env'/\Tv env' (vs.set i (θ (d,ζ))) :=
 ⟨_,sD h.tm (by rw[h.len];exact hi) he,h.set i d .own ζ (aI _) λ_=>rfl⟩
theorem Tv.SN (h:Tv env vs){i:Nat}(hi:i<vs.length)(k:Int):∃env',bP [] (.nm i) (.int k) env=θ env'/\Tv env' (vs.set i (θ (.int k,ζ))) :=
 ⟨_,AZ h.tm (by rw[h.len];exact hi),h.set i _ .own ζ (aI _) λ_=>rfl⟩
theorem Tv.start (ds:List D)(n:Nat):Tv (aD ds n) (ds.map (λd=>θ (d,ε))++ξ (n-ds.length) η):=by
 unfold aD;refine⟨by simp,λs hs=>?_,λj d b e=>?_⟩
 .rcases ig.mp hs with q|q
  .obtain⟨d,_,rfl⟩:=Δ.mp q;unfold cU;split
   .exact aI _
   .exact yi _
  .rw[Ĉ q];exact mR
 .by_cases hj:j<ds.length
  .rw[Ν (by rw[aj];exact hj),π] at e;rw[Ν (by rw[aj];exact hj),π];cases q:ds[j]? with
   |none=>rw[q] at e;cases e
   |some x=>rw[q] at e;cases e;exact⟨_,rfl,λh=>by cases h⟩
  .rw[Τ (by rw[aj];omega),bv] at e;split at e<;>cases e
end
end Pc.Vw
end
section
namespace K24
open PySem Pc Pc.Sm Pc.Gr Pc.Lw Pc.Vw Fl64 Md
noncomputable def b0:aU:=(.cons (.asg (.nm 2) (.ix (.NC 3) LN) ε)
  (.cons (.asg (.nm 3) (.bin .FloorDiv (.ix (.NC 2) LN) LL) ε)
  (.cons (.asg (.nm 4) (.bin .Mod (.ix (.NC 2) LN) LL) ε)
  (.cons (.asg (.nm 5) (.bin .Mult Ly (.bin .Add (.bin .FloorDiv (.bin .Mult LM (.bin .Add LO Lz)) (LJ 16)) Lz)) ε)
  (.cons (.asg (.nm 6) (.lst .nil) ε)
  (.cons (.Mg (.nm 7) (.Mo LL) (.cons (.asg (.nm 8) (.ite (.cmp .GtE LS (.bin .Sub LL LK)) (.bin .Add LM Lz) LM) ε)
  (.cons (.mut 6 .none .append (L5 (.tup (L6 (.bin .Sub LU LP) LP))))
  .nil)))
  (.cons (.ret LQ)
  .nil)))))))
noncomputable def b1:aU:=(.cons (.asg (.nm 1) (.lst .nil) ε)
  (.cons (.Mg (.nm 3) (.Mo (.blt .Od (L6 (.comp 1 [] (.nm 0) (.seq LN) .none (L9 LN)) LA))) (.cons (.Mg (.nm 2) (.seq LN) (.cons (.ite (.cmp .Lt LM (L9 LL)) (.cons (.mut 1 .none .append (L5 (.ix LL LM)))
  .nil) .nil)
  .nil))
  .nil))
  (.cons (.ret LO)
  .nil)))
noncomputable def b2:aU:=(.cons (.asg (.nm 3) (.comp 1 [] (.nm 0) (.seq LO) .none (.lst .nil)) ε)
  (.cons (.asg (.nm 4) LA ε)
  (.cons (.Mg (.nm 5) (.Mo (.blt .Od (L6 LO LA))) (.cons (.Mg (.tp [6,2]) (.enum LO) (.cons (.ite (.cmp .Lt LP LL) (.cons (.mut 3 (.some LQ) .append (L5 (.ix LN LK)))
  (.cons (.aug 4 .Add Lz)
  .nil)) .nil)
  .nil))
  .nil))
  (.cons (.ret LM)
  .nil))))
noncomputable def b3:aU:=Bj 0 1
noncomputable def b4:aU:=Zh 0 5
noncomputable def b5:aU:=JA 3
noncomputable def b6:aU:=K4 3
noncomputable def b7:aU:=Zb 3
noncomputable def b8:aU:=Zc 7
noncomputable def b9:aU:=Zm 5
noncomputable def Xv:aU:=Zo 3 8 9
noncomputable def Xu:aU:=Zi 9 6
noncomputable def Xt:aU:=Zf 6 9 11 14 19
noncomputable def Xs:aU:=Zg 5
noncomputable def Xr:aU:=Y7 6 7 8 13 15
noncomputable def Xq:aU:=Y8 3 4 16 17 18
noncomputable def Xp:aU:=Zj 3
noncomputable def Xo:aU:=Y9 3
noncomputable def Xn:aU:=Zp
noncomputable def Xm:aU:=Zn 3 4 6 7 8 13 20
noncomputable def Xl:aU:=Zk 3
noncomputable def Xk:aU:=(.cons (.asg (.nm 3) (.lst .nil) ε)
  (.cons (.asg (.nm 4) LA ε)
  (.cons (.Mg (.tp [5,6]) (.seq (.call 0 (L6 LO LL))) (.cons (.asg (.nm 7) (.sl LN (.some LK) (.some (.bin .Add LK LP))) ε)
  (.cons (.mut 3 .none .append (L5 (.bin .Add LS (.call 10 (L6 LS LQ)))))
  (.cons (.aug 4 .Add LP)
  .nil))))
  (.cons (.ret (.call 1 (L5 LM)))
  .nil))))
noncomputable def TU:aU:=(.cons (.asg (.nm 4) (.call 0 (L6 LL LM)) ε)
  (.cons (.asg (.nm 5) (.comp 2 [] (.tp [0,1]) (.seq LK) .none (.bin .Add LN LO)) ε)
  (.cons (.asg (.nm 6) (.call 2 (L6 LN LP)) ε)
  (.cons (.asg (.nm 7) (.call 2 (L6 (.comp 1 [1] (.nm 0) (.Mo (L9 LN)) .none (.cmp .In LN LO)) LP)) ε)
  (.cons (.asg (.nm 8) (.lst .nil) ε)
  (.cons (.asg (.nm 9) (.lst .nil) ε)
  (.cons (.Mg (.tp [10,11]) (.enum LK) (.cons (.asg (.nm 12) (.comp 2 [] (.tp [0,1]) (.enum (.ix LS LW)) (.some LO) LN) ε)
  (.cons (.asg (.nm 13) (.call 23 (L8 (.ix LQ LW) LX (.ix LY Lz) LW)) ε)
  (.cons (.mut 8 .none .extend (L5 (.sl (.ix LZ LA) .none (.some (.ix LY LA)))))
  (.cons (.mut 9 .none .append (L5 (.tup (L6 (L9 (.ix LZ Lz)) (L9 LX)))))
  .nil)))))
  (.cons (.ret (.tup (L6 LU L1)))
  .nil))))))))
noncomputable def Jy:aU:=(.cons (.ite (.cst (.bl ζ)) (.cons (.ret (.call 12 (L7 LN LO LL)))
  .nil) .nil)
  .nil)
noncomputable def Zr:aU:=bWh
noncomputable def Xj:aU:=Zl
noncomputable def Xi:aU:=Ze
noncomputable def Xh:aU:=Za 26
noncomputable def Fo:aU:=(.cons (.asg (.nm 1) (.call 26 (L6 (.call 25 (L6 LN LA)) Lz)) ε)
  (.cons (.asg (.nm 2) (.ix (.lst (.cons LF (.cons LD (.cons LF (.cons LG (L8 (LJ 27) LF LD (LJ 19))))))) (.bin .Mod LO LH)) ε)
  (.cons (.asg (.nm 3) (.ix (.lst (.cons (LJ 16) (L8 (LJ 37) LC (LJ 96) (LJ 133)))) (.bin .FloorDiv (.bin .Sub LL LG) LI)) ε)
  (.cons (.asg (.nm 4) (.ix (.lst (.cons Lz (L8 Lz Ly Ly LB))) (.bin .FloorDiv (.bin .Sub LL LG) LI)) ε)
  (.cons (.asg (.nm 5) (.bin .Mod (.bin .FloorDiv LO LH) LI) ε)
  (.cons (.ite (.cmp .Gt LL LF) (.cons (.asg (.nm 5) (.bin .Mod LP Ly) ε)
  .nil) .nil)
  (.cons (.asg (.nm 6) (.bin .Mult Ly (.bin .Add (.bin .FloorDiv (.bin .Mult (.bin .FloorDiv LM LK) (.bin .Add LP Lz)) (LJ 16)) Lz)) ε)
  (.cons (.asg (.nm 7) (.comp 1 [4,3] (.nm 0) (.Mo LK) .none (.bin .Add (.bin .FloorDiv LL LO) (.blt .int (L5 (.cmp .GtE (.bin .Add LN (.bin .Mod LL LO)) LO))))) ε)
  (.cons (.ret (.tup (L8 LL LP LS LQ)))
  .nil)))))))))
noncomputable def Zq:aU:=(.cons (.asg (.nm 1) (.lst .nil) ε)
  (.cons (.Mg (.nm 2) (.Mo LC) (.cons (.Mg (.nm 3) (.Mo (L9 LN)) (.cons (.ite (.cmp .Lt LL (.ix LN LM)) (.cons (.mut 1 .none .append (L5 (.tup (L6 LM LL))))
  .nil) .nil)
  .nil))
  .nil))
  (.cons (.ret LO)
  .nil)))
noncomputable def Xg:aU:=Zd 26 25
noncomputable def Kf:aU:=(.cons (.asg (.tp [1,2,3,4]) (.call 28 (L5 LN)) ε)
  (.cons (.asg (.nm 5) (.call 27 (L6 LN (.bin .Sub (.blt .sum (L5 LM)) (.bin .Mult LK (L9 LM))))) ε)
  (.cons (.asg (.nm 6) (.call 21 (L7 (.blt .list (L5 LP)) LO LL)) ε)
  (.cons (.asg (.nm 7) (.call 29 (L5 LM)) ε)
  (.cons (.asg (.nm 8) (.call 26 (L6 (.call 25 (L6 LN Lz)) Ly)) ε)
  (.cons (.asg (.nm 10) (.comp 1 [8] (.nm 0) (.Mo (L9 LM)) (.some (.cmp .Eq (.bin .BitAnd (.bin .RShift (.bin .FloorDiv LO LH) LN) Lz) Lz)) LN) ε)
  (.cons (.ite (.cmp .Eq LW (.lst .nil)) (.cons (.asg (.nm 10) (.lst (L5 (.bin .Mod LU (L9 LM)))) ε)
  .nil) .nil)
  (.cons (.asg (.nm 11) (.lst .nil) ε)
  (.cons (.asg (.nm 12) (.lst .nil) ε)
  (.cons (.Mg (.nm 9) (.Mo (L9 LM)) (.cons (.asg (.nm 13) (.bin .Add LB (.bin .Mult (LJ 41) L1)) ε)
  (.cons (.asg (.nm 14) LA ε)
  (.cons (.ite (.cmp .NotIn L1 LW) (.cons (.asg (.nm 14) (.bin .Mod (.bin .FloorDiv (.call 26 (L6 (.call 25 (L6 LN LZ)) LZ)) (LJ 5)) (.bin .Add (.bin .FloorDiv LK Ly) Lz)) ε)
  .nil) (.cons (.ite (.cmp .Eq (.bin .BitAnd (.bin .RShift (.bin .FloorDiv LU (LJ 4096)) L1) Lz) Lz) (.cons (.asg (.nm 14) (.bin .FloorDiv LK Ly) ε)
  .nil) .nil)
  .nil))
  (.cons (.mut 12 .none .append (L5 (.tup (L6 L3 LA))))
  (.cons (.asg (.nm 15) (.and (.cmp .In L1 LW) (.cmp .Gt L3 LA)) ε)
  (.cons (.asg (.nm 16) (.call 30 (L8 LN (.ix LM L1) (.bin .Add L3 (.blt .int (L5 L4))) (.bin .Add LZ Lz))) ε)
  (.cons (.ite L4 (.cons (.Nl 11 7 16 L1 (L5 LA))
  .nil) .nil)
  (.cons (.Mg (.nm 17) (.seq (.var 16)) (.cons (.asg (.nm 18) (.Pn .Mq LS (L5 (.tup (L6 L1 (.var 17))))) ε)
  (.cons (.MD 6 .none (.var 18) (.bin .BitXor (.ix LQ (.var 18)) (.bin .Add Lz (.bin .Mod (.bin .FloorDiv (.call 26 (L6 (.call 25 (L6 LN (.var 17))) LZ)) (LJ 17)) (LJ 63)))))
  .nil)))
  (.cons (.ite (.and (.cmp .In L1 LW) (.not L4)) (.cons (.asg (.nm 19) (.call 30 (L8 LN (.ix LM L1) (.bin .Add LK Lz) (.bin .Add LZ Lz))) ε)
  (.cons (.mut 11 .none .extend (L5 (.comp 1 [9,7] (.nm 0) (.seq (.var 19)) .none (.Pn .Mq LL (L5 (.tup (L6 LO LN)))))))
  .nil)) .nil)
  .nil))))))))))
  (.cons (.ite (.not (.call 31 (.cons LQ (L8 (.blt .sorted (L5 LY)) LO LL (.ix LW LA))))) (.cons (.ret (.cst (.bl ε)))
  .nil) .nil)
  (.cons (.ret (.cmp .Eq (.call 22 (L8 (.blt .list (L5 LQ)) (.lst .nil) LO LL)) (.tup (L6 LP LX))))
  .nil))))))))))))
noncomputable def nb:Nat->Nat
 |0=>1|1=>1|2=>2|3=>2|_=>3
noncomputable def rm:Nat->Nat
 |0=>16|1=>37|2=>64|3=>96|_=>133
noncomputable def C (a b:Nat):Nat:=2*(rm a / nb a*(b+1) / 16+1)
noncomputable def CT (a:Nat):List Nat:=(ρ (nb a)).map λj=>rm a / nb a+(if nb a-rm a%nb a<=j then 1 else 0)
noncomputable def DU (a b:Nat):List Nat:=(CT a).map λx=>x-C a b
noncomputable def SP (a:Nat):List (Nat×Nat):=((ρ 64).map λk=>((ρ (nb a)).filter λj=>decide (k<(CT a).getD j 0)).map λj=>(j,k)).flatten
noncomputable def AT (a:Nat):List (List Nat):=(ρ (nb a)).map λj=>(ρ ((CT a).getD j 0)).map λk=>(SP a).idxOf (j,k)
noncomputable def pos (a j k:Nat):Nat:=((AT a).getD j []).getD k 0
noncomputable def jT (a:Nat)(sp:List Nat)(j:Nat):List Nat:=(ρ ((CT a).getD j 0)).map λk=>sp.getD (pos a j k) 0
noncomputable def ku (a:Nat)(M:List Nat)(j:Nat):List Nat:=(ρ ((CT a).getD j 0)).filter λk=>M.contains (pos a j k)
structure vZ (a b k:Nat)(sp M:List Nat):Prop where
 ha:a<5
 hb:b<4
 hk:k<nb a
 ls:sp.length=rm a
 gs:Gr sp
 lm:M.length<=1000
 le:∀j,j<k->(ku a M j).length<=C a b/\rC (jT a sp j) (ku a M j) (C a b)=ε
 no:C a b<(ku a M k).length\/rC (jT a sp k) (ku a M k) (C a b)=ζ
open Classical in
noncomputable def wD (ds:List D):Option D:=if ∃a b k sp M,vZ a b k sp M/\ds=[.lst (gD sp),.lst (gD M),.int (15+4*(a:Int)),.int (b:Int),.int (k:Int)] then θ (.bl ζ) else η
noncomputable def Ai:Ex:=.call 22 (L8 (.bin .Add (.lst (L5 Lz)) (.bin .Mult (.lst (L5 LA)) LG)) (.lst .nil) LG LA)
noncomputable def TR:aU:=.cons (.expr Ai) (.cons (.ret (.app wD (.cons LN (L8 LO LL LM LK)))) .nil)
noncomputable def fns:List Fn:=[⟨2,9,b0⟩,⟨1,4,b1⟩,⟨2,7,b2⟩,⟨2,5,b3⟩,⟨1,1,b4⟩,⟨2,5,b5⟩,⟨2,4,b6⟩,⟨2,7,b7⟩,⟨1,3,b8⟩,⟨1,1,b9⟩,⟨2,8,Xv⟩,⟨2,2,Xu⟩,⟨3,7,Xt⟩,⟨2,2,Xs⟩,⟨3,7,Xr⟩,⟨1,8,Xq⟩,⟨3,6,Xp⟩,⟨2,2,Xo⟩,⟨2,5,Xn⟩,⟨3,9,Xm⟩,⟨2,4,Xl⟩,⟨3,8,Xk⟩,⟨4,14,TU⟩,⟨4,4,Jy⟩,⟨1,1,Zr⟩,⟨2,2,Xj⟩,⟨2,3,Xi⟩,⟨2,4,Xh⟩,⟨1,8,Fo⟩,⟨1,4,Zq⟩,⟨4,8,Xg⟩,⟨5,9,TR⟩,⟨1,20,Kf⟩]
noncomputable def gl:Nat->D
 |0=>.int 64
 |1=>.int 67
 |2=>.Np [(.inl 15,θ 16),(.inl 19,θ 37),(.inl 23,θ 64),(.inl 27,θ 96),(.inl 31,θ 133)]
 |3=>.Np [(.inl 15,θ 1),(.inl 19,θ 1),(.inl 23,θ 2),(.inl 27,θ 2),(.inl 31,θ 3)]
 |_=>.Mh
noncomputable abbrev T (n:Nat):Tb:=⟨Pc.run fns gl 1000 n,gl,1000⟩
theorem mj (n:Nat):(T n).cl=Pc.run fns gl 1000 n:=rfl
end K24
end
section
namespace Pc.Vw
open PySem Pc Pc.Sm Pc.Gr Pc.Lw Fl64 Md
variable {e:Ex}{vs:List (Option (D×Bool))}{xs:List D}
section
variable {T:Tb}{env:En}{a b c g:Ex}{x y z w r:D}{f:Nat}
theorem oV (h:aC T a env x)(e:T.cl f [x]=.ok (r,ζ)):ev T (.call f (.cons a .nil)) env=.ok (r,.mv []):=by
 obtain⟨R,h⟩:=h;rw[ev,aR,h,aA,aR,aA,aA];show (T.cl f [x]).bind _=_;rw[e,aA];rfl
theorem bV (h:aC T a env x)(h2:aC T b env y)(e:T.cl f [x,y]=.ok (r,ζ)):ev T (.call f (.cons a (.cons b .nil))) env=.ok (r,.mv []):=by
 obtain⟨R,h⟩:=h;obtain⟨R2,h2⟩:=h2;rw[ev,aR,h,aA,aR,h2,aA,aR,aA,aA,aA];show (T.cl f [x,y]).bind _=_;rw[e,aA];rfl
theorem we (h:aC T a env x)(h2:aC T b env y)(h3:aC T c env z)(e:T.cl f [x,y,z]=.ok (r,ζ)):ev T (.call f (.cons a (.cons b (.cons c .nil)))) env=.ok (r,.mv []):=by
 obtain⟨R,h⟩:=h;obtain⟨R2,h2⟩:=h2;obtain⟨R3,h3⟩:=h3;rw[ev,aR,h,aA,aR,h2,aA,aR,h3,aA,aR,aA,aA,aA,aA];show (T.cl f [x,y,z]).bind _=_;rw[e,aA];rfl
theorem wH (h:aC T a env x)(h2:aC T b env y)(h3:aC T c env z)(h4:aC T g env w)(e:T.cl f [x,y,z,w]=.ok (r,ζ)):ev T (.call f (.cons a (.cons b (.cons c (.cons g .nil))))) env=.ok (r,.mv []):=by
 obtain⟨R,h⟩:=h;obtain⟨R2,h2⟩:=h2;obtain⟨R3,h3⟩:=h3;obtain⟨R4,h4⟩:=h4;rw[ev,aR,h,aA,aR,h2,aA,aR,h3,aA,aR,h4,aA,aR,aA,aA,aA,aA,aA];show (T.cl f [x,y,z,w]).bind _=_;rw[e,aA];rfl
theorem Tv.app (h:Tv env vs){x:Nat}{d:D}(hx:vs[x]? = θ (θ (.lst xs,ζ)))(he:ev T e env=.ok (d,.mv []))(hl:xs.length<1000):∃env',bH T (.mut x .none .append (.cons e .nil)) env=.nx env'/\Tv env' (vs.set x (θ (.lst (xs ++ [d]),ζ))) :=
 ⟨_,Ej h.tm (h.own hx) he (j7 (by omega)),h.set x _ .own ζ (aI _) λ_=>rfl⟩
theorem Tv.Qj (V:Tv env vs){i j:Nat}{x y:D}(Sl:i≠j)(hi:vs[i]? = θ (θ (x,ζ)))(hj:vs[j]? = θ (θ (y,ζ))):Pc.ret (aE T (.cons (.ret (.tup (L6 (.var i) (.var j)))) .nil) env)=.ok (.tup [x,y],ζ):=by
 have a:=V.own hi;have b:=V.own hj;have hv:∀{i:Nat}{d:D},env[i]? = θ (θ (d,.own))->∃R,ev T (.var i) env=.ok (d,.mv R)/\(R=[]\/R=[i]):=λ{i d} e=>by
  rw[ev,e];by_cases hf:d.flat=ζ
  .exact⟨[],by simp[hf],.inl rfl⟩
  .exact⟨[i],by simp[hf],.inr rfl⟩
 obtain⟨R,e1,r1⟩:=hv a;obtain⟨R',e2,r2⟩:=hv b;rw[aE,bH,ev,aR,e1,aA,aR,e2,aA,aR,aA,aA,aA,if_pos (show [(x,Rt.mv R),(y,Rt.mv R')].length<=lim from (by show (2:Nat)<=lim;decide)),bC];rcases r1 with rfl|rfl<;>rcases r2 with rfl|rfl<;>simp[a,b,xq,Pc.ret,dD,dX,pF,Sl]
end
variable {R:List Nat}{it:qc}
theorem CN {α:Type}{T:Tb}{env:En}{own:Nat}{pick:List Nat}{t:md}{c:nP}{e:Ex}{l:List α}{g r:α->D}{k:α->Bool}(hit:iL T it env=.ok (l.map g,R))(hl:l.length<=1000)
  (hs:∀a∈l,∃e1,bP [] t (g a) (bU env own pick)=θ e1/\vY T c e1=.ok (k a)/\aC T e e1 (r a)/\(r a).flat=ζ):ev T (.comp own pick t it c e) env=.ok (.lst ((l.filter k).map r),.mv []):=by
 have key:∀(l:List α),(∀a∈l,∃e1,bP [] t (g a) (bU env own pick)=θ e1/\vY T c e1=.ok (k a)/\aC T e e1 (r a)/\(r a).flat=ζ)->∃qs:List (D×Rt),ke (λd=>iZ (bP [] t d (bU env own pick)) (vY T c) (ev T e)) (l.map g)=.ok qs/\qs.map (·.1)=(l.filter k).map r/\qs.all (λq=>q.1.flat || ko q.2)=ζ:=by
  intro l
  induction l with
  |nil=>exact λ_=>⟨[],rfl,rfl,rfl⟩
  |cons a l ih=>
   intro h;obtain⟨qs,a1,a2,a3⟩:=ih λb hb=>h b (aa _ hb)
   obtain⟨e1,hb,hc,⟨R',hR⟩,hf⟩:=h a ag;rw[bo,ke,hb,iZ,hc,aA];cases hk:k a with
   |true=>
    rw[if_pos rfl,hR,aA,aA,a1,aA,ď hk];exact⟨_,rfl,by rw[bo,a2];rfl,by rw[iw,a3,hf];rfl⟩
   |false=>
    rw[if_neg (by decide),aA,a1,aA,Ď (by rw[hk];decide)];exact⟨_,rfl,a2,a3⟩
 obtain⟨qs,a1,a2,a3⟩:=key l hs;rw[ev,hit,aA,a1,aA];dsimp only;rw[if_pos (by rw[aj];exact j7 hl),a2,a3];rfl
variable {T:Tb}{env:En}{k:Bool}
theorem Lm (h:aC T e env (.bl k)):vY T (.some e) env=.ok k:=by
 obtain⟨R,h⟩:=h;rw[vY,h,aA];rfl
variable {a:Ex}
theorem Kr {b:Ex}{x y:D}(h:ev T a env=.ok (x,.mv []))(h':ev T b env=.ok (y,.mv [])):ev T (.tup (.cons a (.cons b .nil))) env=.ok (.tup [x,y],.mv []):=by
 rw[ev,aR,h,aA,aR,h',aA,aR,aA,aA,aA];rfl
theorem Tv.ext {T:Tb}(h:Tv env vs){x:Nat}{ys:List D}(hx:vs[x]? = θ (θ (.lst xs,ζ)))(he:ev T e env=.ok (.lst ys,.mv []))(hf:D.Mk ys=ζ)(hl:xs.length+ys.length<=1000):∃env',bH T (.mut x .none .extend (.cons e .nil)) env=.nx env'/\Tv env' (vs.set x (θ (.lst (xs++ys),ζ))):=by
 have ho:ownAt env x=θ (.lst xs):=by unfold ownAt;rw[h.own hx]
 have hs:aR T (.cons e .nil) env=.ok [(.lst ys,.mv [])]:=by rw[aR,he,aA];rfl
 have Sj:(xs++ys).length<=lim:=by rw[ba];exact j7 hl
 refine⟨_,?_,h.set x (.lst (xs++ys)) .own ζ (aI _) λ_=>rfl⟩;rw[bH,ho];simp only[nt,bC,D.Mv,hs,bo,è,AH,hf,aO,Rt.roots,dw,Ŏ,aw,í,c9,if_false,if_true,vo.MF,bW,dX,cq];simp only[bc,decide_true,dD,Ė,Ñ,Z9,Sj,if_true,D.M0,iy];rw[gO h.tm]
variable {l:List D}{t:md}
theorem xj {b:aU}{e:En}(hit:iL T it env=.ok (l,R))(h:gK t R (aE T b) l (lock R env)=.nx e):bH T (.Mg t it b) env=.nx (unlock R env e):=by
 rw[bH,hit,bC];dsimp only;rw[h]
theorem Tv.unlock {e env:En}(V:Tv e vs)(R:List Nat):Tv (unlock R env e) vs:=by
 have ln:(Pc.unlock R env e).length=e.length:=by unfold Pc.unlock;rw[ļ]
 have Mv:∀(i:Nat) (s:Slot),e[i]? = θ s->∃s',(Pc.unlock R env e)[i]? = θ s'/\(pU s->pU s')/\∀d t,s=θ (d,t)->∃t',s'=θ (d,t')/\(t=.own->t'=.own):=λi s h=>by
  unfold Pc.unlock;rw[am,h];refine⟨_,rfl,?_⟩;cases s with
  |none=>exact⟨λh=>h,λd t h=>by cases h⟩
  |some p=>
   obtain⟨d,t⟩:=p;cases t with
   |own=>exact⟨λh=>h,λd t h=>by cases h;exact⟨_,rfl,λh=>h⟩⟩
   |sh Q=>exact⟨λh=>h,λd t h=>by cases h;exact⟨_,rfl,λh=>h⟩⟩
   |lk=>
    dsimp only;split
    .split
     .exact⟨λ_=>aI _,λd t h=>by cases h;exact⟨_,rfl,λ_=>rfl⟩⟩
     .exact⟨λh=>h,λd t h=>by cases h;exact⟨_,rfl,λh=>h⟩⟩
    .exact⟨λh=>h,λd t h=>by cases h;exact⟨_,rfl,λh=>h⟩⟩
 refine⟨ln.trans V.len,λs hs=>?_,λj d b h=>?_⟩
 .obtain⟨i,hi,rfl⟩:=Ī.mp hs;rw[ln] at hi;obtain⟨s',a1,a2,_⟩:=Mv i e[i] (υ hi);have:=χ.mp a1;obtain⟨_,rfl⟩:=this;exact a2 (V.tm _ (iq _))
 .obtain⟨t,h1,h2⟩:=V.at' j d b h;obtain⟨s',a1,_,a3⟩:=Mv j _ h1;obtain⟨t',rfl,h3⟩:=a3 d t rfl;exact⟨t',a1,λhb=>h3 (h2 hb)⟩
variable {z:D}
section
variable {T:Tb}{y:Nat}{d x:D}{env:En}{vs:List (Option (D×Bool))}
theorem JH {m:Pc.TY}{o:Ex}{u w:D}(h:aC T o env u)(h':aC T e env w)(hm:yI m u [w]=θ z)(hz:z.inner=ζ):ev T (.Pn m o (.cons e .nil)) env=.ok (z,.mv []):=by
 obtain⟨R,h⟩:=h;obtain⟨R',h'⟩:=h';rw[ev,h,aA,aR,h',aA,aR,aA,aA];show (pS (yI m u [w])).bind _=_;rw[hm,fG,aA,ka,if_pos hz]
end
noncomputable abbrev Vs:=List (Option (D×Bool))
def Wp (T:Tb)(ss:aU)(env:En)(Q:Fl->Prop):Prop:=Q (aE T ss env)
noncomputable abbrev Rd (d:D)(f:Fl):Prop:=Pc.ret f=.ok (d,ζ)
def Nx (P:Vs->Prop)(f:Fl):Prop:=∃e us,(f=.nx e\/f=.ct e)/\P us/\Tv e us
variable {c:Ex}{us:Vs}{ws:List (Option D)}{x:Nat}
section
variable {T:Tb}{env:En}{vs:Vs}{Q:Fl->Prop}{P:Vs->Prop}{r b p:aU}{d:D}{i j:Nat}{e:Ex}{w:Bool}{gs:List Nat}{m n:Nat}
theorem Wp.st {s:St}{e:En}(q:bH T s env=.nx e)(h:Wp T r e Q):Wp T (.cons s r) env Q:=by
 unfold Wp;rw[aE,q];exact h
theorem Tv.nil (V:Tv env vs)(h:P vs):Wp T .nil env (Nx P):=⟨env,vs,.inl (by rw[aE]),h,V⟩
theorem Tv.sA (V:Tv env vs)(he:ev T e env=.ok (d,.mv []))(k:∀e',Tv e' (vs.set i (θ (d,ζ)))->Wp T r e' Q)(hi:i<vs.length:=by exact cv rfl):Wp T (.cons (.asg (.nm i) e ε) r) env Q :=
 let ⟨e',q,V'⟩:=V.asg hi he
 .st q (k e' V')
theorem Wp.ite {k:Bool}(hc:aC T c env (.bl k))(h:k=ζ->Wp T p env λf=>∃e,f=.nx e/\Wp T r e Q)(h':k=ε->Wp T r env Q):Wp T (.cons (.ite c p .nil) r) env Q:=by
 cases k with
 |true=>obtain⟨e,q,x⟩:=h rfl;exact .st (by rw[ze hc];exact q) x
 |false=>exact .st (by rw[ze hc];exact (by rw[aE]:aE T .nil env=.nx env)) (h' rfl)
theorem Tv.OE (V:Tv env vs){k:Ex}(hx:vs[x]? = θ (θ (.lst (gD gs),ζ)))(hk:aC T k env (.int (m:Int)))(hm:m<gs.length)(hl:gs.length<=1000)(he:ev T e env=.ok (.int (n:Int),.mv []))(c:∀e',Tv e' (vs.set x (θ (.lst (gD (gs.set m n)),ζ)))->Wp T r e' Q):Wp T (.cons (.MD x .none k e) r) env Q:=by
 obtain⟨R,hk⟩:=hk;have:=DO (T:=T) (x:=x) V.tm (V.own hx) hk (mQ (n:=(gD gs).length) (by rw[cD];exact hm)) he (by rw[cD];exact j7 hl);rw[Jf] at this;exact .st this (c _ (V.set x _ .own ζ (aI _) λ_=>rfl))
theorem Tv.ret (V:Tv env vs)(h:vs[i]? = θ (θ (d,ζ))):Wp T (.cons (.ret (.var i)) .nil) env (Rd d):=by
 have a:=V.own h;show Pc.ret (aE T _ env)=_;rw[aE,bH,ev,a,bC];cases hf:d.flat<;>simp[hf,xq,Pc.ret,dD,a]
theorem pW {b:Ex}(h:aC T a env (.int (m:Int)))(h':aC T b env (.int (n:Int))):ev T (.bin .BitXor a b) env=.ok (.int ((m^^^n:Nat):Int),.mv []):=nK (aC.bin h h' (by show θ (D.int (SB m n))=_;rw[DY])) rfl
theorem Cs {b:Ex}(h:aC T a env (.int (m:Int)))(h':aC T b env (.int (n:Int)))(l:n<=m):aC T (.bin .Sub a b) env (.int ((m-n:Nat):Int)):=aC.bin h h' (by show θ (D.int ((m:Int)-n))=_;rw[Int.ofNat_sub l])
theorem lu {b:Ex}(h:aC T a env (.int (m:Int)))(h':aC T b env (.int (n:Int))):aC T (.bin .Add a b) env (.int ((m+n:Nat):Int)):=aC.bin h h' rfl
theorem Ez {b:Ex}{l l':List Nat}(h:aC T a env (.lst (gD l)))(h':aC T b env (.lst (gD l')))(hl:l.length+l'.length<=1000):ev T (.bin .Add a b) env=.ok (.lst (gD (l++l')),.mv []):=nK (aC.bin h h' (by
 show ck ((gD l).length+(gD l').length) (.lst (gD l++gD l'))=_;unfold ck;rw[if_pos (by rw[cD,cD];exact j7 hl),iY])) (eJ _)
theorem Lx {α:Type}{g:α->D}(J:List α->Vs->Prop)(hs:∀a r us e,J (a::r) us->Tv e us->∃e1,bP R t (g a) e=θ e1/\Wp T b e1 (Nx (J r))):∀(l:List α) (env:En) (us:Vs),J l us->Tv env us->∃e OB,gK t R (aE T b) (l.map g) env=.nx e/\J [] OB/\Tv e OB
 |[],env,us,j,V=>⟨env,us,rfl,j,V⟩
 |a::l,env,us,j,V=>by
  obtain⟨e1,h1,e2,u,h2,j',V'⟩:=hs a l us env j V;obtain⟨e,u',q,x⟩:=Lx J hs l e2 u j' V';refine⟨e,u',?_,x⟩;rw[bo,gK,h1];rcases h2 with h|h<;>(dsimp only;rw[h];exact q)
theorem DG {α:Type}{R:List Nat}{g:α->D}{l:List α}(J:List α->Vs->Prop)(hit:iL T it env=.ok (l.map g,R))(V:Tv (Pc.lock R env) vs)(j:J l vs)(hs:∀a r us e,J (a::r) us->Tv e us->∃e1,bP R t (g a) e=θ e1/\Wp T b e1 (Nx (J r)))(k:∀e us,J [] us->Tv e us->Wp T r e Q):Wp T (.cons (.Mg t it b) r) env Q:=by
 obtain⟨e,us,q,j',V'⟩:=Lx J hs l _ vs j V;exact .st (xj hit q) (k _ us j' (V'.unlock R))
theorem Tv.lock (V:Tv env vs)(hl:us.length=vs.length)(h:∀k d w,us[k]? = θ (θ (d,w))->∃b,vs[k]? = θ (θ (d,b))/\(w=ζ->b=ζ/\R.contains k=ε)):Tv (lock R env) us:=by
 refine⟨by rw[hl,<-V.len];exact ļ,λs hs=>?_,λk d w q=>?_⟩
 .obtain⟨i,hi,rfl⟩:=List.mem_mapIdx.mp hs;have:=V.tm _ (iq hi);split
  .split
   .exact rP _
   .exact aI _
  .exact this
 .obtain⟨b,q1,q2⟩:=h k d w q;obtain⟨t,a,c⟩:=V.at' k d b q1;unfold Pc.lock;rw[am,a];cases t with
  |own=>cases hk:R.contains k with
   |true=>exact⟨.lk,by simp[hk],λz=>by rw[(q2 z).2] at hk;cases hk⟩
   |false=>exact⟨.own,by simp[hk],λ_=>rfl⟩
  |lk=>exact⟨.lk,rfl,λz=>c (q2 z).1⟩
  |sh S=>exact⟨.sh S,rfl,λz=>c (q2 z).1⟩
theorem Tv.root (V:Tv env vs)(h:vs[i]? = θ (θ (.lst l,w))):∃q,ev T (.var i) env=.ok (.lst l,q)/\∀k∈q.roots,k=i:=by
 obtain⟨t,a,_⟩:=V.at' i _ w h;rw[ev,a];refine⟨_,rfl,?_⟩;rcases V.tm _ (Κ a) with ht|⟨d,ht⟩|⟨d,ht⟩|⟨d,ht⟩<;>cases ht<;>simp[D.flat,Rt.roots]
theorem pb {k:Nat}{o:Option (D×Bool)}(h:(vs.set i o)[k]? = θ (θ (d,w))):k=i/\o=θ (d,w)\/k≠i/\vs[k]? = θ (θ (d,w)):=by
 by_cases hk:i=k
 .subst hk;rw[ω (by have:=(χ.mp h).1;rwa [aq] at this)] at h;cases h;exact .inl ⟨rfl,rfl⟩
 .rw[ο hk] at h;exact .inr ⟨bw hk,h⟩
theorem Tv.walk (V:Tv env vs)(h:vs[i]? = θ (θ (.lst l,w))):∃R,(∃q,ev T (.var i) env=.ok (.lst l,q)/\q.roots=R)/\Tv (Pc.lock R env) (vs.set i (θ (.lst l,ε))):=by
 obtain⟨q,h1,h2⟩:=V.root (T:=T) h;refine⟨_,⟨q,h1,rfl⟩,V.lock aq λk d b z=>?_⟩;rcases pb z with ⟨rfl,y⟩|⟨n,z⟩
 .cases y;exact⟨w,h,λz=>by cases z⟩
 .exact⟨b,z,λhb=>⟨hb,by rw[Ň];exact λc=>n (h2 k (u8.mp c))⟩⟩
theorem Tv.walk2 (V:Tv env vs){l':List D}{w':Bool}(h:vs[i]? = θ (θ (.lst l,w)))(h':vs[j]? = θ (θ (.lst l',w'))):∃R,iL T (.zip (.var i) (.var j)) env=.ok ((l.zip l').map λz=>.tup [z.1,z.2],R)/\Tv (Pc.lock R env) ((vs.set i (θ (.lst l,ε))).set j (θ (.lst l',ε))):=by
 obtain⟨q,h1,h2⟩:=V.root (T:=T) h;obtain⟨q',Ni,MU⟩:=V.root (T:=T) h';refine⟨q.roots++q'.roots,by rw[iL,h1,aA,Ni,aA];rfl,V.lock (by simp) λk d b z=>?_⟩;rcases pb z with ⟨rfl,y⟩|⟨n,z⟩
 .cases y;exact⟨w',h',λz=>by cases z⟩
 .rcases pb z with ⟨rfl,y⟩|⟨n',z⟩
  .cases y;exact⟨w,h,λz=>by cases z⟩
  .exact⟨b,z,λhb=>⟨hb,by rw[Ň];exact λc=>(ig.mp (u8.mp c)).elim (λc=>n' (h2 k c)) λc=>n (MU k c)⟩⟩
theorem Tv.bind1 (V:Tv env vs)(R:List Nat)(k:Int)(hi:i<vs.length):∃e,bP R (.nm i) (.int k) env=θ e/\Tv e (vs.set i (θ (.int k,ζ))) :=
 ⟨_,by show (if i<env.length then θ (put env i (.int k) .own) else η)=_;rw[if_pos (by rw[V.len];exact hi),bN V.tm],V.set i _ .own ζ (aI _) λ_=>rfl⟩
theorem Tv.sS (V:Tv env vs)(h:vs[j]? = θ (θ (.lst (gD gs),w)))(J:List Nat->Vs->Prop)(h0:J gs (vs.set j (θ (.lst (gD gs),ε))))(hs:∀g m us e,J (g::m) us->Tv e us->ő (x+1) us.length=ζ/\∀e1,Tv e1 (us.set x (θ (.int (g:Int),ζ)))->Wp T b e1 (Nx (J m)))(k:∀e us,J [] us->Tv e us->Wp T r e Q):Wp T (.cons (.Mg (.nm x) (.seq (.var j)) b) r) env Q:=by
 obtain⟨R,⟨q,h1,rfl⟩,V'⟩:=V.walk (T:=T) h;refine DG J (R:=q.roots) (l:=gs) (g:=λ(g:Nat)=>.int (g:Int)) (by rw[iL,h1,aA];rfl) V' h0 (λg m us e a b=>?_) k;obtain⟨l,c⟩:=hs g m us e a b;obtain⟨e1,z,V1⟩:=b.bind1 q.roots g (cv l);exact⟨e1,z,c e1 V1⟩
theorem Tv.sE (V:Tv env vs){y:Nat}(h:vs[j]? = θ (θ (.lst (gD gs),w)))(J:Nat->List Nat->Vs->Prop)(h0:J 0 gs (vs.set j (θ (.lst (gD gs),ε))))(hs:∀n g m us e,J n (g::m) us->Tv e us->(ő (x+1) us.length&&ő (y+1) us.length)=ζ/\∀e1,Tv e1 ((us.set x (θ (.int (n:Int),ζ))).set y (θ (.int (g:Int),ζ)))->Wp T b e1 (Nx (J (n+1) m)))(k:∀e n us,J n [] us->Tv e us->Wp T r e Q):Wp T (.cons (.Mg (.tp [x,y]) (.enum (.var j)) b) r) env Q:=by
 obtain⟨R,⟨q,h1,rfl⟩,V'⟩:=V.walk (T:=T) h;refine DG (λl us=>∃n m,l=m.zipIdx n/\J n m us) (R:=q.roots) (l:=gs.zipIdx) (g:=λ(z:Nat×Nat)=>.tup [.int (z.2:Int),.int (z.1:Int)]) (by rw[iL,h1,aA];show Rs.ok (_,q.roots)=_;rw[HA]) V' ⟨0,gs,rfl,h0⟩ (λa s us e ⟨n,m,c,z⟩ b=>?_) λe us ⟨n,m,c,z⟩ V=>?_
 .cases m with
  |nil=>cases c
  |cons g m=>
   rw[List.zipIdx_cons] at c;cases c;obtain⟨l,c⟩:=hs n g m us e z b;rw[ai] at l;exact⟨_,km b.tm (by rw[b.len];exact cv l.1) (by rw[b.len];exact cv l.2) rfl rfl,let ⟨e,u,p,q,t⟩:=c _ ((b.set x _ .own ζ (aI _) λ_=>rfl).set y _ .own ζ (aI _) λ_=>rfl);⟨e,u,p,⟨_,_,rfl,q⟩,t⟩⟩
 .cases m with
  |nil=>exact k e n us z V
  |cons g m=>cases c
noncomputable abbrev Te (vs:List (Option D))(pick:List Nat):List (Option D):=pick.map λi=>vs[i]?.getD η
theorem Vw.comp (V:Vw env ws){pick:List Nat}{c:nP}{l:List Nat}{k:Nat->Bool}{f:Nat->D}(hit:iL T it env=.ok (gD l,R))(hl:l.length<=1000)(h:∀a∈l,∀W,Vw W (θ (.int (a:Int))::Te ws pick)->vY T c W=.ok (k a)/\aC T e W (f a)/\(f a).flat=ζ):ev T (.comp 1 pick (.nm 0) it c e) env=.ok (.lst ((l.filter k).map f),.mv []) :=
 CN hit hl λa ha=>by
  obtain⟨h0,W⟩:=V.picked (pick:=pick) (ws:=Te ws pick) (λj d q=>by
   rw[π] at q;cases z:pick[j]? with
   |none=>rw[z] at q;cases q
   |some i=>
    rw[z] at q;refine⟨i,rfl,?_⟩;cases y:ws[i]? with
    |none=>simp[y] at q
    |some o=>simp[y] at q;simp[q]) (aj ..) (.int (a:Int))
  exact⟨_,by show (if 0<(bU env 1 pick).length then θ (Pc.put (bU env 1 pick) 0 (.int (a:Int)) .own) else η)=_;rw[if_pos h0],h a ha _ W⟩
theorem Vw.map (V:Vw env ws){pick:List Nat}{l:List Nat}{f:Nat->Nat}(hit:iL T it env=.ok (gD l,R))(hl:l.length<=1000)(h:∀a∈l,∀W,Vw W (θ (.int (a:Int))::Te ws pick)->aC T e W (.int (f a:Nat))):ev T (.comp 1 pick (.nm 0) it .none e) env=.ok (.lst (gD (l.map f)),.mv []):=by
 have:=V.comp (c:=.none) (k:=λ_=>ζ) hit hl λa ha W w=>⟨by rw[vY],h a ha W w,rfl⟩
 rw[Z4.mpr λ_ _=>rfl] at this;rw[this,gD,bh];rfl
theorem Vw.NW (V:Vw env ws){pick:List Nat}{c:Ex}{l:List Nat}{k:Nat->Bool}(hit:iL T it env=.ok (gD l,R))(hl:l.length<=1000)(h:∀a∈l,∀W,Vw W (θ (.int (a:Int))::Te ws pick)->aC T c W (.bl (k a))):ev T (.comp 1 pick (.nm 0) it (.some c) LN) env=.ok (.lst (gD (l.filter k)),.mv []) :=
 V.comp hit hl λa ha W w=>⟨Lm (h a ha W w),w.var rfl,rfl⟩
theorem Vw.sA (V:Vw env ws)(he:aC T e env d)(k:∀e',Vw e' (ws.set i (θ d))->Wp T r e' Q)(hi:i<ws.length:=by exact cv rfl):Wp T (.cons (.asg (.nm i) e ε) r) env Q :=
 let ⟨e',q,V'⟩:=V.asg hi he
 .st q (k e' V')
theorem Cf {b:Ex}(h:aC T a env (.int (m:Int)))(h':aC T b env (.lst (gD gs))):aC T (.cmp .NotIn a b) env (.bl (!gs.contains m)):=aC.cmp h h' (by show (inD _ _).map _=_;rw[oo];rfl)
theorem Tv.items (V:Tv env vs)(h:vs[i]? = θ (θ (.lst (gD gs),w))):∃R,iL T (.seq (.var i)) env=.ok (gD gs,R):=wO (V.var h)
theorem Kt {g:Nat->D}{R:List Nat}(hit:iL T it env=.ok ((ρ n).map g,R))(V:Tv (Pc.lock R env) vs)(J:Nat->Vs->Prop)(h0:J 0 vs)(hs:∀k us e,k<n->J k us->Tv e us->∃e1,bP R t (g k) e=θ e1/\Wp T b e1 (Nx (J (k+1))))(k:∀e us,J n us->Tv e us->Wp T r e Q):Wp T (.cons (.Mg t it b) r) env Q:=by
 refine DG (λl us=>∃k,l=ZS k (n-k)/\k<=n/\J k us) (l:=ZS 0 n) (by rw[hit,ZV]) V ⟨0,rfl,dh _,h0⟩ (λa s us e ⟨k,c,l,z⟩ b=>?_) λe us ⟨m,c,l,z⟩ V=>?_
 .obtain⟨u,hu⟩:∃u,n=k+u:=⟨n-k,by omega⟩;subst hu;rw[Ę] at c;cases u with
  |zero=>cases c
  |succ u=>
   rw[ŏ] at c;cases c;obtain⟨e1,y,e,v,p,q',t⟩:=hs a us e (by omega) z b;exact⟨e1,y,e,v,p,⟨a+1,by rw[show a+(u+1)-(a+1)=u by omega],by omega,q'⟩,t⟩
 .have:m=n:=by
   have:=dg AC c;rw[List.length_range',jf] at this;omega
  subst this;exact k e us z V
theorem Tv.sR (V:Tv env vs)(he:aC T e env (.int (n:Int)))(hn:n<=1000)(J:Nat->Vs->Prop)(h0:J 0 vs)(hs:∀k us e,k<n->J k us->Tv e us->ő (x+1) us.length=ζ/\∀e1,Tv e1 (us.set x (θ (.int (k:Int),ζ)))->Wp T b e1 (Nx (J (k+1))))(k:∀e us,J n us->Tv e us->Wp T r e Q):Wp T (.cons (.Mg (.nm x) (.Mo e) b) r) env Q :=
 Kt (uY he hn) (by rw[Pc.pA];exact V) J h0 (λk us e hk z V=>by
  obtain⟨l,c⟩:=hs k us e hk z V;obtain⟨e1,y,V1⟩:=V.bind1 [] k (cv l);exact⟨e1,y,c e1 V1⟩) k
theorem Tv.SO (V:Tv env vs)(R:List Nat){x y:D}(fx:x.flat=ζ)(fy:y.flat=ζ)(hi:i<vs.length:=by exact cv rfl)(hj:j<vs.length:=by exact cv rfl):∃e,bP R (.tp [i,j]) (.tup [x,y]) env=θ e/\Tv e ((vs.set i (θ (x,ζ))).set j (θ (y,ζ))) :=
 ⟨_,km V.tm (by rw[V.len];exact hi) (by rw[V.len];exact hj) fx fy,(V.set i _ .own ζ (aI _) λ_=>rfl).set j _ .own ζ (aI _) λ_=>rfl⟩
theorem Wp.U5 (hc:aC T c env (.bl ζ))(he:ev T e env=.ok (d,.mv [])):Wp T (.cons (.ite c (.cons (.ret e) .nil) .nil) r) env (Rd d):=by
 show Pc.ret (aE T _ env)=_;rw[aE,ze hc,if_pos rfl,aE,bH,he,bC];rfl
theorem vH {b:Nat}(hb:0<b)(h:aC T a env (.int (x:Int)))(h':aC T e env (.int (b:Int))):aC T (.bin .Mod a e) env (.int ((x%b:Nat):Int)):=aC.bin h h' (by
 rw[iJ];show ((if 0<(b:Int) then θ ((x:Int)%(b:Int)) else η).map D.int)=_;rw[if_pos (by omega),Int.natCast_emod];rfl)
theorem UO:ev T (.lst .nil) env=.ok (.lst [],.mv []):=by rw[ev,aR,aA];rfl
theorem Tv.sM (V:Tv env vs)(hx:vs[x]? = θ (θ (.lst xs,ζ)))(he:ev T e env=.ok (d,.mv []))(hl:xs.length<1000)(k:∀e',Tv e' (vs.set x (θ (.lst (xs ++ [d]),ζ)))->Wp T r e' Q):Wp T (.cons (.mut x .none .append (.cons e .nil)) r) env Q :=
 let ⟨_,q,V'⟩:=V.app hx he hl
 .st q (k _ V')
theorem Tv.sG (V:Tv env vs){a c:Int}(hx:vs[x]? = θ (θ (.int a,ζ)))(he:aC T e env (.int c))(k:∀e',Tv e' (vs.set x (θ (.int (a+c),ζ)))->Wp T r e' Q):Wp T (.cons (.aug x .Add e) r) env Q :=
 let ⟨_,y⟩:=he
 .st (Pc.Nw.Dl V.tm (V.own hx) y) (k _ (V.set x _ .own ζ (aI _) λ_=>rfl))
theorem Lb (J:Nat->Vs->Prop)(hs:∀n us e,J n us->Tv e us->∃k,aC T c e (.bl k)/\(k=ζ->∃m,n=m+1/\Wp T b e (Nx (J m))))(h:∀n e us,J n us->Tv e us->aC T c e (.bl ε)->Wp T r e Q):∀(n fuel:Nat) (env:En) (us:Vs),n<fuel->J n us->Tv env us->∃e,kG (λenv=>(ev T c env).bind λp=>pS (truth p.1)) (aE T b) fuel env=.nx e/\Wp T r e Q
 |n,0,_,_,l,_,_=>absurd l (iz _)
 |n,fuel+1,env,us,l,j,V=>by
  obtain⟨k,⟨R,hc⟩,hb⟩:=hs n us env j V;rw[kG,hc];cases k with
  |false=>exact⟨env,rfl,h n env us j V ⟨R,hc⟩⟩
  |true=>
   obtain⟨m,rfl,e,u,he,j',V'⟩:=hb rfl;obtain⟨x,q,z⟩:=Lb J hs h m fuel e u (by omega) j' V';refine⟨x,?_,z⟩;show (match aE T b env with|.nx e=>kG _ _ fuel e|.ct e=>kG _ _ fuel e|.bk e=>.nx e|x=>x)=_;rcases he with he|he<;>(rw[he];exact q)
theorem Tv.sW (V:Tv env vs)(J:Nat->Vs->Prop)(hn:n<T.fuel)(h0:J n vs)(hs:∀n us e,J n us->Tv e us->∃k,aC T c e (.bl k)/\(k=ζ->∃m,n=m+1/\Wp T b e (Nx (J m))))(h:∀n e us,J n us->Tv e us->aC T c e (.bl ε)->Wp T r e Q):Wp T (.cons (.Qd c b) r) env Q:=by
 obtain⟨e,q,z⟩:=Lb J hs h n T.fuel env vs hn h0 V;exact .st (by rw[bH];exact q) z
theorem aC.O2 {k':Bool}(h:aC T e env (.bl k))(h':aC T e env (.bl k')):k=k':=by
 obtain⟨_,h⟩:=h;obtain⟨_,h'⟩:=h';rw[h] at h';cases h';rfl
theorem sV (h:aC T a env (.int (n:Int))):aC T (.cmp .Gt a LA) env (.bl (decide (0<n))):=aC.cmp h (aC.cst _) (by show θ (decide ((0:Int)<n))=_;exact dg θ (decide_eq_decide.mpr (by omega)))
theorem B5 (h:aC T a env (.int (n:Int))):aC T (.cmp .Eq (.bin .Mod a Ly) Lz) env (.bl (decide (n%2=1))):=aC.cmp (vH (b:=2) (by decide) h (aC.cst _)) (aC.cst (.int 1)) (by
 show θ (((n%2:Nat):Int)==1)=_;refine dg θ ?_;rw[fm,jg,df];omega)
theorem rQ (h:aC T a env (.int (n:Int))):ev T (.bin .FloorDiv a Ly) env=.ok (.int ((n / 2:Nat):Int),.mv []):=nK (aC.bin h (aC.cst _) (by show θ (D.int ((n:Int) / 2))=_;rw[show (n:Int) / 2=((n / 2:Nat):Int) by omega])) rfl
theorem Wp.QN (h:Wp T r env Q):Wp T .nil env λf=>∃e,f=.nx e/\Wp T r e Q:=⟨env,by rw[aE],h⟩
end
variable {ad ch cn f gp iv mx n p PR rn rp sc su NH wa:Nat}{b g mi nums:List Nat}
section
variable {T:Tb}{t:Nat}
theorem B9 {g:Nat}(hg:T.gl g=.int 64)(hf:T.gl f=.int 67)(YE:7<=T.fuel)(a b:Nat)(hb:b<64):Pc.ret (aE T (Bj g f) (aD [.int a,.int b] 5))=.ok (.int (tm a b:Nat),ζ):=by
 have V:=Tv.start [.int a,.int b] 5;have G:=λ(e:En)=>aC.NC (T:=T) (env:=e) g
 have F:=λ(e:En)=>aC.NC (T:=T) (env:=e) f
 rw[hg] at G;rw[hf] at F;refine V.sA (T:=T) (Q:=Rd _) (d:=.int (0:Nat)) rfl λe V=>V.sA (Ay (V.var rfl) rfl) λe V=>V.sA (Ay (V.var rfl) rfl) λe V=>V.sW (n:=6) (λn us=>∃p d l:Nat,l<2 ^ n/\iX n p d l=tm a b/\us=[θ (.int (a:Int),ε),θ (.int (b:Int),ε),θ (.int (p:Int),ζ),θ (.int (d:Int),ζ),θ (.int (l:Int),ζ)]) YE ⟨0,a,b,hb,rfl,rfl⟩ (λn us e ⟨p,d,l,hl,h,hu⟩ V=>?_) λn e us ⟨p,d,l,hl,h,hu⟩ V c=>?_
 .subst hu;refine⟨_,sV (V.var rfl),λh0=>?_⟩;have h0:=az h0;cases n with
  |zero=>rw[h?] at hl;omega
  |succ n=>
   rw[iX,if_neg (by omega)] at h;rw[Ĥ] at hl;have fin:∀(p':Nat) e,(if l%2=1 then p^^^d else p)=p'->Tv e [θ (.int (a:Int),ε),θ (.int (b:Int),ε),θ (.int (p':Int),ζ),θ (.int (d:Int),ζ),θ (.int (l:Int),ζ)]->Wp T (.cons (.asg (.nm 3) (.bin .Mult Ly LM) ε) (.cons (.ite (.cmp .GtE LM (.NC g)) (.cons (.asg (.nm 3) (.bin .BitXor LM (.NC f)) ε) .nil) .nil) (.cons (.asg (.nm 4) (.bin .FloorDiv LK Ly) ε) .nil))) e (Nx λus=>∃p d l:Nat,l<2 ^ n/\iX n p d l=tm a b/\us=[θ (.int (a:Int),ε),θ (.int (b:Int),ε),θ (.int (p:Int),ζ),θ (.int (d:Int),ζ),θ (.int (l:Int),ζ)]):=λp' e hp V=>by
    rw[hp] at h;refine V.sA (d:=.int (2*d:Nat)) (nK (aC.bin (aC.cst _) (V.var rfl) rfl) rfl) λe V=>Wp.ite (k:=decide ((64:Int)<=(2*d:Nat))) (aC.cmp (V.var rfl) (G e) rfl) (λhk=>?_) λhk=>?_
    .have hk:=az hk;exact V.sA (pW (n:=67) (V.var rfl) (F _)) λe V=>Wp.QN (V.sA (rQ (V.var rfl)) λe V=>V.nil ⟨p',_,_,by omega,by rw[<-h];unfold dbl;rw[if_pos (by omega)],rfl⟩)
    .have hk:=fv hk;exact V.sA (rQ (V.var rfl)) λe V=>V.nil ⟨p',2*d,_,by omega,by rw[<-h];unfold dbl;rw[if_neg (by omega)],rfl⟩
   exact⟨n,rfl,Wp.ite (B5 (V.var rfl)) (λhk=>V.sA (pW (V.var rfl) (V.var rfl)) λe V=>Wp.QN (fin _ e (by rw[if_pos (az hk)]) V)) λhk=>fin _ e (by rw[if_neg (fv hk)]) V⟩
 .subst hu;have:=fv ((sV (V.var rfl)).O2 c);obtain rfl:l=0:=by omega
  rw[show tm a b=p by rw[<-h];cases n<;>rfl];exact V.ret rfl
theorem GW (ht:nu T t)(YE:41<=T.fuel)(a k:Nat)(ha:a<64)(hk:k<2 ^ 40):Pc.ret (aE T (JA t) (aD [.int (a:Int),.int (k:Int)] 5))=.ok (.int ((pw a k:Nat):Int),ζ):=by
 have V:=Tv.start [.int a,.int k] 5;refine V.sA (T:=T) (Q:=Rd _) (d:=.int (1:Nat)) rfl λe V=>V.sA (Ay (V.var rfl) rfl) λe V=>V.sA (Ay (V.var rfl) rfl) λe V=>V.sW (n:=40) (λn us=>∃p s l:Nat,l<2 ^ n/\p<64/\s<64/\tm p (pw s l)=pw a k/\us=[θ (.int (a:Int),ε),θ (.int (k:Int),ε),θ (.int (p:Int),ζ),θ (.int (s:Int),ζ),θ (.int (l:Int),ζ)]) (by omega) ⟨1,a,k,hk,by decide,ha,oS (aY ha k),rfl⟩ (λn us e ⟨p,s,l,hl,hp,hs,h,hu⟩ V=>?_) λn e us ⟨p,s,l,hl,hp,hs,h,hu⟩ V c=>?_
 .subst hu;refine⟨_,sV (V.var rfl),λh0=>?_⟩;have h0:=az h0;cases n with
  |zero=>rw[h?] at hl;omega
  |succ n=>
   rw[Ĥ] at hl;have fin:∀(p':Nat) e,p'<64->tm p' (pw (tm s s) (l / 2))=pw a k->Tv e [θ (.int (a:Int),ε),θ (.int (k:Int),ε),θ (.int (p':Int),ζ),θ (.int (s:Int),ζ),θ (.int (l:Int),ζ)]->Wp T (.cons (.asg (.nm 3) (.call t (L6 LM LM)) ε) (.cons (.asg (.nm 4) (.bin .FloorDiv LK Ly) ε) .nil)) e (Nx λus=>∃p s l:Nat,l<2 ^ n/\p<64/\s<64/\tm p (pw s l)=pw a k/\us=[θ (.int (a:Int),ε),θ (.int (k:Int),ε),θ (.int (p:Int),ζ),θ (.int (s:Int),ζ),θ (.int (l:Int),ζ)]):=λp' e Vu h V=>
    V.sA (bV (V.var rfl) (V.var rfl) (ht s s hs)) λe V=>V.sA (rQ (V.var rfl)) λe V=>V.nil ⟨p',_,_,by omega,Vu,aX hs hs,h,rfl⟩
   have sq:pw s l=if l%2=1 then tm s (pw (tm s s) (l / 2)) else pw (tm s s) (l / 2):=E7 hs l
   refine⟨n,rfl,Wp.ite (B5 (V.var rfl)) (λhk=>V.sA (bV (V.var rfl) (V.var rfl) (ht p s hs)) λe V=>Wp.QN (fin _ e (aX hp hs) ?_ V)) λhk=>fin _ e hp ?_ V⟩
   .rw[<-h,sq,if_pos (az hk),cP hp hs (aY (aX hs hs) _)]
   .rw[<-h,sq,if_neg (fv hk)]
 .subst hu;have:=fv ((sV (V.var rfl)).O2 c);obtain rfl:l=0:=by omega
  rw[show pw a k=p by rw[<-h];exact mw hp];exact V.ret rfl
theorem HG (ht:nu T t)(gs:List Nat)(x:Nat)(hx:x<64):Pc.ret (aE T (K4 t) (aD [.lst (gD gs),.int (x:Int)] 4))=.ok (.int ((dA x gs:Nat):Int),ζ) :=
 (Tv.start [.lst (gD gs),.int (x:Int)] 4).sA (T:=T) (Q:=Rd _) rfl λe V=>V.sS rfl (λr us=>∃(w:Nat) (o:_),iS x w r=dA x gs/\us=[θ (.lst (gD gs),ε),θ (.int (x:Int),ε),θ (.int (w:Int),ζ),o]) ⟨0,η,rfl,rfl⟩
  (λg m us e ⟨w,o,h,hu⟩ _=>by
   subst hu;exact⟨rfl,λe1 V=>V.sA (pW (aC.Mi (V.var rfl) (V.var rfl) (ht w x hx)) (V.var rfl)) λe2 V=>V.nil ⟨_,_,h,rfl⟩⟩)
  λe us ⟨w,o,h,hu⟩ V=>by
   subst hu;rw[<-h];exact V.ret rfl
noncomputable abbrev lo (gs:List Nat)(b:Bool:=ε):Option (D×Bool):=θ (.lst (gD gs),b)
noncomputable abbrev no (n:Nat)(b:Bool:=ε):Option (D×Bool):=θ (.int (n:Int),b)
theorem ya (ht:nu T t){i j:Nat}{e:En}{l:List Nat}{g P F:Nat}{vi vj:Option (D×Bool)}(V:Tv e us)(hx:us[x]? = θ (lo l ζ))(hp:∃b,us[p]? = θ (no P b))(hi:us[i]? = θ (no n ζ))(hj:us[j]? = θ (no g ζ))(hf:∃b,us[f]? = θ (no F b))(hg:g<64)(hl:P+n<l.length)(h1:l.length<=1000){Q:Vs->Prop}(q:Q (us.set x (lo (l.set (P+n) (l.getD (P+n) 0^^^tm F g)) ζ))):Wp T (AL t x p i j f) e (Nx Q):=by
 obtain⟨_,hp⟩:=hp;obtain⟨_,hf⟩:=hf;have a:=lu (V.var (T:=T) hp) (V.var hi);exact V.OE hx a hl h1 (pW (aC.ix (V.var hx) a (nO hl)) (aC.Mi (V.var hf) (V.var hj) (ht F g hg))) λe1 V=>V.nil q
theorem JL (ht:nu T t){a:List Nat}(ha:Gr a)(hb:Gr b)(TF:0<b.length)(hl:a.length+b.length<=1000):Pc.ret (aE T (Zb t) (aD [.lst (gD a),.lst (gD b)] 7))=.ok (.lst (gD (eP a b)),ζ):=by
 have V:=Tv.start [.lst (gD a),.lst (gD b)] 7;refine V.sA (T:=T) (Q:=Rd _) (nK (aC.bin (aC.Oe (aC.cst _)) (Cs (n:=1) (lu (aC.Ml (V.var rfl) (fK _)) (aC.Ml (V.var rfl) (fK _))) (aC.cst _) (by omega)) (mJ _ (by omega))) (eJ _)) λe V=>V.sE rfl (λk r us=>∃l o3 o4 o5 o6,eC l k r b=eP a b/\Gr r/\k+r.length+b.length=l.length+1/\l.length<=1000/\us=[lo a,lo b,lo l ζ,o3,o4,o5,o6]) ⟨_,_,_,_,_,rfl,ha,by simp;omega,by simp;omega,rfl⟩
  (λk g m us e ⟨l,o3,o4,o5,o6,h,hm,h1,h2,hu⟩ _=>by
   subst hu;rw[br] at h1;exact⟨rfl,λe1 V=>V.sE rfl (λn r us=>∃L o5 o6,cN L (k+n) (mulR g r)=cN l k (mulR g b)/\Gr r/\k+n+r.length<=L.length/\L.length=l.length/\us=[lo a,lo b,lo L ζ,no k ζ,no g ζ,o5,o6]) ⟨l,o5,o6,rfl,hb,by omega,rfl,rfl⟩
    (λn f r us e ⟨L,o5,o6,h,hr,h3,h4,hu⟩ _=>by
     subst hu;rw[br] at h3;exact⟨rfl,λe1 V=>ya ht (vi:=o5) (vj:=o6) V rfl ⟨ζ,rfl⟩ rfl rfl ⟨ζ,rfl⟩ (hr f ag) (by omega) (by omega) ⟨_,_,_,h,λz hz=>hr z (aa _ hz),by rw[aq];omega,by rw[aq];exact h4,rfl⟩⟩)
    λe n us ⟨L,o5,o6,h',_,_,h4,hu⟩ V=>V.nil ⟨L,_,_,_,_,by rw[show L=_ from h'];exact h,λz hz=>hm z (aa _ hz),by omega,by omega,hu⟩⟩)
  λe n us ⟨l,_,_,_,_,h,_,_,_,hu⟩ V=>by
   subst hu;rw[<-h];exact V.ret rfl
theorem Ld (h:E5 T rp){ns:List Nat}(hn:Gr ns)(hl:ns.length<=900):Pc.ret (aE T (Zc rp) (aD [.lst (gD ns)] 3))=.ok (.lst (gD (fM [1] ns)),ζ) :=
 (Tv.start [.lst (gD ns)] 3).sA (T:=T) (Q:=Rd _) rfl λe V=>V.sS rfl (λm us=>∃l o,fM l m=fM [1] ns/\Gr m/\Gr l/\0<l.length/\l.length+m.length<=901/\us=[lo ns,lo l ζ,o]) ⟨[1],η,rfl,hn,jO,by decide,by simp;omega,rfl⟩
  (λg m us e ⟨l,o,h1,h2,h3,h4,h5,hu⟩ _=>by
   subst hu;rw[br] at h5;have hb:Gr [1,g]:=.cons (by decide) (.cons (h2 g ag) .nil);have pl:(eP l [1,g]).length=l.length+1:=by rw[fS];simp
   exact⟨rfl,λe1 V=>V.sA (bV (V.var rfl) (aC.RQ (aC.cst _) (V.var rfl)) (h l [1,g] h3 hb (by simp) (by simp;omega))) λe2 V=>V.nil ⟨_,_,h1,λz hz=>h2 z (aa _ hz),jX h3 hb,by omega,by omega,rfl⟩⟩)
  λe us ⟨l,o,h,_,_,_,_,hu⟩ V=>by
   subst hu;rw[<-h];exact V.ret rfl
theorem Kj {b:Ex}{m:Nat}(h:aC T a env (.int (m:Int)))(h':aC T b env (.int (n:Int)))(hm:m<=1000)(hn:n<=1000):iL T (.OF a b) env=.ok (gD (ZS m (n-m)),[]):=by
 obtain⟨R,h⟩:=h;obtain⟨R',h'⟩:=h';rw[iL,h,aA,h',aA];show (if mK (m:Int)&&mK (n:Int) then Rs.ok (dZ (m:Int) 1 ((n:Int)-m).toNat,[]) else .bad)=_;rw[xv hm,xv hn,Int.toNat_sub,fQ];rfl
theorem KA {pw:Nat}(h:C4 T pw)(c:Nat)(hc:c<=900):Pc.ret (aE T (Zm pw) (aD [.int (c:Int)] 1))=.ok (.lst (gD (bB c)),ζ):=by
 have V:=Tv.start [.int (c:Int)] 1;exact iB (V.vw.map (Kj (m:=1) (aC.cst _) (lu (n:=1) (V.var rfl) (aC.cst _)) (by decide) (by omega)) (by simp;omega) λa ha W w=>aC.Mi (aC.cst _) (w.var rfl) (h 2 a (by decide) (by have:=ņ.mp ha;omega)))
theorem KS (VY:yX T cn)(hwa:vp T wa)(gs:List Nat)(c:Nat)(hc:c<=900):Pc.ret (aE T (Zi cn wa) (aD [.lst (gD gs),.int (c:Int)] 2))=.ok (.bl (decide (Ad gs c)),ζ):=by
 have V:=Tv.start [.lst (gD gs),.int (c:Int)] 2;obtain⟨R,hit⟩:=wO (T:=T) (aC.M6 (V.var (i:=1) rfl) (VY c hc));have h:=V.vw.comp (pick:=[0]) (c:=.none) (k:=λ_=>ζ) (e:=.cmp .Eq (.call wa (L6 LO LN)) LA) (f:=D.bl∘λx=>((dA x gs:Nat):Int)==0) hit (by rw[dM];omega) λa ha W w=>⟨by rw[vY],aC.cmp (aC.Mi (w.var rfl) (w.var rfl) (hwa gs a (dC c a ha))) (aC.cst _) rfl,rfl⟩
 rw[Z4.mpr λ_ _=>rfl] at h;refine iB (vm (aC.Ml (aC.of h) ?_) rfl);have:=tM ((bB c).map λx=>((dA x gs:Nat):Int)==0);rw[bh] at this;show (if _ then (allB _).map D.bl else η)=_;rw[if_pos this.1,this.2];show θ (D.bl _)=_;congr 2;rw[fm,bz,df];simp[Ad]
theorem aC.sll {lo:Ex}{x:D}{c:Int}(h:aC T a env x)(h2:aC T lo env (.int c))(e:Fi x (θ c) η=θ z):aC T (.sl a (.some lo) .none) env z:=by
 obtain⟨R,h⟩:=h;obtain⟨R2,h2⟩:=h2;exact⟨_,by rw[ev,h,aA,nt,nt,h2,aA];dsimp only;rw[aA,aA,e,fG,aA]⟩
theorem KR (ht:nu T t)(R6:EN T rn)(VY:yX T cn){d:List Nat}(hd:Gr d)(c:Nat)(hl:d.length+c<=900):Pc.ret (aE T (Zo t rn cn) (aD [.lst (gD d),.int (c:Int)] 8))=.ok (.lst (gD (vK d c)),ζ):=by
 obtain⟨n1,n2,_⟩:=eF (ns:=bB c) (r:=[1]) (dC c) jO (by decide) rfl;rw[dM] at n1;have n1:(fM [1] (bB c)).length=c+1:=by rw[n1];simp;omega
 have V:=Tv.start [.lst (gD d),.int (c:Int)] 8;refine V.sA (T:=T) (Q:=Rd _) (oV (aC.M6 (V.var rfl) (VY c (by omega))) (R6 (bB c) (dC c) (by rw[dM];omega))) λe V=>?_
 unfold vK;generalize fM [1] (bB c)=D at *;exact V.sA (Ez (aC.Ml (V.var rfl) (z:=.lst (gD d)) rfl) (aC.bin (aC.Oe (aC.cst _)) (V.var rfl) (mJ c (by omega))) (by simp;omega)) λe V=>V.sR (aC.Ml (V.var rfl) (fK d)) (by omega)
  (λk us=>∃l b o4 o5 o6 o7,iT D (d.length-k) k l=iT D d.length 0 (d++ξ c 0)/\l.length=d.length+c/\us=[lo d,no c,lo D b,lo l ζ,o4,o5,o6,o7]) ⟨_,_,_,_,_,_,rfl,by simp,rfl⟩
  (λk us e hk ⟨l,b,o4,o5,o6,o7,h,h1,hu⟩ _=>by
   subst hu;exact⟨rfl,λe1 V=>V.sA (U3 (aC.ix (V.var rfl) (V.var rfl) (nO (by omega))) rfl) λe2 V=>V.sE rfl (λn r us=>∃L o6 o7,cN L (k+n) (mulR (l.getD k 0) r)=cN l k (mulR (l.getD k 0) D)/\Gr r/\k+n+r.length<=L.length/\L.length=l.length/\us=[lo d,no c,lo D,lo L ζ,no k ζ,no (l.getD k 0) ζ,o6,o7]) ⟨l,o6,o7,rfl,n2,by omega,rfl,rfl⟩
    (λn f r us e ⟨L,o6,o7,h,hr,h3,h4,hu⟩ _=>by
     subst hu;rw[br] at h3;exact⟨rfl,λe1 V=>ya ht (vi:=o6) (vj:=o7) V rfl ⟨ζ,rfl⟩ rfl rfl ⟨ζ,rfl⟩ (hr f ag) (by omega) (by omega) ⟨_,_,_,h,λz hz=>hr z (aa _ hz),by rw[aq];omega,by rw[aq];exact h4,rfl⟩⟩)
    λe n us ⟨L,o6,o7,h',_,_,h4,hu⟩ V=>V.nil ⟨L,_,_,_,_,_,by rw[show L=_ from h',<-h,show d.length-k=d.length-(k+1)+1 from (Nat.sub_add_cancel (Nat.sub_pos_of_lt hk)).symm];rfl,by omega,hu⟩⟩)
  λe us ⟨l,b,_,_,_,_,h,h1,hu⟩ V=>by
   subst hu;rw[jw] at h;rw[<-h];exact iB (Ta (aC.sll (V.var rfl) (aC.Ml (V.var rfl) (fK d)) (E6 l d.length (by omega))) (eJ _))
theorem Kg {g:Nat}(hg:T.gl g=.int 64)(hp:C4 T PR){a:Nat}(ha:a<64)(h0:a≠0):Pc.ret (aE T (Zh g PR) (aD [.int (a:Int)] 1))=.ok (.int ((pw a 62:Nat):Int),ζ):=by
 have V:=Tv.start [.int (a:Int)] 1;exact Wp.ite (T:=T) (Q:=Rd _) (aC.cmp (V.var rfl) (aC.cst _) rfl) (λh=>absurd (jg.mp h) (by omega)) λ_=>iB (bV (V.var rfl) (Cs (m:=64) (n:=2) (by have:=aC.NC (T:=T) (env:=aD [.int (a:Int)] 1) g;rwa [hg] at this) (aC.cst _) (by decide)) (hp a 62 ha (by decide)))
theorem Km (ht:nu T t){rule:List Nat}{place:Nat}(hr:Gr rule)(hn:Gr nums)(h1:rule.length<=place+1)(h2:place<nums.length):Pc.ret (aE T (Zj t) (aD [.lst (gD rule),.lst (gD nums),.int (place:Int)] 6))=.ok (.int ((eS nums place 0 rule 0:Nat):Int),ζ) :=
 (Tv.start [.lst (gD rule),.lst (gD nums),.int (place:Int)] 6).sA (T:=T) (Q:=Rd _) rfl λe V=>V.sE rfl (λk r us=>∃(g:Nat) (o4 o5:_),eS nums place k r g=eS nums place 0 rule 0/\k+r.length<=place+1/\us=[lo rule,lo nums,no place,no g ζ,o4,o5]) ⟨0,η,η,rfl,by omega,rfl⟩
  (λk f m us e ⟨g,o4,o5,h,hl,hu⟩ _=>by
   subst hu;rw[br] at hl;exact⟨rfl,λe1 V=>V.sA (pW (V.var rfl) (aC.Mi (V.var rfl) (aC.ix (V.var rfl) (Cs (V.var rfl) (V.var rfl) (by omega)) (nO (by omega))) (ht f _ (cX hn (place-k))))) λe2 V=>V.nil ⟨_,_,_,h,by omega,rfl⟩⟩)
  λe n us ⟨g,_,_,h,_,hu⟩ V=>by
   subst hu;rw[<-h];exact V.ret rfl
theorem Ju (ht:nu T t){row:List Nat}(hr:Gr row)(hf:f<64)(hl:row.length<=900):Pc.ret (aE T (Y9 t) (aD [.lst (gD row),.int (f:Int)] 2))=.ok (.lst (gD (Ff row f)),ζ):=by
 have V:=Tv.start [.lst (gD row),.int (f:Int)] 2;obtain⟨R,hit⟩:=V.items (T:=T) (i:=0) rfl;exact iB (V.vw.map hit (by omega) λa ha W w=>aC.Mi (w.var rfl) (w.var rfl) (ht a f hf))
theorem JW {a:List Nat}(ha:a.length<=400)(hb:b.length<=400):Pc.ret (aE T Zp (aD [.lst (gD a),.lst (gD b)] 5))=.ok (.lst (gD (CW a b)),ζ):=by
 have V:=Tv.start [.lst (gD a),.lst (gD b)] 5;exact V.sA (T:=T) (Q:=Rd _) (Ez (V.var rfl) (aC.bin (aC.Oe (aC.cst _)) (aC.bin (aC.Ml (V.var rfl) (fK _)) (aC.Ml (V.var rfl) (fK _)) (z:=.int ((b.length:Int)-(a.length:Int))) rfl) (zx _ _ (by omega) (by omega))) (by simp;omega)) λe V=>V.sE rfl (λk r us=>∃l o3 o4,cN l k r=CW a b/\k+r.length<=l.length/\l.length<=1000/\us=[lo a,lo b,lo l ζ,o3,o4]) ⟨_,η,η,rfl,by simp;omega,by simp;omega,rfl⟩
  (λk g m us e ⟨l,o3,o4,h,h1,h2,hu⟩ _=>by
   subst hu;rw[br] at h1;exact⟨rfl,λe1 V=>V.OE rfl (V.var rfl) (by omega) h2 (pW (aC.ix (V.var rfl) (V.var rfl) (nO (by omega))) (V.var rfl)) λe2 V=>V.nil ⟨_,_,_,h,by rw[aq];omega,by rw[aq];exact h2,rfl⟩⟩)
  λe n us ⟨l,_,_,h,_,_,hu⟩ V=>by
   subst hu;rw[<-h];exact V.ret rfl
theorem K3 (ht:nu T t)(hx:x<64){ls:List Nat}(hl:Gr ls):Pc.ret (aE T (Zk t) (aD [.int (x:Int),.lst (gD ls)] 4))=.ok (.int ((eU x 1 ls:Nat):Int),ζ) :=
 (Tv.start [.int (x:Int),.lst (gD ls)] 4).sA (T:=T) (Q:=Rd _) rfl λe V=>V.sS rfl (λr us=>∃(w:Nat) (o:_),eU x w r=eU x 1 ls/\Gr r/\us=[no x,lo ls,no w ζ,o]) ⟨1,η,rfl,hl,rfl⟩
  (λy m us e ⟨w,o,h,hm,hu⟩ _=>by
   subst hu;have Oi:Gr m:=λz hz=>hm z (aa _ hz)
   refine⟨rfl,λe1 V=>Wp.ite (aC.cmp (V.var rfl) (V.var rfl) rfl) (λhk=>?_) λhk=>?_⟩
   .have ne:y≠x:=λq=>by subst q;simp at hk
    exact V.sA (bV (V.var rfl) (aC.of (pW (V.var rfl) (V.var rfl))) (ht w _ (aP hx (hm y ag)))) λe2 V=>⟨_,by rw[aE],V.nil ⟨_,_,by rw[eU,if_neg ne] at h;exact h,Oi,rfl⟩⟩
   .have e:y=x:=by simp at hk;omega
    exact V.nil ⟨_,_,by rw[eU,if_pos e] at h;exact h,Oi,rfl⟩)
  λe us ⟨w,o,h,_,hu⟩ V=>by
   subst hu;rw[<-h];exact V.ret rfl
theorem Jz (hp:C4 T PR)(h:p<n)(hn:n<=1000):Pc.ret (aE T (Zg PR) (aD [.int (p:Int),.int (n:Int)] 2))=.ok (.int ((loc n p:Nat):Int),ζ):=by
 have V:=Tv.start [.int (p:Int),.int (n:Int)] 2;exact iB (bV (aC.cst _) (Cs (Cs (n:=1) (V.var rfl) (aC.cst _) (by omega)) (V.var rfl) (by omega)) (hp 2 _ (by decide) (ji (show _<=1000 by omega) (by decide))))
theorem Lv {lo dp:Nat}(ht:nu T NH)(hi:Ew T iv)(hw:vp T wa)(Vj:E5 T rp)(R6:EN T rn)(Sh:IS T lo)(hd:JE T dp){su wo:List Nat}(gg:Gr g)(gw:Gr wo)(lg:g.length<=63)(lsu:su.length<=130)(lw:wo.length<=62)(hs:∀p∈su,p<g.length) :
  Pc.ret (aE T (Zn NH iv wa rp rn lo dp) (aD [.lst (gD g),.lst (gD su),.lst (gD wo)] 9))=.ok (.lst (gD (gU g su wo)),ζ):=by
 have gl:=gZ g.length su;have ll:(locs g.length su).length=su.length:=by simp[locs]
 have ra:=eF (r:=[1]) gl jO (by decide) rfl;have gh:=og gw gl;have V:=Tv.start [.lst (gD g),.lst (gD su),.lst (gD wo)] 9;obtain⟨R,hit⟩:=V.items (T:=T) (i:=1) rfl;refine V.sA (T:=T) (Q:=Rd _) (d:=.lst (gD (locs g.length su))) (V.vw.map hit (by omega) λa ha W w=>aC.Mi (w.var rfl) (aC.Ml (w.var rfl) (fK g)) (Sh a g.length (hs a ha) (by omega))) λe V=>V.sA (d:=.lst (gD (fZ wo (locs g.length su)))) (Ta (aC.XY (aC.Mi (V.var rfl) (aC.M6 (V.var rfl) (R6 _ gl (by omega))) (Vj wo _ gw ra.2.1 (by rw[ra.1];simp;omega) (by rw[ra.1];simp;omega))) (aC.Ml (V.var rfl) (fK (locs g.length su))) (FV _ _)) (eJ _)) λe V=>V.sA (d:=.lst (gD g)) (vm (aC.Ml (V.var rfl) rfl) (eJ _)) λe V=>?_
 obtain⟨S,hz,V⟩:=V.walk2 (T:=T) (i:=1) (j:=4) rfl rfl;have ez:(ZH (gD su) (gD (su.map (loc g.length)))).map (λz=>D.tup [z.1,z.2])=su.map λ(p:Nat)=>D.tup [.int (p:Int),.int ((loc g.length p:Nat):Int)]:=by
  rw[gD,gD,bh,List.zip_map',bh];rfl
 refine DG (λr us=>∃l o3 o7 o8,rE g.length (fZ wo (locs g.length su)) (locs g.length su) r l=gU g su wo/\(∀p∈r,p<l.length)/\l.length<=1000/\us=[Vw.lo g,Vw.lo su,Vw.lo wo,o3,Vw.lo (locs g.length su),Vw.lo (fZ wo (locs g.length su)) ζ,Vw.lo l ζ,o7,o8]) (by rw[hz];exact dg (λz=>Rs.ok (z,S)) ez) V ⟨g,η,η,η,rfl,hs,by omega,rfl⟩
  (λp m us e ⟨l,o3,o7,o8,h,hp,h2,hu⟩ V=>by
   subst hu;have hx:=gJ g.length p;have dl:=lO hx gl (pr:=1) (by decide);have Oh:tm (loc g.length p) (eU (loc g.length p) 1 (locs g.length su))≠0:=λe=>(dI hx dl e).elim (rS _ p) (tL hx gl (by decide) (by decide))
   have NI:=aX hx dl;have MP:=hp p ag;refine⟨_,km V.tm (by rw[V.len];exact cv rfl) (by rw[V.len];exact cv rfl) rfl rfl,?_⟩;have V:=(V.set 3 (.int (p:Int)) .own ζ (aI _) λ_=>rfl).set 7 (.int (loc g.length p:Nat)) .own ζ (aI _) λ_=>rfl
   exact V.sA (oV (aC.Mi (V.var rfl) (aC.Mi (V.var rfl) (V.var rfl) (hd _ _ hx gl)) (ht _ _ dl)) (hi _ NI Oh)) λe V=>V.OE rfl (V.var rfl) MP h2 (pW (aC.ix (V.var rfl) (V.var rfl) (nO MP)) (aC.Mi (aC.Mi (V.var rfl) (V.var rfl) (hw _ _ hx)) (V.var rfl) (ht _ _ (aY NI 62)))) λe V=>V.nil ⟨_,_,_,_,h,λz hz=>by rw[aq];exact hp z (aa _ hz),by rw[aq];exact h2,rfl⟩)
  λe us ⟨l,_,_,_,h,_,_,hu⟩ V=>by
   subst hu;rw[<-h];exact V.ret rfl
def Nv (P:En->Prop)(f:Fl):Prop:=∃e,(f=.nx e\/f=.ct e)/\P e
theorem D1 (ht:nu T NH)(hi:Ew T iv)(hg:Ga T gp)(hs:Gg T sc)(ha:Iu T ad)(hn:Gr nums)(hl:nums.length<=100)(M9:n<nums.length){s:Sr}(o:tf nums n s){v6 v7:Option D}(V:Vw env [lD nums,lD s.rule,nD s.len,lD s.fo,nD s.gap,nD n,v6,v7]) :
  Wp T (Gb NH iv gp sc ad) env (Nv (Zt nums (s.step nums n))):=by
 have hle:=o.bm.le;have lr:=o.lr;have lf:=o.lf;refine V.sA (aC.bin (aC.Oe (aC.cst (.int 0))) (V.var rfl) (z:=.lst (gD (0::s.fo))) (by
  show ck (1+(gD s.fo).length) (.lst ([D.int 0]++gD s.fo))=_;unfold ck;rw[if_pos (by rw[cD];exact j7 (by omega))];rfl)) λe V=>V.sA (aC.Qb (V.var rfl) (V.var rfl) (V.var rfl) (hg s.rule nums n o.gr hn o.rl M9)) λe V=>?_
 have c1:aC T (.cmp .Eq LQ LA) e (.bl (((eS nums n 0 s.rule 0:Nat):Int)==0)):=aC.cmp (V.var rfl) (aC.cst _) rfl;unfold Sr.step;by_cases h0:eS nums n 0 s.rule 0=0
 .rw[if_pos h0];exact⟨e,.inr (by rw[aE,ze c1,h0];rfl),_,_,_,V⟩
 .have Ms:=lJ hn n (k:=0) o.gr (g:=0) (by decide);have NI:=aX Ms (aY o.gg 62);rw[if_neg h0];refine Wp.ite c1 (λh=>absurd (beq_iff_eq.mp h) (by omega)) λ_=>V.sA (aC.Mi (V.var rfl) (aC.Mi (V.var rfl) (aC.Mi (V.var rfl) (aC.M6 (V.var rfl) (hi s.gap o.gg o.ne)) (ht _ _ (aY o.gg 62))) (hs (0::s.fo) _ (Jn o.gf) NI (by simp;omega))) (ha s.rule _ (by omega) (by simp[Ff];omega))) λe V=>Wp.ite (k:=decide (2*(s.len:Int)<=(n:Int))) (aC.cmp (aC.bin (aC.cst (.int 2)) (V.var rfl) (z:=.int (2*(s.len:Int))) rfl) (V.var rfl) rfl) (λh=>?_) λh=>?_
  .have h:=az h;rw[if_pos (by omega)];exact V.sA (aC.bin (aC.bin (V.var rfl) (aC.cst (.int 1)) (z:=.int ((n:Int)+1)) rfl) (V.var rfl) (z:=.int ((n+1-s.len:Nat):Int)) (by
    show θ (D.int ((n:Int)+1-(s.len:Int)))=_;rw[show (n:Int)+1-(s.len:Int)=((n+1-s.len:Nat):Int) by omega])) λe V=>V.sA (V.var rfl) λe V=>V.sA (V.var rfl) λe V=>⟨_,by rw[aE],V.sA (V.var rfl) λe V=>⟨e,.inl (by rw[aE]),_,_,_,V⟩⟩
  .have h:=fv h;rw[if_neg (by omega)];exact V.sA (V.var rfl) λe V=>⟨e,.inl (by rw[aE]),_,_,_,V⟩
theorem HX (ht:nu T NH)(hi:Ew T iv)(hg:Ga T gp)(hs:Gg T sc)(ha:Iu T ad)(hn:Gr nums)(hl:nums.length<=100):∃fr,Pc.ret (aE T (Y8 NH iv gp sc ad) (aD [.lst (gD nums)] 8))=.ok (.lst (gD (nM nums nums.length).rule),fr) :=
 (Vw.start [.lst (gD nums)] 8).sA (T:=T) (Q:=λf=>∃fr,Pc.ret f=.ok (.lst (gD (nM nums nums.length).rule),fr)) (aC.Oe (aC.cst (.int 1))) λe V=>V.sA (aC.cst (.int 0)) λe V=>V.sA (aC.Oe (aC.cst (.int 1))) λe V=>V.sA (aC.cst (.int 1)) λe V=>by
  obtain⟨e5,q5,V5⟩:=Dq (t:=.nm 5) (R:=[]) (b:=aE T (Gb NH iv gp sc ad)) (λk env=>k<=nums.length->Zt nums (nM nums k) env) ((ρ nums.length).map λ(k:Nat)=>D.int (k:Int)) 0 e (λ_=>⟨_,_,_,V⟩) (λi d e hd J=>by
   obtain⟨Oj,rfl⟩:=xl hd;rw[gn] at J ⊢;obtain⟨v5,v6,v7,V⟩:=J (by omega);obtain⟨e1,b1,V1⟩:=V.bind (i:=5) (show (5:Nat)<8 by decide) [] (.int (i:Int));obtain⟨e2,h,x⟩:=D1 ht hi hg hs ha hn hl Oj (wX hn i) V1;exact⟨e1,e2,b1,h,λ_=>x⟩)
  simp only[aj,bq,gn] at V5;obtain⟨v5,v6,v7,V5⟩:=V5 (au _);exact .st (yu (uY (aC.Ml (V.var rfl) (fK nums)) (by omega)) q5) (IA (V5.var rfl))
theorem GI {lo sr:Nat}(hw:vp T wa)(Vj:E5 T rp)(R6:EN T rn)(Sh:IS T lo)(hsr:Kd T sr){wo:List Nat}(gw:Gr wo)(lw:wo.length<=62)(lm:mi.length<=63)(hm:∀p∈mi,p<n)(hn:n<=63) :
  ∃fr,Pc.ret (aE T (Y7 wa rp rn lo sr) (aD [.lst (gD wo),.lst (gD mi),.int (n:Int)] 7))=.ok (.lst (gD (susp wo mi n)),fr):=by
 have lg:=lV n mi;obtain⟨fr,h⟩:=hsr (gF wo mi n) (pg gw mi n) (by rw[qg];omega);have ol:(others mi n).length<=n:=by
  have:=il (λp=>!mi.contains p) (ρ n);rw[bq] at this;exact this
 have V:=Vw.start [.lst (gD wo),.lst (gD mi),.int (n:Int)] 7;obtain⟨R,i1⟩:=wO (T:=T) (V.var (i:=1) rfl);refine V.sA (T:=T) (Q:=λf=>∃fr,Pc.ret f=.ok (.lst (gD (susp wo mi n)),fr)) (aC.M6 (aC.of (V.map (f:=loc n) i1 (by omega) λa ha W w=>aC.Mi (w.var rfl) (w.var rfl) (Sh a n (hm a ha) (by omega)))) (R6 (locs n mi) (gZ n mi) (by simp[locs];omega))) λe V=>V.sA (aC.sl (aC.Mi (V.var rfl) (V.var rfl) (Vj wo (pM n mi) gw lg.2 (by rw[lg.1];omega) (by rw[lg.1];omega))) (aC.Ml (V.var rfl) (fK mi)) (aC.Ml (V.var rfl) (fK wo)) (AY _ _ _)) λe V=>V.sA (aC.M6 (V.var rfl) h) λe V=>V.sA (aC.of (V.NW (l:=ρ n) (uY (V.var rfl) (by omega)) (by simp;omega) λa ha W w=>Cf (w.var rfl) (w.var rfl))) λe V=>?_
 obtain⟨R,i6⟩:=wO (T:=T) (V.var (i:=6) rfl);refine IA (aC.of (V.NW i6 (show (others mi n).length<=1000 by omega) λa ha W w=>aC.cmp (aC.Mi (w.var rfl) (aC.Mi (w.var rfl) (w.var rfl) (Sh a n (dH.mp ha).1 (by omega))) (hw _ _ (gJ n a))) (aC.cst _) ?_));show θ (((dA (loc n a) (mX wo mi n):Nat):Int)==0)=_;congr 1;rw[fm];simp
theorem xg (hw:vp T wa)(hc:yX T cn)(hs:Ea T su)(NL:Ee T ch){c:Nat}(gg:Gr g)(lg:g.length<=63)(lm:mi.length<=63)(lc:c<=62)(hm:∀p∈mi,p<g.length){v0 v1 v2:Bool}{r:aU}{Q:Fl->Prop}(V:Tv env [lo g v0,lo mi v1,no c v2,η,η,η,η])
  (k:∀e,Tv e [lo g v0,lo mi v1,no c v2,lo (aQ g c) ζ,lo (HR g mi c) ζ,lo (cA g mi c) ζ,lo (bE g (cA g mi c) mi) ζ]->Wp T r e Q):Wp T (Hw wa cn su ch r) env Q:=by
 have lw:=kJ g c;obtain⟨R1,i1⟩:=wO (T:=T) (aC.M6 (V.var (i:=2) rfl) (hc c (by omega)));obtain⟨fr,h2⟩:=hs (aQ g c) mi g.length (fR gg c) (by omega) lm hm lg;have sl:=Bo (aQ g c) mi g.length;have tl:=qT g mi c;refine V.sA (V.vw.map (f:=λx=>dA x g) i1 (by rw[dM];omega) λa ha W w=>aC.Mi (w.var rfl) (w.var rfl) (hw g a (dC c a ha))) λe V=>V.sA (Ez (aC.Ml (V.var rfl) (z:=.lst (gD mi)) rfl) (aC.Qb (V.var rfl) (V.var rfl) (aC.Ml (V.var rfl) (fK g)) h2) (by omega)) λe V=>V.sA (d:=.lst (gD (cA g mi c))) (we (V.var rfl) (V.var rfl) (V.var rfl) (NL g (HR g mi c) (aQ g c) gg (fR gg c) lg (by rw[ba];omega) (by omega) (λp hp=>(ig.mp hp).elim (hm p) Ao))) λe V=>V.sA (V.vw.NW (l:=ρ g.length) (k:=λp=>!mi.contains p&&(cA g mi c).getD p 0 != g.getD p 0) (uY (aC.Ml (V.var rfl) (fK g)) (by omega)) (by simp;omega) λa ha W w=>?_) k
 have al:=pi.mp ha;refine aC.and (Cf (w.var rfl) (w.var rfl)) (λhk=>aC.cmp (aC.ix (w.var rfl) (w.var rfl) (nO (by omega))) (aC.ix (w.var rfl) (w.var rfl) (nO al)) ?_) (λhk=>by rw[hk];rfl);rw[hk,iy];show θ (!((((cA g mi c).getD a 0:Nat):Int)==((g.getD a 0:Nat):Int)))=_;congr 1;rw[fm];simp only[fk,beq_eq_false_iff_ne,bne_iff_ne,ne_eq];omega
theorem DX {ic:Nat}(hw:vp T wa)(hc:yX T cn)(hi:DJ T ic)(hs:Ea T su)(NL:Ee T ch){c:Nat}(gg:Gr g)(lg:g.length<=63)(lm:mi.length<=c)(lc:c<=62)(hm:∀p∈mi,p<g.length)(hf:rC g mi c=ε) :
  Pc.ret (aE T (Zf wa cn ic su ch) (aD [.lst (gD g),.lst (gD mi),.int (c:Int)] 7))=.ok (Jl g mi c,ζ):=by
 have V:=Tv.start [.lst (gD g),.lst (gD mi),.int (c:Int)] 7;exact Wp.ite (T:=T) (Q:=Rd _) (Fv V.vw) (λh=>absurd (az h) (by omega)) λ_=>xg hw hc hs NL gg lg (by omega) lc hm V λe V=>Wp.ite (FT hi lc V.vw) (λh=>by rw[hf] at h;cases h) λ_=>V.Qj (i:=5) (j:=6) (by decide) rfl rfl
theorem GO {ce:Nat}(hm:Gj T mx)(hc:Kn T ce)(ns:List Int){m s t:Nat}(hs:s<=m)(hm63:m<=63):∃ps:List Nat,ps.Pairwise (· < ·)/\ps.length=s/\(∀p∈ps,p<m)/\Pc.ret (aE T (Zd mx ce) (aD [.lst (ns.map D.int),.int (m:Int),.int (s:Int),.int (t:Int)] 8))=.ok (.lst (gD ps),ζ):=by
 have V:=Tv.start [.lst (ns.map D.int),.int (m:Int),.int (s:Int),.int (t:Int)] 8;refine V.sA (T:=T) (Q:=λf=>∃ps:List Nat,ps.Pairwise (· < ·)/\ps.length=s/\(∀p∈ps,p<m)/\Rd (.lst (gD ps)) f) (d:=.lst (gD (ρ m))) (vm (aC.Ml (V.var rfl) ?_) (eJ _)) λe V=>V.sA (d:=.lst (gD [])) (by rw[ev,aR,aA];rfl) λe V=>V.sR (V.var rfl) (by omega) (λk us=>∃L P o6 o7,TV m k L P/\us=[θ (.lst (ns.map D.int),ε),no m,no s,no t,lo L ζ,lo P ζ,o6,o7]) ⟨_,_,η,η,⟨by rw[aw];exact Ő,λp hp=>by simpa using hp,rfl,by simp⟩,rfl⟩
  (λk us e hk ⟨L,P,o6,o7,h,hu⟩ _=>by
   subst hu;obtain⟨v,hv⟩:=hc ns (k+t);obtain⟨d,hd0,hd⟩:=hm v ((k+t:Nat):Int);have:=h.ll;have lp:=h.lp;have YO:(0:Int)<(L.length:Int):=by omega
   have hi1:d / 31%(L.length:Int)<(L.length:Int):=Int.emod_lt_of_pos _ YO;have hi0:0<=d / 31%(L.length:Int):=Int.emod_nonneg _ (by omega);obtain⟨i,hi⟩:=ę hi0;have hl:i<L.length:=by omega
   refine⟨rfl,λe1 V=>V.sA (bV (aC.Mi (V.var rfl) (lu (V.var rfl) (V.var rfl)) hv) (lu (V.var rfl) (V.var rfl)) hd) λe2 V=>?_⟩;have x:aC T (.bin .Mod (.bin .FloorDiv LS LD) (L9 LK)) e2 (.int (i:Int)):=aC.bin (aC.bin (V.var rfl) (aC.cst _) (z:=.int (d / 31)) rfl) (aC.Ml (V.var rfl) (fK L)) (by
    show (if (0:Int)<(L.length:Int) then θ (d / 31%(L.length:Int)) else η).map D.int=_;rw[if_pos YO,hi];rfl)
   obtain⟨R,x⟩:=x;exact .st (CY V.tm (by decide) (V.own rfl) (V.own rfl) x hl (by omega) (by omega)) (((V.set 4 (.lst (gD (L.eraseIdx i))) .own ζ (aI _) λ_=>rfl).set 5 (.lst (gD (P ++ [L.getD i 0]))) .own ζ (aI _) λ_=>rfl).nil ⟨_,_,_,_,h.step hl,rfl⟩))
  λe us ⟨L,P,o6,o7,h,hu⟩ V=>by
   subst hu;exact⟨jR P,yV (fh.mp h.nd).2.1,by rw[(gC P).length_eq,h.lp],λp hp=>h.lt p (ao _ ((gC P).mem_iff.mp hp)),iB (vm (aC.sorted (V.var rfl) (by have:=h.lp;omega)) (eJ _))⟩
 show (if mK (m:Int)=ζ/\(m:Int)<=1000000 then θ (D.lst (dZ 0 1 (m:Int).toNat)) else η)=_;rw[if_pos ⟨xv (by omega),by omega⟩,ey,ZV];exact dg (λl=>θ (D.lst l)) (fQ m 0)
theorem Hh {i j:Int}(h:small i=ζ\/small j=ζ):qa .Mult (.int i) (.int j)=θ (.int (i*j)):=by
 show (if (small i || small j)=ζ then θ (i*j) else η).map D.int=_;rw[if_pos (by rw[gm];exact h)];rfl
theorem Kw (c k:Int):∃v:Int,0<=v/\Pc.ret (aE T Ze (aD [.int c,.int k] 3))=.ok (.int v,ζ):=by
 have V:=Tv.start [.int c,.int k] 3;refine V.sA (T:=T) (Q:=λf=>∃v:Int,0<=v/\Rd (.int v) f) (d:=.int ((c%2147483647+7919*k+1)*48271%2147483647)) (nK (aC.bin (aC.bin (aC.bin (aC.bin (aC.bin (V.var rfl) (aC.cst _) (z:=.int (c%2147483647)) rfl) (aC.bin (aC.cst _) (V.var rfl) (Hh (.inl (by decide)))) rfl) (aC.cst _) (z:=.int (c%2147483647+7919*k+1)) rfl) (aC.cst _) (Hh (.inr (by decide)))) (aC.cst _) rfl) rfl) λe V=>?_
 have so:small ((c%2147483647+7919*k+1)*48271%2147483647)=ζ:=uR (by omega) (by omega);generalize (c%2147483647+7919*k+1)*48271%2147483647=o at V so;exact⟨o*(o%1009+1)%2147483629 / 3,by omega,iB (nK (aC.bin (aC.bin (aC.bin (V.var rfl) (aC.bin (aC.bin (V.var rfl) (aC.cst _) (z:=.int (o%1009)) rfl) (aC.cst _) (z:=.int (o%1009+1)) rfl) (Hh (.inl so))) (aC.cst _) (z:=.int (o*(o%1009+1)%2147483629)) rfl) (aC.cst _) rfl) rfl)⟩
theorem Lp (ns:List Int)(k:Nat):∃v:Int,Pc.ret (aE T Zl (aD [.lst (ns.map D.int),.int (k:Int)] 2))=.ok (.int v,ζ):=by
 have V:=Tv.start [.lst (ns.map D.int),.int (k:Int)] 2;have c:aC T (.cmp .Lt LO (L9 LN)) (aD [.lst (ns.map D.int),.int (k:Int)] 2) (.bl (decide ((k:Int)<ns.length))):=aC.cmp (V.var rfl) (aC.Ml (V.var rfl) (FH ns)) rfl;by_cases h:k<ns.length
 .rw[cu (by omega)] at c;exact⟨ns[k],Wp.U5 c (U3 (aC.ix (V.var rfl) (V.var rfl) (KN h)) rfl)⟩
 .rw[cm (by omega)] at c;exact⟨_,Wp.ite (Q:=Rd _) c (λh=>by cases h) λ_=>iB (nK (aC.bin (aC.cst _) (aC.bin (V.var rfl) (aC.cst _) rfl) (z:=.int (1000003*((k:Int)+1))) rfl) rfl)⟩
theorem JD (VA:Gj T mx)(ns:List Int)(hl:ns.length<=63)(n:Nat)(hn:0<n)(M9:n<=1000):∃gs,Gr gs/\gs.length=n/\Pc.ret (aE T (Za mx) (aD [.lst (ns.map D.int),.int (n:Int)] 4))=.ok (.lst (gD gs),ζ):=by
 have V:=Tv.start [.lst (ns.map D.int),.int (n:Int)] 4;refine V.sA (T:=T) (Q:=λf=>∃gs,Gr gs/\gs.length=n/\Rd (.lst (gD gs)) f) (V.vw.map (l:=ρ n) (f:=λk=>7*k%64) (uY (V.var rfl) M9) (by simp;omega) λa ha W w=>vH (by decide) (aC.bin (aC.cst (.int 7)) (w.var rfl) (z:=.int (7*a:Nat)) rfl) (aC.cst _)) λe V=>V.sR (aC.Ml (V.var rfl) (FH ns)) (by omega) (λ_ us=>∃gs o,Gr gs/\gs.length=n/\us=[θ (.lst (ns.map D.int),ε),no n,o,lo gs ζ]) ⟨_,η,λz hz=>?_,by simp,rfl⟩
  (λk us e hk ⟨gs,o,h1,h2,hu⟩ _=>by
   subst hu;obtain⟨v,hv,hm⟩:=VA ns[k] k;obtain⟨w,hw,hw'⟩:=Bb (a:=v / 97%64) (m:=64) (by omega) (by omega);have lt:k%n<gs.length:=by rw[h2];exact jx _ hn
   exact⟨rfl,λe1 V=>V.OE rfl (vH hn (V.var rfl) (V.var rfl)) lt (by omega) (pW (aC.ix (V.var rfl) (vH hn (V.var rfl) (V.var rfl)) (nO lt)) (aC.bin (aC.bin (aC.Mi (aC.ix (V.var rfl) (V.var rfl) (KN hk)) (V.var rfl) hm) (aC.cst _) (z:=.int (v / 97)) rfl) (aC.cst _) (by show θ (D.int (v / 97%64))=_;rw[hw]))) λe2 V=>V.nil ⟨_,_,ph h1 (by omega),by rw[aq];exact h2,rfl⟩⟩)
  λe us ⟨gs,o,h1,h2,hu⟩ V=>by
   subst hu;exact⟨gs,h1,h2,V.ret rfl⟩
 obtain⟨k,_,rfl⟩:=Δ.mp hz;exact jx _ (by decide)
end
end Pc.Vw
end
section
namespace K16
open PySem Pc Pc.Sm Pc.Gr Pc.Lw Pc.Vw Fl64 Md
theorem qf {a:Int}{n:Nat}(ha:small a=ζ):Pc.binI .Mult a (n:Int)=θ (a*(n:Int)):=by
 show (if (small a || small (n:Int))=ζ then θ (a*(n:Int)) else η)=_;rw[ha,c_,if_pos rfl]
structure Case (c:Nat)(row sp W M:List Nat):Prop where
 c26:c<=26
 gr:Gr row
 gs:Gr sp
 len:sp.length=row.length
 U1:row.length<=63
 code:Ad row c
 nd:M.Nodup
 lt:∀p∈M,p<row.length
 wr:W=bE sp row M
 le:2*W.length+M.length<=c
end K16
end
section
namespace K24
open PySem Pc Pc.Sm Pc.Gr Pc.Lw Pc.Vw Fl64 Md
theorem h3 (n:Nat):nu (T (n+1)) 3:=λa b hb=>by
 rw[mj,aW (F:=⟨2,5,b3⟩) rfl rfl];exact B9 (T:=T n) rfl rfl (by show 7<=1000;decide) a b hb
theorem h5 (n:Nat):C4 (T (n+2)) 5:=λa k ha hk=>by
 rw[mj,aW (F:=⟨2,5,b5⟩) rfl rfl];exact GW (h3 n) (by show 41<=1000;decide) a k ha hk
theorem h4 (n:Nat):Ew (T (n+3)) 4:=λa ha h=>by
 rw[mj,aW (F:=⟨1,1,b4⟩) rfl rfl];exact Kg (T:=T (n+2)) rfl (h5 n) ha h
theorem h6 (n:Nat):vp (T (n+2)) 6:=λgs x hx=>by
 rw[mj,aW (F:=⟨2,4,K24.b6⟩) rfl rfl];exact HG (h3 n) gs x hx
theorem h7 (n:Nat):E5 (T (n+2)) 7:=λa b ha hb TF hl=>by
 rw[mj,aW (F:=⟨2,7,K24.b7⟩) rfl rfl];exact JL (h3 n) ha hb TF hl
theorem h8 (n:Nat):EN (T (n+3)) 8:=λns hn hl=>by
 rw[mj,aW (F:=⟨1,3,K24.b8⟩) rfl rfl];exact Ld (h7 n) hn hl
theorem h9 (n:Nat):yX (T (n+3)) 9:=λc hc=>by
 rw[mj,aW (F:=⟨1,1,K24.b9⟩) rfl rfl];exact KA (h5 n) c hc
theorem h10 (n:Nat){d:List Nat}(hd:Gr d)(c:Nat)(hl:d.length+c<=900):(T (n+4)).cl 10 [.lst (gD d),.int (c:Int)]=.ok (.lst (gD (vK d c)),ζ):=by
 rw[mj,aW (F:=⟨2,8,Xv⟩) rfl rfl];exact KR (h3 (n+2)) (h8 n) (h9 n) hd c hl
theorem YX (n:Nat):DJ (T (n+4)) 11:=λgs c hc=>by
 rw[mj,aW (F:=⟨2,2,Xu⟩) rfl rfl];exact KS (h9 n) (h6 (n+1)) gs c hc
theorem YW (n:Nat):IS (T (n+3)) 13:=λp m h hm=>by
 rw[mj,aW (F:=⟨2,2,Xs⟩) rfl rfl];exact Jz (h5 n) h hm
theorem h16 (n:Nat):Ga (T (n+2)) 16:=λr ns p a b c d=>by
 rw[mj,aW (F:=⟨3,6,Xp⟩) rfl rfl];exact Km (h3 n) a b c d
theorem h17 (n:Nat):Gg (T (n+2)) 17:=λr f a b c=>by
 rw[mj,aW (F:=⟨2,2,Xo⟩) rfl rfl];exact Ju (h3 n) a b c
theorem h18 (n:Nat):Iu (T (n+1)) 18:=λa b ha hb=>by
 rw[mj,aW (F:=⟨2,5,Xn⟩) rfl rfl];exact Vw.JW ha hb
theorem h15 (n:Nat):Kd (T (n+4)) 15:=λns hn hl=>by
 obtain⟨fr,h⟩:=HX (h3 (n+2)) (h4 n) (h16 (n+1)) (h17 (n+1)) (h18 (n+2)) hn hl;exact⟨fr,by rw[mj,aW (F:=⟨1,8,Xq⟩) rfl rfl];exact h⟩
theorem h20 (n:Nat):JE (T (n+2)) 20:=λx ls hx hl=>by
 rw[mj,aW (F:=⟨2,4,Xl⟩) rfl rfl];exact K3 (h3 n) hx hl
theorem YV (n:Nat):Ea (T (n+5)) 14:=λwo mi m a b c d e=>by
 obtain⟨fr,h⟩:=GI (h6 (n+2)) (h7 (n+2)) (h8 (n+1)) (YW (n+1)) (h15 n) a b c d e;exact⟨fr,by rw[mj,aW (F:=⟨3,7,Xr⟩) rfl rfl];exact h⟩
theorem YU (n:Nat):Ee (T (n+4)) 19:=λg su wo a b c d e f=>by
 rw[mj,aW (F:=⟨3,9,Xm⟩) rfl rfl];exact Lv (h3 (n+2)) (h4 n) (h6 (n+1)) (h7 (n+1)) (h8 n) (YW n) (h20 (n+1)) a b c d e f
variable {g:List Nat}
theorem h12 (n:Nat){mi:List Nat}{c:Nat}(gg:Gr g)(lg:g.length<=63)(lm:mi.length<=c)(lc:c<=62)(hm:∀p∈mi,p<g.length)(hf:Vw.rC g mi c=ε):(T (n+6)).cl 12 [.lst (gD g),.lst (gD mi),.int (c:Int)]=.ok (Jl g mi c,ζ):=by
 rw[mj,aW (F:=⟨3,7,Xt⟩) rfl rfl];exact DX (h6 (n+3)) (h9 (n+2)) (YX (n+1)) (YV n) (YU (n+1)) gg lg lm lc hm hf
theorem h23 (n:Nat){mi:List Nat}{c:Nat}(j:Int)(gg:Gr g)(lg:g.length<=63)(lm:mi.length<=c)(lc:c<=62)(hm:∀p∈mi,p<g.length)(hf:Vw.rC g mi c=ε):(T (n+7)).cl 23 [.lst (gD g),.lst (gD mi),.int (c:Int),.int j]=.ok (Jl g mi c,ζ):=by
 have V:Vw (aD [.lst (gD g),.lst (gD mi),.int (c:Int),.int j] 4) [lD g,lD mi,nD c,θ (.int j)]:=Vw.start _ 4;rw[mj,aW (F:=⟨4,4,Jy⟩) rfl rfl];show Pc.ret (aE (T (n+6)) Jy _)=_;unfold Jy;rw[aE,ze (aC.cst (.bl ζ))];simp only[if_true];rw[aE,bH,we (V.var (i:=0) rfl) (V.var (i:=1) rfl) (V.var (i:=2) rfl) (h12 n gg lg lm lc hm hf),bC];rfl
theorem K0 (n:Nat):Kn (T (n+1)) 25:=λns k=>by
 obtain⟨v,h⟩:=Lp (T:=T n) ns k;exact⟨v,by rw[mj,aW (F:=⟨2,2,Xj⟩) rfl rfl];exact h⟩
theorem Jk (n:Nat):Gj (T (n+1)) 26:=λc k=>by
 obtain⟨v,h',h⟩:=Kw (T:=T n) c k;exact⟨v,h',by rw[mj,aW (F:=⟨2,3,Xi⟩) rfl rfl];exact h⟩
theorem h27 (k:Nat)(ns:List Int)(hl:ns.length<=63)(n:Nat)(hn:0<n)(M9:n<=1000):∃gs,Gr gs/\gs.length=n/\(T (k+2)).cl 27 [.lst (ns.map D.int),.int (n:Int)]=.ok (.lst (gD gs),ζ):=by
 obtain⟨gs,a,b,h⟩:=JD (Jk k) ns hl n hn M9;exact⟨gs,a,b,by rw[mj,aW (F:=⟨2,4,Xh⟩) rfl rfl];exact h⟩
theorem YT (n:Nat):XC (T (n+2)) 30:=λns m s t hs hm=>by
 obtain⟨ps,a,b,c,h⟩:=GO (Jk n) (K0 n) ns (t:=t) hs hm;exact⟨ps,a,b,c,by rw[mj,aW (F:=⟨4,8,Xg⟩) rfl rfl];exact h⟩
noncomputable abbrev zX (l:List (Nat×Nat)):List D:=l.map λ(s:Nat×Nat)=>D.tup [.int (s.1:Int),.int (s.2:Int)]
theorem facts:allB 5 (λa=>allB 4 λb=>decide ((CT a).length=nb a/\nb a<=3/\0<nb a/\(∀x∈CT a,x<=48/\C a b<x)/\C a b<=26/\0<C a b/\0<(DU a b).sum/\(DU a b).sum<=120/\(CT a).sum=(DU a b).sum+C a b*nb a/\(CT a).sum=rm a/\(a<3\/b<2->C a b*nb a<=60)))=ζ:=by decide +kernel
variable {a:Nat}
theorem fact {b:Nat}(ha:a<5)(hb:b<4):(CT a).length=nb a/\nb a<=3/\0<nb a/\(∀x∈CT a,x<=48/\C a b<x)/\C a b<=26/\0<C a b/\0<(DU a b).sum/\(DU a b).sum<=120/\(CT a).sum=(DU a b).sum+C a b*nb a/\(CT a).sum=rm a/\(a<3\/b<2->C a b*nb a<=60) :=
 az (aS (aS facts a ha) b hb)
theorem JN:allB 5 (λa=>decide ((AT a).map AC=CT a)&&allB (nb a) λj=>allB ((CT a).getD j 0) λk=>decide (pos a j k<rm a)&&decide ((SP a)[pos a j k]? = θ (j,k)))=ζ:=by decide +kernel
theorem U6:allB 5 (λa=>allB (nb a) λj=>allB ((CT a).getD j 0) λk=>(match yI .Mq (.lst (zX (SP a))) [.tup [.int (j:Int),.int (k:Int)]] with|some (.int i)=>decide (i=(pos a j k:Int))|_=>ε))=ζ:=by decide +kernel
theorem n5 (h:a<5):a=0\/a=1\/a=2\/a=3\/a=4:=by omega
theorem n4 (h:a<4):a=0\/a=1\/a=2\/a=3:=by omega
theorem up {f:Nat}{ds:List D}{r:D×Bool}(h:∀n,Pc.run fns gl 1000 (n+1) f ds=.ok r)(m:Nat)(hm:1<=m):(T m).cl f ds=.ok r:=by
 cases m with
 |zero=>omega
 |succ m=>exact h m
theorem r29 (a:Nat)(h:a<5)(n:Nat):Pc.run fns gl 1000 (n+1) 29 [.lst (gD (CT a))]=.ok (.lst (zX (SP a)),ζ):=by
 rcases n5 h with rfl|rfl|rfl|rfl|rfl<;>kernel_rfl
theorem r1 (g:Nat->Nat)(a:Nat)(h:a<5)(n:Nat):Pc.run fns gl 1000 (n+1) 1 [.lst ((AT a).map λr=>.lst (gD (r.map g)))]=.ok (.lst (gD ((ρ (rm a)).map g)),ζ):=by
 rcases n5 h with rfl|rfl|rfl|rfl|rfl<;>kernel_rfl
theorem r2 (g:Nat->Nat)(a:Nat)(h:a<5)(n:Nat):Pc.run fns gl 1000 (n+1) 2 [.lst (gD ((ρ (rm a)).map g)),.lst (gD (CT a))]=.ok (.lst ((AT a).map λr=>.lst (gD (r.map g))),ζ):=by
 rcases n5 h with rfl|rfl|rfl|rfl|rfl<;>kernel_rfl
theorem r2b (g:Nat->Bool)(a:Nat)(h:a<5)(n:Nat):Pc.run fns gl 1000 (n+1) 2 [.lst ((ρ (rm a)).map λk=>.bl (g k)),.lst (gD (CT a))]=.ok (.lst ((AT a).map λr=>.lst (r.map λk=>.bl (g k))),ζ):=by
 rcases n5 h with rfl|rfl|rfl|rfl|rfl<;>kernel_rfl
end K24
end
section
namespace K16
open PySem Pc Pc.Sm Pc.Gr Pc.Lw Pc.Vw Fl64 Md
variable {T:Tb}{env:En}
theorem sq {e:En}{s:St}{r:aU}{x:Rs (D×Bool)}(h:bH T s env=.nx e)(h':Pc.ret (aE T r e)=x):Pc.ret (aE T (.cons s r) env)=x:=by
 rw[aE,h,cL];exact h'
theorem rV {T:Tb}{a:Ex}{x:Nat}(b:Nat)(hb:0<b)(Ng:b<1000)(h:aC T a env (.int (x:Int))):aC T (.bin .FloorDiv a (.cst (.int (b:Int)))) env (.int ((x / b:Nat):Int)):=aC.bin h (aC.cst _) (by
 rw[iJ];show ((if 0<(b:Int)/\(b:Int)<1073741824 then θ ((x:Int) / (b:Int)) else η).map D.int)=_;rw[if_pos (by omega),ŝ];rfl)
theorem lit (b:Nat):aC T (.cst (.int (b:Int))) env (.int (b:Int)):=aC.cst _
end K16
end
section
namespace K24
open PySem Pc Pc.Sm Pc.Gr Pc.Lw Pc.Vw Fl64 Md
noncomputable abbrev sh (xs:List Nat)(c:Nat):List D:=xs.map λ(x:Nat)=>D.tup [.int (x:Int),.int (c:Int)]
noncomputable abbrev iI (a:Nat):D:=.int (15+4*(a:Int))
variable {a b:Nat}
theorem r0 (ha:a<5)(hb:b<4)(n:Nat):Pc.run fns gl 1000 (n+1) 0 [iI a,.int (b:Int)]=.ok (.lst (sh (DU a b) (C a b)),ζ):=by
 rcases n5 ha with rfl|rfl|rfl|rfl|rfl<;>rcases n4 hb with rfl|rfl|rfl|rfl<;>kernel_rfl
noncomputable def part (a b:Nat)(dt:List Nat)(j:Nat):List Nat:=(dt.drop ((DU a b).take j).sum).take ((DU a b).getD j 0)
noncomputable def row (a b:Nat)(dt:List Nat)(j:Nat):List Nat:=part a b dt j++vK (part a b dt j) (C a b)
noncomputable def rows (a b:Nat)(dt:List Nat)(k:Nat):List (List Nat):=(ρ k).map (row a b dt)
noncomputable abbrev rD (rows:List (List Nat)):List D:=rows.map λr=>D.lst (gD r)
theorem nZ (l:List Nat)(k:Nat)(h:k<l.length):(l.take (k+1)).sum=(l.take k).sum+l.getD k 0:=by
 rw[List.take_succ_eq_append_getElem h,Ş,ι,υ h];simp
theorem HV (l:List Nat)(k:Nat):(l.take k).sum<=l.sum:=by
 conv=>rhs;rw[<-ĥ k l,Ş]
 omega
variable {j k:Nat}
section
variable {a b:Nat}{dt:List Nat}
theorem jA (ha:a<5)(hb:b<4):(DU a b).length=nb a:=by unfold DU;rw[aj,(fact ha hb).1]
theorem iQ (ha:a<5)(hb:b<4)(hl:dt.length=(DU a b).sum)(hj:j<nb a):((DU a b).take j).sum+(DU a b).getD j 0<=dt.length/\(part a b dt j).length=(DU a b).getD j 0:=by
 have h1:=nZ (DU a b) j (by rw[jA ha hb];exact hj);have h2:=HV (DU a b) (j+1);refine⟨by omega,?_⟩;unfold part;rw[dn,gv];omega
theorem se (hd:Gr dt)(j:Nat):Gr (part a b dt j):=λg hg=>hd g (ZT (ZU hg))
theorem j4 (hd:Gr dt)(j:Nat):Gr (row a b dt j)/\Ad (row a b dt j) (C a b)/\(row a b dt j).length=(part a b dt j).length+C a b:=by
 obtain⟨c1,c2,c3⟩:=xC (se hd j (a:=a) (b:=b)) (C a b);exact⟨(se hd j).append c2,c3,by unfold row;rw[ba,c1]⟩
theorem jQ (ha:a<5)(hb:b<4)(hj:j<nb a):(CT a).getD j 0=(DU a b).getD j 0+C a b/\(CT a).getD j 0<=48:=by
 obtain⟨f1,f2,f3,f4,_⟩:=fact ha hb;have e:(CT a)[j]? = θ ((CT a).getD j 0):=by rw[ι,υ (by omega)];rfl
 obtain⟨g1,g2⟩:=f4 _ (Κ e);refine⟨?_,g1⟩;unfold DU;rw[ι (l:=Ò _ _),π,e];show _=_-_+_;omega
theorem Cn (ha:a<5):(AT a).map AC=CT a:=az (ai _ _ ▸ aS JN a ha).1
theorem mE (ha:a<5)(hj:j<nb a)(hk:k<(CT a).getD j 0):pos a j k<rm a/\(SP a)[pos a j k]? = θ (j,k):=by
 have h:=aS JN a ha;rw[ai] at h;have h:=aS (aS h.2 j hj) k hk;rw[ai] at h;exact⟨az h.1,az h.2⟩
theorem sy (ha:a<5){j' k':Nat}(hj:j<nb a)(hk:k<(CT a).getD j 0)(VL:j'<nb a)(N4:k'<(CT a).getD j' 0)(e:pos a j k=pos a j' k'):j=j'/\k=k':=by
 have h:=(mE ha hj hk).2;rw[e,(mE ha VL N4).2] at h;cases h;exact⟨rfl,rfl⟩
theorem Li (ha:a<5){j:Nat}(hj:j<nb a):∃h:j<(AT a).length,((AT a)[j]'h).length=(CT a).getD j 0/\∀k (hk:k<((AT a)[j]'h).length),((AT a)[j]'h)[k]'hk=pos a j k:=by
 have e:=Cn ha;have l1:(AT a).length=nb a:=by
  have:=dg AC e
  rwa [aj,(fact ha (show 0<4 by decide)).1] at this
 have h:j<(AT a).length:=by omega
 refine⟨h,?_,λk hk=>?_⟩
 .rw[<-e,ι,π,υ h];rfl
 .unfold pos;rw[ι (l:=AT a),υ h,ι];show _=((AT a)[j][k]?).getD 0;rw[υ hk];rfl
noncomputable def wv (a:Nat)(RR:List (List Nat))(p:Nat):Nat:=(RR.getD ((SP a).getD p (0,0)).1 []).getD ((SP a).getD p (0,0)).2 0
theorem CZ (ha:a<5)(RR:List (List Nat))(hj:j<nb a)(hk:k<(CT a).getD j 0):wv a RR (pos a j k)=(RR.getD j []).getD k 0:=by
 unfold wv;rw[ι (l:=SP a),(mE ha hj hk).2];rfl
theorem vS {β:Type}(ha:a<5)(f:Nat->β):(AT a).map (λr=>r.map f)=(ρ (nb a)).map λj=>(ρ ((CT a).getD j 0)).map λk=>f (pos a j k):=by
 have l1:(AT a).length=nb a:=by
  have:=dg AC (Cn ha)
  rwa [aj,(fact ha (show 0<4 by decide)).1] at this
 refine cy (by simp[l1]) λj h1 h2=>?_
 obtain⟨h,g1,g2⟩:=Li ha (j:=j) (by simpa using h2);rw[eh,eh,fw];refine cy (by simp[g1]) λk h3 h4=>?_
 rw[eh,eh,fw,g2]
theorem DN (ha:a<5){RR:List (List Nat)}(hl:RR.map AC=CT a):RR=(AT a).map (λr=>r.map (wv a RR)):=by
 rw[vS ha];have l1:RR.length=nb a:=by
  have:=dg AC hl
  rwa [aj,(fact ha (show 0<4 by decide)).1] at this
 refine cy (by simp[l1]) λj h1 h2=>?_
 have lj:(CT a).getD j 0=RR[j].length:=by
  rw[<-hl,ι,π,υ h1];rfl
 rw[eh,fw];refine cy (by rw[aj,bq,lj]) λk h3 h4=>?_
 rw[eh,fw,CZ ha RR (by simpa using h2) (by simpa using h4),ι (l:=RR),υ h1,ι];show _=(RR[j][k]?).getD 0;rw[υ h3];rfl
noncomputable def wrap (a b:Nat)(dt:List Nat):List Nat:=(ρ (rm a)).map (wv a (rows a b dt (nb a)))
theorem Au (ha:a<5)(hb:b<4)(hl:dt.length=(DU a b).sum)(hd:Gr dt):(rows a b dt (nb a)).map AC=CT a:=by
 refine cy (by simp[rows,(fact ha hb).1]) λj h1 h2=>?_
 have hj:j<nb a:=by rw[(fact ha hb).1] at h2;exact h2
 simp only[rows,eh,fw];rw[(j4 hd j).2.2,(iQ ha hb hl hj).2,<-(jQ ha hb hj).1,ι,υ h2];rfl
theorem AA (l:List Nat)(s x:Nat)(h:s+x<=l.length):Fi (.lst (gD l)) (θ (s:Int)) (θ ((s+x:Nat):Int))=θ (.lst (gD ((l.drop s).take x))):=by
 rw[AY,ū,Ę]
theorem tV (l:List Nat):l=(ρ l.length).map λk=>l.getD k 0 :=
 cy (by simp) λi h1 h2=>by simp[h1]
theorem uN (ha:a<5)(hb:b<4):sh (DU a b) (C a b)=(ρ (nb a)).map λj=>D.tup [.int ((DU a b).getD j 0:Nat),.int (C a b:Nat)]:=by
 conv=>lhs;rw[tV (DU a b)]
 rw[sh,bh,jA ha hb];rfl
theorem h21 (m:Nat)(ha:a<5)(hb:b<4)(hl:dt.length=(DU a b).sum)(hd:Gr dt):(T (m+5)).cl 21 [.lst (gD dt),iI a,.int (b:Int)]=.ok (.lst (gD (wrap a b dt)),ζ):=by
 obtain⟨f1,f2,f3,f4,f5,f6,f7,f8,_⟩:=fact ha hb;rw[mj,aW (F:=⟨3,8,Xk⟩) rfl rfl];refine (Tv.start [.lst (gD dt),iI a,.int (b:Int)] 8).sA (T:=T (m+4)) (Q:=Rd _) (d:=.lst (rD (rows a b dt 0))) UO λe V=>V.sA (d:=.int ((((DU a b).take 0).sum:Nat):Int)) (by rw[ev];rfl) λe V=>Kt (n:=nb a) (R:=[]) (by rw[iL,bV (V.var rfl) (V.var rfl) (up (r0 ha hb) (m+4) (by omega)),aA,uN ha hb];rfl) (by rw[pA];exact V)
  (λk us=>∃v5 v6 v7,us=[lo dt,θ (iI a,ε),no b,θ (.lst (rD (rows a b dt k)),ζ),no ((DU a b).take k).sum ζ,v5,v6,v7]) ⟨_,_,_,rfl⟩ (λk us e hk ⟨v5,v6,v7,hu⟩ V=>by
   subst hu;obtain⟨p1,p2⟩:=iQ ha hb hl hk;have gp:=se hd k (a:=a) (b:=b);obtain⟨e1,z,V⟩:=V.SO (i:=5) (j:=6) [] (x:=.int ((DU a b).getD k 0:Nat)) (y:=.int (C a b:Nat)) rfl rfl;exact⟨e1,z,V.sA (d:=.lst (gD (part a b dt k))) (Ta (aC.sl (V.var rfl) (V.var rfl) (lu (V.var rfl) (V.var rfl)) (AA dt _ _ p1)) (eJ _)) λe V=>V.sM rfl (Ez (V.var rfl) (aC.of (bV (V.var rfl) (V.var rfl) (h10 m gp (C a b) (by omega)))) (by rw[(xC gp (C a b)).1];omega)) (by unfold rows;simp;omega) λe V=>V.sG rfl (V.var rfl) λe V=>V.nil ⟨_,_,_,by
    rw[show ((((DU a b).take k).sum:Nat):Int)+((DU a b).getD k 0:Nat)=((((DU a b).take (k+1)).sum:Nat):Int) by rw[nZ _ _ (by rw[jA ha hb];exact hk)];omega,show rD (rows a b dt k) ++ [.lst (gD (part a b dt k++vK (part a b dt k) (C a b)))]=rD (rows a b dt (k+1)) by unfold rows;rw[Æ,gj,rD,rD,gj];rfl];rfl⟩⟩)
  λe us ⟨v5,v6,v7,hu⟩ V=>?_
 subst hu;refine iB (oV (V.var rfl) ?_);have e2:rD (rows a b dt (nb a))=(AT a).map λr=>.lst (gD (r.map (wv a (rows a b dt (nb a))))):=by
  conv=>lhs;rw[DN ha (Au ha hb hl hd)]
  rw[rD,bh];rfl
 rw[e2];exact up (r1 (wv a (rows a b dt (nb a))) a ha) (m+4) (by omega)
end
theorem filter_tt {β:Type}(l:List β):l.filter (λ_=>ζ)=l:=Z4.mpr λ_ _=>rfl
theorem rg {β:Type}(n:Nat)(f:Nat->β):((ρ n).map f).zipIdx=(ρ n).map λk=>(f k,k) :=
 cy (by simp) λi h1 h2=>by simp
noncomputable abbrev bD (p:Nat×Nat):D:=.tup [.int (p.1:Int),.int (p.2:Int)]
variable {dt:List Nat}
theorem zJ (ha:a<5)(hb:b<4)(hl:dt.length=(DU a b).sum)(hj:j<nb a):(row a b dt j).take ((DU a b).getD j 0)=part a b dt j:=by
 rw[<-(iQ ha hb hl hj).2];exact List.take_left
noncomputable abbrev Ws (a:Nat)(M:List Nat):List D:=(ρ (nb a)).map λj=>D.lst ((ρ ((CT a).getD j 0)).map λk=>D.bl (M.contains (pos a j k)))
noncomputable abbrev Gu (a b:Nat)(sp M:List Nat)(f:Bool)(x8 x9:List D)(r:List (Option (D×Bool))):List (Option (D×Bool)):=θ (.lst (gD sp),ε)::θ (.lst (gD M),ε)::θ (iI a,ε)::θ (.int (b:Int),ε)::θ (.lst (sh (DU a b) (C a b)),f)::θ (.lst (gD (CT a)),ζ)::θ (.lst (rD ((ρ (nb a)).map (jT a sp))),ζ)::θ (.lst (Ws a M),ζ)::θ (.lst x8,ζ)::θ (.lst x9,ζ)::r
noncomputable abbrev U4 (a b j:Nat):D:=.tup [.int (j:Int),.tup [.int ((DU a b).getD j 0:Nat),.int (C a b:Nat)]]
noncomputable abbrev aH (a b:Nat):List D:=(ρ (nb a)).map (U4 a b)
noncomputable def u1:St:=.asg (.nm 4) (.call 0 (L6 LL LM)) ε
noncomputable def u2:St:=.asg (.nm 5) (.comp 2 [] (.tp [0,1]) (.seq LK) .none (.bin .Add LN LO)) ε
noncomputable def u3:St:=.asg (.nm 6) (.call 2 (L6 LN LP)) ε
noncomputable def u4:St:=.asg (.nm 7) (.call 2 (L6 (.comp 1 [1] (.nm 0) (.Mo (L9 LN)) .none (.cmp .In LN LO)) LP)) ε
noncomputable def u5:St:=.asg (.nm 8) (.lst .nil) ε
noncomputable def u6:St:=.asg (.nm 9) (.lst .nil) ε
noncomputable def Uc:St:=.asg (.nm 12) (.comp 2 [] (.tp [0,1]) (.enum (.ix LS LW)) (.some LO) LN) ε
noncomputable def F7:kE:=.cons (.ix LQ LW) (L7 LX (.ix LY Lz) LW)
noncomputable def S3:St:=.mut 8 .none .extend (L5 (.sl (.ix LZ LA) .none (.some (.ix LY LA))))
noncomputable def S2:St:=.mut 9 .none .append (L5 (.tup (L6 (L9 (.ix LZ Lz)) (L9 LX))))
noncomputable def u16:St:=.ret (.tup (L6 LU L1))
variable {sp:List Nat}
theorem Fm (m:Nat){M:List Nat}(ha:a<5)(hb:b<4)(ls:sp.length=rm a) :
  ∃e1 e2 e3 e4 e5 e6,bH (T (m+1)) u1 (aD [.lst (gD sp),.lst (gD M),iI a,.int (b:Int)] 14)=.nx e1/\bH (T (m+1)) u2 e1=.nx e2/\bH (T (m+1)) u3 e2=.nx e3/\bH (T (m+1)) u4 e3=.nx e4/\bH (T (m+1)) u5 e4=.nx e5/\bH (T (m+1)) u6 e5=.nx e6/\Tv e6 (Gu a b sp M ζ [] [] [η,η,η,η])/\iL (T (m+1)) (.enum LK) e6=.ok (aH a b,[4])/\lock [4] e6=e6.set 4 (θ (.lst (sh (DU a b) (C a b)),.lk)):=by
 obtain⟨f1,f2,f3,f4,f5,f6,f7,f8,f9,Y0,_⟩:=fact ha hb;have Rq:rm a<=133:=by rcases n5 ha with rfl|rfl|rfl|rfl|rfl<;>decide
 have V0:Tv (aD [.lst (gD sp),.lst (gD M),iI a,.int (b:Int)] 14) [θ (.lst (gD sp),ε),θ (.lst (gD M),ε),θ (iI a,ε),θ (.int (b:Int),ε),η,η,η,η,η,η,η,η,η,η]:=Tv.start _ 14;obtain⟨e1,q1,V1⟩:=V0.asg (T:=T (m+1)) (i:=4) (show (4:Nat)<14 by decide) (bV (V0.var (i:=2) rfl) (V0.var (i:=3) rfl) (up (r0 ha hb) (m+1) (by omega)));have V1:Tv e1 [θ (.lst (gD sp),ε),θ (.lst (gD M),ε),θ (iI a,ε),θ (.int (b:Int),ε),θ (.lst (sh (DU a b) (C a b)),ζ),η,η,η,η,η,η,η,η,η]:=V1;obtain⟨R1,i1⟩:=wO (V1.var (T:=T (m+1)) (i:=4) rfl);have c5:=CN (T:=T (m+1)) (env:=e1) (own:=2) (pick:=[]) (t:=.tp [0,1]) (c:=.none) (e:=.bin .Add LN LO) (r:=λx=>.int ((x+C a b:Nat):Int)) (k:=λ_=>ζ) i1 (by rw[jA ha hb];omega) (λx hx=>⟨[θ (.int (x:Int),.own),θ (.int (C a b:Int),.own)],rfl,rfl,lu (m:=x) (n:=C a b) ⟨_,rfl⟩ ⟨_,rfl⟩,rfl⟩);have ec:((DU a b).filter λ_=>ζ).map (λx=>D.int ((x+C a b:Nat):Int))=gD (CT a):=by
  rw[filter_tt];refine cy (by simp[jA ha hb,f1]) λj h1 h2=>?_
  have hj:j<nb a:=by simpa[jA ha hb] using h1
  have:=(jQ ha hb hj).1;rw[ι,υ (by omega),ι,υ (by rw[jA ha hb];exact hj)] at this;simp only[gD,eh];exact dg (λn:Nat=>D.int (n:Int)) this.symm
 rw[ec] at c5;obtain⟨e2,q2,V2⟩:=V1.asg (T:=T (m+1)) (i:=5) (show (5:Nat)<14 by decide) c5;have V2:Tv e2 [θ (.lst (gD sp),ε),θ (.lst (gD M),ε),θ (iI a,ε),θ (.int (b:Int),ε),θ (.lst (sh (DU a b) (C a b)),ζ),θ (.lst (gD (CT a)),ζ),η,η,η,η,η,η,η,η]:=V2;have es:gD sp=gD ((ρ (rm a)).map λp=>sp.getD p 0):=by rw[<-ls,<-tV]
 have p2:=up (r2 (λp=>sp.getD p 0) a ha) (m+1) (by omega);rw[<-es] at p2;have eA:((AT a).map λr=>D.lst (gD (r.map λp=>sp.getD p 0)))=rD ((ρ (nb a)).map (jT a sp)):=by
  have:=vS (a:=a) ha (λp=>sp.getD p 0);show (AT a).map _=((ρ (nb a)).map λj=>(ρ ((CT a).getD j 0)).map λk=>sp.getD (pos a j k) 0).map _;rw[<-this,bh];rfl
 rw[eA] at p2;obtain⟨e3,q3,V3⟩:=V2.asg (T:=T (m+1)) (i:=6) (show (6:Nat)<14 by decide) (bV (V2.var (i:=0) rfl) (V2.var (i:=5) rfl) p2);have V3:Tv e3 [θ (.lst (gD sp),ε),θ (.lst (gD M),ε),θ (iI a,ε),θ (.int (b:Int),ε),θ (.lst (sh (DU a b) (C a b)),ζ),θ (.lst (gD (CT a)),ζ),θ (.lst (rD ((ρ (nb a)).map (jT a sp))),ζ),η,η,η,η,η,η,η]:=V3;have VN:iL (T (m+1)) (.Mo (L9 LN)) e3=.ok ((ρ (rm a)).map λ(k:Nat)=>D.int (k:Int),[]):=uY (by have:=V3.vw.len (T:=T (m+1)) (i:=0) (l:=sp) rfl;rwa [ls] at this) (by omega);have c7:=V3.vw.comp (T:=T (m+1)) (pick:=[1]) (c:=.none) (e:=.cmp .In LN LO) (f:=λp=>.bl (M.contains p)) (k:=λ_=>ζ) VN (by rw[bq];omega) λp hp W w=>⟨by rw[vY],aC.cmp (w.var rfl) (w.var rfl) (oo M p),rfl⟩
 rw[filter_tt] at c7;have p7:=up (r2b (λp=>M.contains p) a ha) (m+1) (by omega);obtain⟨e4,q4,V4⟩:=V3.asg (T:=T (m+1)) (i:=7) (show (7:Nat)<14 by decide) (bV (aC.of c7) (V3.var (i:=5) rfl) p7);have eG:((AT a).map λr=>D.lst (r.map λp=>D.bl (M.contains p)))=(ρ (nb a)).map λj=>D.lst ((ρ ((CT a).getD j 0)).map λk=>D.bl (M.contains (pos a j k))):=by
  have:=dg (Ò D.lst) (vS (a:=a) ha (λp=>D.bl (M.contains p)));rw[bh,bh] at this;exact this
 rw[eG] at V4;obtain⟨e5,q5,V5⟩:=V4.asg (T:=T (m+1)) (i:=8) (e:=.lst .nil) (d:=.lst []) (show (8:Nat)<14 by decide) (by rw[ev,aR,aA];rfl);obtain⟨e6,q6,V6⟩:=V5.asg (T:=T (m+1)) (i:=9) (e:=.lst .nil) (d:=.lst []) (show (9:Nat)<14 by decide) (by rw[ev,aR,aA];rfl);have o4:e6[4]? = θ (θ (.lst (sh (DU a b) (C a b)),.own)):=V6.own rfl;have hit:iL (T (m+1)) (.enum LK) e6=.ok ((ρ (nb a)).map (λ(j:Nat)=>D.tup [.int (j:Int),.tup [.int ((DU a b).getD j 0:Nat),.int (C a b:Nat)]]),[4]):=by
  have v4:ev (T (m+1)) LK e6=.ok (.lst (sh (DU a b) (C a b)),.mv [4]):=Eg o4 rfl;rw[iL,v4,aA];show Rs.ok ((sh (DU a b) (C a b)).zipIdx.map λq=>D.tup [.int q.2,q.1],[4])=_;rw[uN ha hb,rg,bh];rfl
 exact⟨e1,e2,e3,e4,e5,e6,q1,q2,q3,q4,q5,q6,V6,hit,Af o4⟩
variable {M:List Nat}{e:En}{x9:List D}
theorem Ja (m:Nat)(ha:a<5)(hb:b<4)(hj:j<nb a){x8:List D}{v10 v11 Pk Nr:Option (D×Bool)}(W:Tv e (Gu a b sp M ε x8 x9 [v10,v11,Pk,Nr])) :
  ∃e8 e9,bP [4] (.tp [10,11]) (U4 a b j) e=θ e8/\bH (T (m+1)) Uc e8=.nx e9/\Tv e9 (Gu a b sp M ε x8 x9 [θ (.int (j:Int),ζ),θ (.tup [.int ((DU a b).getD j 0:Nat),.int (C a b:Nat)],ζ),θ (.lst (gD (ku a M j)),ζ),Nr]) /\
   ∃l,aR (T (m+1)) F7 e9=.ok l/\l.map (·.1)=[.lst (gD (jT a sp j)),.lst (gD (ku a M j)),.int (C a b:Nat),.int (j:Int)]:=by
 have Qw:=(jQ ha hb hj).2;have P2:bP [4] (.tp [10,11]) (.tup [.int (j:Int),.tup [.int ((DU a b).getD j 0:Nat),.int (C a b:Nat)]]) e=θ ((e.set 10 (θ (.int (j:Int),.own))).set 11 (θ (.tup [.int ((DU a b).getD j 0:Nat),.int (C a b:Nat)],.own))):=km W.tm (by rw[W.len];exact (by decide:(10:Nat)<14)) (by rw[W.len];exact (by decide:(11:Nat)<14)) rfl rfl;have W1:=(W.set 10 (.int (j:Int)) .own ζ (aI _) λ_=>rfl).set 11 (.tup [.int ((DU a b).getD j 0:Nat),.int (C a b:Nat)]) .own ζ (aI _) λ_=>rfl
 generalize (e.set 10 (θ (.int (j:Int),.own))).set 11 (θ (.tup [.int ((DU a b).getD j 0:Nat),.int (C a b:Nat)],.own))=e8 at P2 W1;have g7:aC (T (m+1)) (.ix LS LW) e8 (.lst ((ρ ((CT a).getD j 0)).map λk=>D.bl (M.contains (pos a j k)))):=aC.ix (W1.var (i:=7) rfl) (W1.var (i:=10) rfl) (by
  show (Pc.kH _ (j:Int)).bind _=_;rw[aj,bq,mQ hj];show ((ρ (nb a)).map _)[j]? = _;rw[π,sw hj];rfl)
 obtain⟨R7,g7⟩:=g7;have VM:iL (T (m+1)) (.enum (.ix LS LW)) e8=.ok ((ρ ((CT a).getD j 0)).map (λ(k:Nat)=>D.tup [.int (k:Int),.bl (M.contains (pos a j k))]),R7.roots):=by
  rw[iL,g7,aA];show Rs.ok (((ρ ((CT a).getD j 0)).map λk=>D.bl (M.contains (pos a j k))).zipIdx.map λq=>D.tup [.int q.2,q.1],R7.roots)=_;rw[rg,bh];rfl
 have c8:=CN (T:=T (m+1)) (env:=e8) (own:=2) (pick:=[]) (t:=.tp [0,1]) (c:=.some LO) (e:=.var 0) (r:=λ(k:Nat)=>.int (k:Int)) (k:=λk=>M.contains (pos a j k)) VM (by rw[bq];omega) (λk hk=>⟨[θ (.int (k:Int),.own),θ (.bl (M.contains (pos a j k)),.own)],rfl,Lm ⟨_,rfl⟩,⟨_,rfl⟩,rfl⟩);obtain⟨e9,q9,W2⟩:=W1.asg (T:=T (m+1)) (i:=12) (d:=.lst (gD (ku a M j))) (show (12:Nat)<14 by decide) c8;have i6:aC (T (m+1)) (.ix LQ LW) e9 (.lst (gD (jT a sp j))):=aC.ix (W2.var (i:=6) rfl) (W2.var (i:=10) rfl) (by
   show (Pc.kH _ (j:Int)).bind _=_;rw[aj,aj,bq,mQ hj];show (Ò _ ((ρ (nb a)).map _))[j]? = _;rw[π,π,sw hj];rfl)
 obtain⟨R1,y1⟩:=i6;obtain⟨R2,y2⟩:=W2.var (T:=T (m+1)) (i:=12) rfl;obtain⟨R3,y3⟩:=aC.ix (W2.var (T:=T (m+1)) (i:=11) rfl) (aC.cst (.int 1)) (z:=.int (C a b:Nat)) rfl;obtain⟨R4,y4⟩:=W2.var (T:=T (m+1)) (i:=10) rfl;refine⟨e8,e9,P2,q9,W2,[(_,R1),(_,R2),(_,R3),(_,R4)],?_,rfl⟩;unfold F7;rw[aR,y1,aA,aR,y2,aA,aR,y3,aA,aR,y4,aA,aR,aA,aA,aA,aA]
theorem Fh (m:Nat){x8 r w:List Nat}(W3:Tv e (Gu a b sp M ε (gD x8) x9 [θ (.int (j:Int),ζ),θ (.tup [.int ((DU a b).getD j 0:Nat),.int (C a b:Nat)],ζ),θ (.lst (gD (ku a M j)),ζ),θ (.tup [.lst (gD r),.lst (gD w)],ζ)]))
  (h8:x8.length+r.length<=900) (h9:x9.length<=900) :
  ∃e2 e3,bH (T (m+1)) S3 e=.nx e2/\bH (T (m+1)) S2 e2=.nx e3/\Tv e3 (Gu a b sp M ε (gD (x8++r.take ((DU a b).getD j 0))) (x9 ++ [bD (w.length,(ku a M j).length)]) [θ (.int (j:Int),ζ),θ (.tup [.int ((DU a b).getD j 0:Nat),.int (C a b:Nat)],ζ),θ (.lst (gD (ku a M j)),ζ),θ (.tup [.lst (gD r),.lst (gD w)],ζ)]):=by
 have x0:aC (T (m+1)) (.ix LY LA) e (.int ((DU a b).getD j 0:Nat)):=aC.ix (W3.var (i:=11) rfl) (aC.cst (.int 0)) rfl;have y0:aC (T (m+1)) (.ix LZ LA) e (.lst (gD r)):=aC.ix (W3.var (i:=13) rfl) (aC.cst (.int 0)) rfl;have sl:=aC.XY y0 x0 (FV r _);obtain⟨Q7,Ru,W4⟩:=W3.ext (T:=T (m+1)) (x:=8) rfl (Ta sl (eJ _)) (sJ _) (by rw[cD,cD,dn];omega);rw[<-iY] at W4;have z1:aC (T (m+1)) (.ix LZ Lz) Q7 (.lst (gD w)):=aC.ix (W4.var (i:=13) rfl) (aC.cst (.int 1)) rfl;obtain⟨Qa,Rr,W5⟩:=W4.app (T:=T (m+1)) (x:=9) rfl (Kr (vm (aC.Ml (k:=.len) z1 (fK _)) rfl) (vm (aC.Ml (k:=.len) (W4.var (i:=12) rfl) (fK _)) rfl)) (by omega);exact⟨Q7,Qa,Ru,Rr,W5⟩
theorem h22 (m:Nat){M:List Nat}{w:Nat->List Nat}(ha:a<5)(hb:b<4)(hl:dt.length=(DU a b).sum)(hd:Gr dt)(ls:sp.length=rm a)
  (hC:∀j,j<nb a->K16.Case (C a b) (row a b dt j) (jT a sp j) (w j) (ku a M j)) :
  (T (m+8)).cl 22 [.lst (gD sp),.lst (gD M),iI a,.int (b:Int)]=.ok (.tup [.lst (gD dt),.lst ((ρ (nb a)).map λj=>bD ((w j).length,(ku a M j).length))],ζ):=by
 obtain⟨f1,f2,f3,f4,f5,f6,f7,f8,f9,Y0,_⟩:=fact ha hb;obtain⟨e1,e2,e3,e4,e5,e6,q1,q2,q3,q4,q5,q6,V6,hit,lk⟩:=Fm (m+6) (M:=M) ha hb ls;obtain⟨e7,q7,v10,v11,Pk,Nr,V7⟩:=Dq (t:=.tp [10,11]) (R:=[4]) (b:=aE (T (m+7)) (.cons Uc (.cons (.asg (.nm 13) (.call 23 F7) ε) (.cons S3 (.cons S2 .nil))))) (λk env=>∃v10 v11 Pk Nr,Tv env (Gu a b sp M ε (gD (dt.take ((DU a b).take k).sum)) ((ρ k).map λj=>bD ((w j).length,(ku a M j).length)) [v10,v11,Pk,Nr])) (aH a b) 0 (e6.set 4 (θ (.lst (sh (DU a b) (C a b)),.lk))) ⟨_,_,_,_,V6.set 4 (.lst (sh (DU a b) (C a b))) .lk ε (rP _) (λh=>by cases h)⟩ (λj d e NB ⟨v10,v11,Pk,Nr,W⟩=>by
  rw[gn] at W ⊢;obtain⟨hj,rfl⟩:j<nb a/\d=U4 a b j:=by
   rw[π] at NB;cases q:(ρ (nb a))[j]? with
   |none=>rw[q] at NB;cases NB
   |some z=>
    have h:=(χ.mp q).1;rw[bq] at h;rw[sw h] at NB;cases NB;exact⟨h,rfl⟩
  obtain⟨e8,e9,P2,q9,W2,l,y1,y2⟩:=Ja (m+6) ha hb hj W;have K:=hC j hj;have near:BI (jT a sp j) (row a b dt j) (ku a M j) (C a b):=⟨K.gr,K.len.symm,K.code,by rw[<-K.wr];exact K.le⟩;have Yk:∀p∈ku a M j,p<(jT a sp j).length:=λp hp=>by rw[K.len];exact K.lt p hp
  have le:=K.le;obtain⟨tr,fa⟩:=jK K.gs (by rw[K.len];exact K.U1) (by omega) K.nd Yk near;have Y6:=h23 m (j:Int) K.gs (by rw[K.len];exact K.U1) (mi:=ku a M j) (c:=C a b) (by omega) (by omega) Yk fa;have em:Jl (jT a sp j) (ku a M j) (C a b)=.tup [.lst (gD (row a b dt j)),.lst (gD (w j))]:=by
   show D.tup [.lst (gD (cA _ _ _)),.lst (gD (bE _ (cA _ _ _) _))]=_;rw[tr,<-K.wr]
  rw[em,<-y2] at Y6;obtain⟨PB,UI,W3⟩:=W2.asg (T:=T (m+7)) (i:=13) (e:=.call 23 F7) (show (13:Nat)<14 by decide) (by rw[ev,y1,aA,Y6,aA];rfl);have pl:=iQ ha hb hl hj;have lr:=(j4 (a:=a) (b:=b) hd j).2.2;have Qw:=jQ ha hb hj;obtain⟨Q7,Qa,Ru,Rr,W5⟩:=Fh (m+6) W3 (by rw[lr,dn];omega) (by simp;omega);rw[zJ ha hb hl hj] at W5;have eT:dt.take ((DU a b).take j).sum++part a b dt j=dt.take ((DU a b).take (j+1)).sum:=by
   rw[nZ _ _ (by rw[jA ha hb];exact hj),List.take_add];rfl
  have eB:(ρ j).map (λj=>bD ((w j).length,(ku a M j).length)) ++ [bD ((w j).length,(ku a M j).length)]=(ρ (j+1)).map λj=>bD ((w j).length,(ku a M j).length):=by
   rw[Æ,gj];rfl
  rw[eT,eB] at W5;refine⟨e8,Qa,P2,.inl ?_,_,_,_,_,W5⟩;rw[aE,q9,cL,aE,UI,cL,aE,Ru,cL,aE,Rr,cL];rfl)
 rw[<-lk] at q7;have q7:=xj hit q7;have V8:=V7.unlock (env:=e6) [4];rw[gn,aj,bq] at V8;have eD:dt.take ((DU a b).take (nb a)).sum=dt:=by
  rw[i9 (l:=DU a b) (by rw[jA ha hb];exact au _),<-hl,Ō]
 rw[eD] at V8;rw[mj,aW (F:=⟨4,14,TU⟩) rfl rfl];show Pc.ret (aE (T (m+7)) TU _)=_;exact K16.sq q1 (K16.sq q2 (K16.sq q3 (K16.sq q4 (K16.sq q5 (K16.sq q6 (K16.sq q7 (V8.Qj (i:=8) (j:=9) (by decide) rfl rfl)))))))
end K24
end
section
namespace Pc
open PySem PySem.Spec PyProof.Rows L2
structure EC where
 nm:Str
 q:Str
 N:Addr
 bs:List Value
 sn:List Str
 sub:List Value
 ab:Bool
 col:Option Bool
 dd:Option Addr
 k0:Option Value
 k1:Option Value
 k2:Option Value
 k3:Option Value
 k5:Option Value
noncomputable abbrev EC.o (e:EC)(C:Addr)(bm:List Value)(hd:Bool)(nI:String):Obj:=excClassObj e.nm e.q C e.N e.bs bm hd e.sn e.sub e.ab e.col e.dd e.k0 e.k1 e.k2 e.k3 e.k5 nI
section
variable {X:Cx}
end
def Bf (B:Heap)(fr:List Addr)(H':Hp)(h h':Heap):Prop:=∀b o,h'.get? b=θ o->b∈fr\/B.get? b=θ o\/(h.get? b=η/\H' b=η)
variable {H:Hp}{P:Program}{h h':Heap}{w:Ξ}
theorem uC (x:lR P w H h)(k:∀b o,H b≠η->h.get? b=θ o->h'.get? b=θ o):lR P w H h':=λa o e=>
 (x a o e).MK (λb u hb q=>k b u (by rcases hb with rfl|hb<;>(intro z;simp_all)) q) (λ_ q=>q) λ_ _ q=>q
structure Fc (X:Cx)(H H':Hp)(s:μ)(B h:Heap):Prop where
 un:Un (dR X.stack) [] H H' s.heap h
 Mc:lR X.prog X.w H' h
 bf:Bf B (dR X.stack) H' s.heap h
variable {a:Addr}{a0:Value}
section
variable {X:Cx}{pins:List (Addr×Obj)}{σ:L2.St}{H H':Hp}{s:μ}{B h h':Heap}
theorem Fc.OW (F:Fc X H H' s B h)(I:Inv X pins σ H s):∀b∈dR X.stack,H' b=η:=λb hb=>by
 obtain⟨_,o,e,_⟩:=I.stack.mem hb;exact F.un.free b o e (I.MW b hb) (by simp)
theorem Fc.next (F:Fc X H H' s B h)(I:Inv X pins σ H s)(st:B.StaysIn h')(fr:∀b∈dR X.stack,∃o,h.get? b=θ o/\∀vs,o.data≠.fields vs)(ut:h.UpToSlots h'):Fc X H H' s B h':=by
 have keep:∀b o,h.get? b=θ o->b∉dR X.stack->(s.heap.get? b≠η\/H' b≠η)->h'.get? b=θ o:=λb o e hf hn=>by
  rcases F.bf b o e with z|z|⟨z1,z2⟩
  .exact absurd z hf
  .exact st b o z
  .rcases hn with hn|hn
   .exact absurd z1 hn
   .exact absurd z2 hn
 have slot:∀b o,h.get? b=θ o->b∈dR X.stack->∃sl,h'.get? b=θ { o with slots:=sl }:=λb o e hf=>by
  obtain⟨o',e',hd⟩:=fr b hf;rw[e] at e';cases e';exact ut b o e hd
 refine⟨⟨λb o e n hf _=>?_,λb o e n hf _=>?_,λb o e n hx=>F.un.free b o e n hx,λb o e hx=>?_,F.un.MY,F.un.MV,F.un.MZ⟩,uC F.Mc λb o hb e=>?_,λb o e=>?_⟩
 .exact keep b o (F.un.keep b o e n hf (by simp)) hf (.inl (by rw[e];simp))
 .obtain⟨sl,e1⟩:=F.un.slot b o e n hf (by simp);obtain⟨Qi,e2⟩:=slot b _ e1 hf;exact⟨Qi,e2⟩
 .obtain⟨o1,e1⟩:=F.un.there b o e (by simp);by_cases hf:b∈dR X.stack
  .obtain⟨Qi,e2⟩:=slot b _ e1 hf;exact⟨_,e2⟩
  .exact⟨o1,keep b o1 e1 hf (.inl (by rw[e];simp))⟩
 .exact keep b o e (λz=>hb (F.OW I b z)) (.inr hb)
 .by_cases hf:b∈dR X.stack
  .exact .inl hf
  .cases e1:h.get? b with
   |none=>
    refine .inr (.inr ⟨?_,?_⟩)
    .cases e0:s.heap.get? b with
     |none=>rfl
     |some o0=>
      obtain⟨o1,e2⟩:=F.un.there b o0 e0 (by simp);rw[e1] at e2;cases e2
    .cases e0:H' b with
     |none=>rfl
     |some u=>
      obtain⟨ob,e2⟩:=dN.N3 (F.Mc b u e0);rw[e1] at e2;cases e2
   |some o1=>
    rcases F.bf b o1 e1 with z|z|z
    .exact absurd z hf
    .have:=st b o1 z;rw[e] at this;cases this;exact .inr (.inl z)
    .exact .inr (.inr z)
theorem Fc.inv {g':Array Tl}{d':Ă}{t':Nat}(F:Fc X H H' s B h)(I:Inv X pins σ H s)(hg:Tk g'):Inv X pins σ H' { s with heap:=h,gens:=g',drawn:=d',toks:=t' } :=
 I.call (ch:=[]) F.un F.Mc hg λb z=>nomatch z
theorem dG {C:Value}(f:wn B X.stack a C a0 h):∀b∈dR X.stack,∃o,h.get? b=θ o/\∀vs,o.data≠.fields vs:=λb hb=>(f.2.2.1.mem hb).2
theorem m6 {L:Addr}{C:Value}(f:Ľ B X.stack a C a0 L h):∀b∈dR X.stack,∃o,h.get? b=θ o/\∀vs,o.data≠.fields vs:=λb hb=>(f.2.2.1.mem hb).2
noncomputable abbrev markX (X:Cx)(a:Addr):Cx:={ X with A:=X.A.mark (θ (.ref a)),calm:=ε,xe:=λ_ _=>False }
theorem uA (I:Inv X pins σ H s)(a:Addr)(hf:(X.A.mark (θ (.ref a))).frames=θ X.stack):Inv (markX X a) pins σ H s :=
 ⟨⟨I.ok.mod,I.ok.kind,I.ok.glob,I.ok.blt,I.ok.above,I.ok.inj,I.ok.has,I.ok.O1,λz=>(by cases z),hf,I.ok.PL,I.ok.QO,I.ok.bs,I.ok.Oo,I.ok.Nf,I.ok.Nj,I.ok.MJ,I.ok.OV⟩,I.os,I.bare,I.base,I.loc,I.cell,I.free,I.Mn,I.pin,I.Mc,I.len⟩
end
variable {C:Addr}{bm:List Value}{ec:EC}{hdct:Bool}{newId:String}
section
variable {M:Ě}{A:Ρ}{E:Value->μ->Prop}{prog:Program}{w:Ξ}
theorem nh 
  {P9:EC}{C':Addr}{Pf:List Value}{M4:Bool}{NR:String}
  {g:Array Tl}{d:Ă}{t:Nat}{os:Î}{e:Addr}{oe:Obj}{Q:Bool->μ->Prop}
  (hC:h.get? C=θ (ec.o C bm hdct newId)) (YS:h.get? C'=θ (P9.o C' Pf M4 NR)) (he:h.get? e=θ oe) (OR:oe.cls=.ref C)
  (MO:Pf.contains (.type "BaseException")=ζ) (hq:Q ((Γ C::bm).contains (.ref C')) ⟨h,g,d,t,os⟩):Β M A (excMatches (.ref e) (.ref C')) Q E ⟨h,g,d,t,os⟩:=by
 have OS:(Γ C'::Pf).contains (.type "BaseException")=ζ:=by rw[dk,MO,ð]
 have f:=tc_notTuple;unfold excMatches
 repeat (first | (with_reducible refine Ε he ?_;rw[OR])|with_reducible refine Ε YS ?_ | (with_reducible refine ge YS ?_;rw[OS]) | (with_reducible refine ge hC ?_)|wp_step)
 cases hb:(Γ C::bm).contains (.ref C')<;>(rw[hb] at hq;first|exact hq | (wp_walk;exact hq))
end
section
variable {X:Cx}{pins:List (Addr×Obj)}{σ:L2.St}{H:Hp}{s:μ}{D:Ends}
end
variable {A:Ρ}{M:Ě}{i:Nat}{pos:No}{x:Str}
section
variable {X:Cx}{pins:List (Addr×Obj)}{σ:L2.St}{H:Hp}{s:μ}{D:Ends}
theorem tN {E:Value->μ->Prop}{v:V}{Q:Unit->μ->Prop}(I:Inv X pins σ H s)(hN:X.N.Nodup)(hi:X.N[i]? = θ x)(hk:X.env.scope.names.lookup x=θ .local)(hv:σ[i]? = θ (θ v))
  (h:∀s',Inv X pins (σ.set i η) H s'->Q () s'):Β M A (unbindName X.env x) Q E s:=by
 obtain⟨m,hn,hl⟩:=id I.loc;have OR:(X.env.scope.kind == .class || (X.env.scope.kind == .module&&X.env.locals != X.env.globals))=ε:=by rw[I.ok.kind];rfl
 have TC:i<σ.length:=by rw[I.len];exact (χ.mp hi).1
 have O0:=I.O0;have tracked:∀{a:Addr}{h':Heap},(∃o,s.heap.get? a=θ o/\H a=η)->đ a s.heap h'->lR X.prog X.w H h':=λ{a h'} ha hs b ob e=>by
  obtain⟨_,_,Mu⟩:=ha;refine (I.Mc b ob e).MK (λc w' hc q=>(hs.2 c ?_).trans q) (λ_ q=>q) λ_ _ q=>q
  rintro rfl;rcases hc with rfl|hc
  .rw[Mu] at e;cases e
  .rw[Mu] at hc;cases hc
 have hm:∃u,m x=θ u:=by
  obtain⟨u,_,q⟩:=hl i x v hi hv (.inl hk);rcases q with ⟨_,e⟩|⟨k,_⟩
  .exact⟨u,e⟩
  .have:X.env.kindOf x=θ .local:=hk;rcases k with k|k<;>(rw[this] at k;cases k)
 obtain⟨u,hu⟩:=hm;refine wpAny_unbindName_local hk hn hu OR λh' u' M9 hs=>?_
 obtain⟨oL,_,_,Vy,_⟩:=id hn;refine h _ ⟨I.ok,I.os,I.bare,⟨λb o e n hb hx=>?_,λb o e n hb hx=>?_,I.base.free,λb o e hx=>?_,I.base.MY,I.base.MV,I.base.MZ⟩,⟨_,M9,λj y v' e1 e2 e3=>?_⟩,λy c e=>?_,I.free,I.Mn,λp hp=>?_,tracked ⟨oL,Vy,I.free⟩ hs,by simpa using I.len⟩
 .exact (hs.2 b (a8 (av (Α e) I.ok.above))).trans (I.base.keep b o e n hb hx)
 .obtain⟨sl,e1⟩:=I.base.slot b o e n hb hx;exact⟨sl,(hs.2 b (a8 (av (Α e) I.ok.above))).trans e1⟩
 .obtain⟨o',e1⟩:=I.base.there b o e hx;exact⟨o',(hs.2 b (a8 (av (Α e) I.ok.above))).trans e1⟩
 .by_cases hj:j=i
  .subst hj;rw[ω TC] at e2;cases e2
  .rw[ο (bw hj)] at e2;obtain⟨u',r',q⟩:=hl j y v' e1 e2 e3;refine⟨u',r',?_⟩;rcases q with ⟨k,e⟩|⟨k,c,e,z⟩
   .refine .inl ⟨k,?_⟩;have:y≠x:=λe=>hj (oX hN e1 (e ▸ hi))
    simp[this,e]
   .exact .inr ⟨k,c,e,z.sameBut hs (O0 y c e)⟩
 .obtain⟨w',z⟩:=I.cell y c e;exact⟨w',z.sameBut hs (O0 y c e)⟩
 .obtain⟨e,n,ne,nf,d⟩:=I.pin p hp;exact⟨(hs.2 p.1 ne).trans e,n,ne,nf,d⟩
theorem kB {E:Value->μ->Prop}{Q:Unit->μ->Prop}(I:Inv X pins σ H s)(hN:X.N.Nodup)(hi:X.N[i]? = θ x)(hk:X.env.scope.names.lookup x=θ .local)
  (h:∀s',Inv X pins (σ.set i η) H s'->Q () s'):Β M A (do bindName X.env x .none;ş X.env x pos) Q E s:=by
 refine ν (wpAny_bindName (iO I hN hi (.inl hk) (show RelV .Mh .none from rfl) (λs1 I1=>?_) (.inr hk)));unfold ş;refine wpAny_onRaise (tN I1 hN hi hk (ω (by rw[I.len];exact (χ.mp hi).1)) λs2 I2=>h s2 ?_);rw[List.set_set] at I2;exact I2
noncomputable abbrev iW (X:Cx)(a:Addr)(o:Obj):Cx:={ X with A:=X.A.mark (θ (.ref a)),calm:=ε,xe:=λ_ _=>False,pn:=(a,o)::X.pn }
theorem qv (I:Inv X pins σ H s)(a:Addr)(o:Obj)(hf:(X.A.mark (θ (.ref a))).frames=θ X.stack)(ha:s.heap.get? a=θ o/\H a=η/\a≠X.env.locals/\a∉X.fs/\∀v,o.data≠.cell v):Inv (iW X a o) pins σ H s :=
 ⟨⟨I.ok.mod,I.ok.kind,I.ok.glob,I.ok.blt,I.ok.above,I.ok.inj,I.ok.has,I.ok.O1,λz=>(by cases z),hf,I.ok.PL,I.ok.QO,I.ok.bs,I.ok.Oo,I.ok.Nf,I.ok.Nj,I.ok.MJ,I.ok.OV⟩,I.os,I.bare,I.base,I.loc,I.cell,I.free,I.Mn,λp hp=>by
  rcases dm.mp hp with rfl|hp
  .exact ha
  .exact I.pin p hp,I.Mc,I.len⟩
theorem fF {o:Obj}(I:Inv (iW X a o) pins σ H s)(ok:X.Ok):Inv X pins σ H s:=⟨ok,I.os,I.bare,I.base,I.loc,I.cell,I.free,I.Mn,λp hp=>I.pin p (aa _ hp),I.Mc,I.len⟩
noncomputable def Cp (D:Ends)(i:Nat):Ends:={ nx:=λσ H=>D.nx (σ.set i η) H,rt:=D.rt,bk:=λσ H=>D.bk (σ.set i η) H,ct:=λσ H=>D.ct (σ.set i η) H }
end
inductive jG (h:Heap) (Oq:List Value) (ns:List Str):List Value->Prop
 |base:jG h Oq ns Oq
 |own {A:Addr}{c0:Value}{dd:Option Addr}{cd:ClassData}{sl:Array (Option Value)}{mA:Str->Option Value}{tl:List Value} :
   h.get? A=θ { cls:=c0,dict:=dd,data:=.cls cd,slots:=sl }->h.Ns cd.ns mA->(∀n∈ns,mA n=η)->jG h Oq ns tl->jG h Oq ns (.ref A::tl)
noncomputable def tG:List Str:=["__getattribute__","__getattr__","__class__"]
variable {Oq:List Value}{ns:List Str}
section
variable {M:Ě}{A:Ρ}{E:Value->μ->Prop}{h:Heap}{g:Array Tl}{d:Ă}{t:Nat}{os:Î}
theorem zi {tl:List Value}{n:Str}{y:Option Value}{Q:Option Value->μ->Prop}(hn:n∈ns)(T:jG h Oq ns tl)(MS:Š Oq n=pure y)(hq:Q y ⟨h,g,d,t,os⟩) :
  Β M A (Š tl n) Q E ⟨h,g,d,t,os⟩:=by
 induction T with
 |base=>rw[MS];exact Μ hq
 |own hA hN hni _ ih=>
  rw[i_];refine ν (wpAny_classOwn_cls hA hN ?_);rw[hni n hn];exact ih
variable {ec:EC}{C:Addr}{bm Oq:List Value}{hdct:Bool}{B newId:String}
theorem fE {mN:Str->Option Value}{n:Str}{y:Option Value}{Q:Option Value->μ->Prop}(hn:n∈ns)
  (hC:h.get? C=θ (ec.o C bm hdct newId)) (hN:h.Ns ec.N mN) (MB:∀n∈ns,mN n=η) (T:jG h Oq ns bm) (hbm:mroOf (.type B)=pure Oq)
  (hB:GE (.type B) n=pure y) (hq:Q y ⟨h,g,d,t,os⟩):Β M A (GE (.ref C) n) Q E ⟨h,g,d,t,os⟩:=by
 have MS:Š Oq n=pure y:=by rw[w_,hbm] at hB;exact hB
 rw[w_];refine ν (k! hC ?_);rw[i_];refine ν (wpAny_classOwn_exc hC hN ?_);rw[MB n hn];exact zi hn T MS hq
end
theorem C0:GE (.type "ValueError") "__class__" = pure (θ (.builtin "object.__class__")):=by rw[k?,Œ];kernel_rfl
noncomputable abbrev jz:List Value:=[.type "ValueError",.type "Exception",.type "BaseException",.type "object"]
variable {expr fill:Bool}{N2:Value}{tk:Þ}
section
variable {prog:Program}{w:Ξ}{A:Ρ}{E:Value->μ->Prop}{h:Heap}{g:Array Tl}{d:Ă}{t:Nat}{os:Î}{a:Addr}{o:Obj}
 {ec:EC}{C:Addr}{bm:List Value}{hdct:Bool}{newId:String}{mN:Str->Option Value}
theorem DC {R:Ô->μ->Prop}(hC:h.get? C=θ (ec.o C bm hdct newId))(T:KB h jz bm)(hx:h.get? a=θ o)(hc:o.cls=.ref C)(hq:R (.ok (.ret (.ref C))) ⟨h,g,d,t,os⟩) :
  On (Ζ prog w) A (.call (.builtin "getset_descriptor.__get__") ⟨[.builtin "object.__class__",.ref a,.ref C],[]⟩) R ⟨h,g,d,t,os⟩:=by
 have YN:(⟨h,g,d,t,os⟩:μ).TypeIs (.builtin "object.__class__") "getset_descriptor":=ZZ;have OS:(Γ C::bm).contains (.type (".".intercalate ("object.__class__".cutAt '.').dropLast))=ζ:=by
  rw[F.owner_object_class,dk,T.hasType (show jz.contains (.type "object")=ζ by decide)];rfl
 refine Ev Ħ.plain F.entry_gs_get (Ħ.check _ _ _ _ _ _ _ _ YN (F.args_gs_get _ _ _) ?_)
 repeat (any_goals (first|assumption | (with_reducible refine Ε hx ?_;rw[hc]) | (with_reducible refine ge hC ?_;rw[OS])|wp_step))
 refine⟨ã _ (by decide +kernel),WF F.entry_object_class ?_⟩
 repeat (any_goals (first|assumption | (with_reducible refine Ε hx ?_;rw[hc])|wp_step))
theorem uc {Q:Unit->μ->Prop}(hC:h.get? C=θ (ec.o C bm hdct newId))(T:KB h jz bm)
  (hx:h.get? a=θ o) (hc:o.cls=.ref C) (hq:Q () ⟨h,g,d,t,os⟩):Β M A (SZ "BaseException.__getattribute__" ⟨[.ref a,N2],[]⟩) Q E ⟨h,g,d,t,os⟩:=by
 have hk:builtinKind "BaseException.__getattribute__" = θ .slot:=by decide +kernel
 have QC:splitId "BaseException.__getattribute__" = θ ("BaseException","__getattribute__"):=by decide +kernel
 have OS:(Γ C::bm).contains (.type "BaseException")=ζ:=by rw[dk,T.hasType (show jz.contains (.type "BaseException")=ζ by decide)];rfl
 have ha:=F.args_bexc_ga (.ref a) N2;simp only[SZ,hk,QC];refine ν ?_
 .unfold Ŷ
  repeat (first | (with_reducible refine Ε hx ?_;rw[hc]) | (with_reducible refine ge hC ?_;rw[OS])|wp_step)
  exact hq
theorem zO {Q:Fin->μ->Prop}(hC:h.get? C=θ (ec.o C bm hdct newId))(hN:h.Ns ec.N mN)(MB:∀n∈tG,mN n=η)(T:KB h jz bm)(TN:jG h jz tG bm)
  (hx:h.get? a=θ o) (hc:o.cls=.ref C) (hq:Q (.done (.ret (.ref C))) ⟨h,g,d,t,os⟩) :
  Β (Ζ prog w) A (ë.«object.__getattribute__» ⟨[.ref a,.str "__class__" tk],[]⟩) Q E ⟨h,g,d,t,os⟩:=by
 have YN:(⟨h,g,d,t,os⟩:μ).TypeIs (.builtin "object.__class__") "getset_descriptor":=ZZ;have f5:=ZZ;have f6:=Ħ.lookup;have f7:=F.slot_gs_set.lookup;have hmA:("__class__" : Str)∈tG:=.tail _ (.tail _ (.head _))
 repeat (any_goals (first|assumption | (with_reducible refine Ε hx ?_;rw[hc])|with_reducible refine fE hmA hC hN MB TN Ο.mro C0 ?_|wp_step))
 refine DC hC T hx hc ?_
 repeat (any_goals (first|assumption|wp_step))
theorem AK {R:Ô->μ->Prop}(hC:h.get? C=θ (ec.o C bm hdct newId))(hN:h.Ns ec.N mN)(MB:∀n∈tG,mN n=η)(T:KB h jz bm)(TN:jG h jz tG bm)
  (hx:h.get? a=θ o) (hc:o.cls=.ref C) (hq:R (.ok (.ret (.ref C))) ⟨h,g,d,t,os⟩) :
  On (Ζ prog w) A (.call (.builtin "BaseException.__getattribute__") ⟨[.ref a,.str "__class__" tk],[]⟩) R ⟨h,g,d,t,os⟩ :=
 Ev Ο.ga.plain c! (uc hC T hx hc (zO hC hN MB T TN hx hc hq))
theorem Hq {Q:Value->μ->Prop}(hC:h.get? C=θ (ec.o C bm hdct newId))(hN:h.Ns ec.N mN)(MB:∀n∈tG,mN n=η)(T:KB h jz bm)(TN:jG h jz tG bm)
  (hx:h.get? a=θ o) (hc:o.cls=.ref C) (hq:Q (.ref C) ⟨h,g,d,t,os⟩) :
  Β (Ζ prog w) A (getAttrBy (.ref a) (.str "__class__" tk) fill expr) Q E ⟨h,g,d,t,os⟩:=by
 have f3:=Ο.ga.bind (.ref a);have hx0:(expr&&ľ (na "BaseException.__getattribute__"))=ε:=by cases expr<;>rfl
 have RX:(na "BaseException.__getattribute__" == na "object.__getattribute__")=ε:=by decide +kernel
 have hx1:(ľ (Γ C)&&na "BaseException.__getattribute__" == na "object.__getattribute__")=ε:=by rw[RX];rfl
 have VE:("__getattribute__" : Str)∈tG:=.head _;have VD:("__getattr__" : Str)∈tG:=.tail _ (.head _)
 repeat (any_goals (first|assumption | (with_reducible refine Ε hx ?_;rw[hc])|with_reducible refine fE VE hC hN MB TN Ο.mro Ο.ga.lookup ?_|with_reducible refine fE VD hC hN MB TN Ο.mro Ο.noGetattr ?_|wp_step))
 refine AK hC hN MB T TN hx hc ?_
 repeat (any_goals (first|assumption|wp_step))
theorem Ba {Q:Option Value->μ->Prop}(hC:h.get? C=θ (ec.o C bm hdct newId))(hN:h.Ns ec.N mN)(MB:∀n∈tG,mN n=η)(T:KB h jz bm)(TN:jG h jz tG bm)
  (hx:h.get? a=θ o) (hc:o.cls=.ref C) (hq:Q (θ (.ref C)) ⟨h,g,d,t+1,os⟩):Β (Ζ prog w) A (getAttr? (.ref a) "__class__") Q E ⟨h,g,d,t,os⟩:=by
 unfold getAttr? getAttrBy?
 repeat (any_goals (first|assumption|with_reducible apply Hq hC hN MB T TN hx hc|wp_step))
end
variable {dep:Int}
section
variable {prog:Program}{w:Ξ}{A:Ρ}{E:Value->μ->Prop}{h:Heap}{g:Array Tl}{d:Ă}{t:Nat}{os:Î}{a:Addr}{o:Obj}
 {ec:EC}{C:Addr}{bm:List Value}{hdct:Bool}{newId:String}{mN:Str->Option Value}
 {P9:EC}{C':Addr}{Pf:List Value}{M4:Bool}{NR:String}
theorem zM:isSubtype (.type "type") (.type "type")=pure ζ:=by rw[isSubtype_type];kernel_rfl
theorem uL {Q:Fin->μ->Prop}(hC:h.get? C=θ (ec.o C bm hdct newId))(hN:h.Ns ec.N mN)(MB:∀n∈tG,mN n=η)(T:KB h jz bm)(TN:jG h jz tG bm)
  (hD:h.get? C'=θ (P9.o C' Pf M4 NR)) (hx:h.get? a=θ o) (hc:o.cls=.ref C)
  (hq:∀t',Q (.done (.ret (.bool ((Γ C::bm).contains (.ref C'))))) ⟨h,g,d,t',os⟩) :
  Β (Ζ prog w) A (ë.«isinstance.nested» ⟨[.ref a,.ref C',.int dep tk],[]⟩) Q E ⟨h,g,d,t,os⟩:=by
 have f:=zM;by_cases e:(Γ C==Γ C')=ζ
 .have R8:=hq t;have:(Γ C::bm).contains (.ref C')=ζ:=by
   rw[dk,jg.mp e];simp
  rw[this] at R8
  repeat (any_goals (first|assumption | (with_reducible refine Ε hx ?_;rw[hc])|wp_step))
 .have e':(Γ C==Γ C')=ε:=by simpa using e
  cases hb:(Γ C::bm).contains (.ref C') with
  |true=>
   have R8:=hq t;rw[hb] at R8
   repeat (any_goals (first|assumption | (with_reducible refine Ε hx ?_;rw[hc])|with_reducible refine Ε hD ?_ | (with_reducible refine ge hC ?_;rw[hb])|wp_step))
  |false=>
   have R8:=hq (t+1);rw[hb] at R8
   repeat (any_goals (first|assumption | (with_reducible refine Ε hx ?_;rw[hc])|with_reducible refine Ε hD ?_|with_reducible refine Ε hC ?_ | (with_reducible refine ge hC ?_;rw[hb])|with_reducible apply Ba hC hN MB T TN hx hc|wp_step))
theorem Ar {Q:Fin->μ->Prop}(hC:h.get? C=θ (ec.o C bm hdct newId))(T:KB h jz bm)
  (hx:h.get? a=θ o) (hc:o.cls=.ref C) (hq:Q (.done (.ret (.bool ζ))) ⟨h,g,d,t,os⟩) :
  Β (Ζ prog w) A (ë.«isinstance.nested» ⟨[.ref a,.type "ValueError",.int dep tk],[]⟩) Q E ⟨h,g,d,t,os⟩:=by
 have hb:(Γ C::bm).contains (.type "ValueError")=ζ:=by rw[dk,T.hasType (show jz.contains (.type "ValueError")=ζ by decide)];rfl
 have Nz:Ņ (.type "ValueError")=pure (.type "type"):=by kernel_rfl
 have e':(Γ C==GT "ValueError")=ε:=rfl
 repeat (any_goals (first|assumption | (with_reducible refine Ε hx ?_;rw[hc]) | (with_reducible refine ge hC ?_;rw[hb])|wp_step))
end
noncomputable def Jq (K:ψ):List Value->Bool
 |[]=>jz == []
 |v::r=>(v::r)==jz || match v with
  |.ref A=>(match K.lookup A with
   |some ⟨_,_,.cls cd,_⟩=>Á K cd.ns&&tG.all (λn=>li K cd.ns n==θ η)&&Jq K r
   |_=>ε)
  |_=>ε
noncomputable def dQ (K:ψ)(C D:Addr):Bool:=match K.lookup C with
 |some ⟨_,_,.cls cd,_⟩=>cd.mro.contains (.ref D)
 |_=>ε
structure XI (K:ψ)(h:Heap)(C:Addr)(bm:List Value):Prop where
 ex:∃(e:EC) (hdct:Bool) (mN:_),h.get? C=θ (e.o C bm hdct "ValueError.__new__")/\h.Ns e.N mN/\∀n∈tG,mN n=η
 tail:KB h jz bm
 tn:jG h jz tG bm
 over:∀D,dQ K C D=(Γ C::bm).contains (.ref D)
noncomputable def kS (K:ψ)(D:Addr):Bool:=match K.lookup D with
 |some ⟨.type "type",_,.cls cd,sl⟩=>(match cd.mro,sl.toList with
  |.ref C'::_,[_,_,_,_,θ (.builtin _),_]=>C'==D && !cd.hasDel
  |_,_=>ε)
 |_=>ε
variable {K:ψ}
theorem j5 {D:Addr}(Mm:K.In h)(q:kS K D=ζ) :
  ∃(e:EC) (bm:_) (hdct:Bool) (nI:String),h.get? D=θ (e.o D bm hdct nI):=by
 unfold kS at q;split at q
 .rename_i dd cd sl ho;split at q
  .rename_i C' bm k0 k1 k2 k3 n k5 hm hs;simp only[ai,beq_iff_eq,fk] at q;obtain⟨rfl,OP⟩:=q;obtain⟨nm,bs,mro,ns,qn,hd,sn,sub,ab,col,del⟩:=cd;dsimp only at hm OP;subst hm OP;have Ve:sl = #[k0,k1,k2,k3,θ (.builtin n),k5]:=by
    obtain⟨l⟩:=sl;simp only at hs;rw[hs]
   subst Ve;exact⟨⟨nm,qn,ns,bs,sn,sub,ab,col,dd,k0,k1,k2,k3,k5⟩,bm,hd,n,Mm _ _ ho⟩
  .cases q
 .cases q
def FX (K:ψ)(C:Addr):Prop:=∀{h:Heap},K.In h->∃bm,XI K h C bm
variable {n:Nat}{s:μ}
section
variable {prog:Program}{w:Ξ}{A:Ρ}{E:Value->μ->Prop}{K:ψ}
variable {o:Obj}
theorem EX {D:Addr}{Q:Value->μ->Prop}(Mm:K.In s.heap)(qC:FX K C)(qD:kS K D=ζ)(hx:s.heap.get? a=θ o)(hc:o.cls=.ref C)(hq:∀t',Q (.bool (dQ K C D)) { s with toks:=t' }) :
  Β (Ζ prog w) A (call (.builtin "isinstance") [.ref a,.ref D]) Q E s:=by
 obtain⟨bm,FC⟩:=qC Mm;obtain⟨ec,hdct,mN,hC,hN,MB⟩:=FC.ex;obtain⟨P9,Pf,M4,nI,hD⟩:=j5 Mm qD;obtain⟨h,g,d,t,os⟩:=s;refine Â (uL hC hN MB FC.tail FC.tn hD hx hc λt'=>?_) (by intro e;cases e);rw[<-FC.over D];exact hq t'
theorem DH {Q:Value->μ->Prop}(Mm:K.In s.heap)(qC:FX K C)(hx:s.heap.get? a=θ o)(hc:o.cls=.ref C)(hq:Q (.bool ζ) s) :
  Β (Ζ prog w) A (call (.builtin "isinstance") [.ref a,.type "ValueError"]) Q E s:=by
 obtain⟨bm,FC⟩:=qC Mm;obtain⟨ec,hdct,mN,hC,hN,MB⟩:=FC.ex;obtain⟨h,g,d,t,os⟩:=s;exact Â (Ar hC FC.tail hx hc hq) (by intro e;cases e)
theorem Ec {D:Addr}(qC:FX K C)(qD:kS K D=ζ)(hc:o.cls=.ref C):Answers (λs=>K.In s.heap/\s.heap.get? a=θ o) (.ref a) (.ref D) (dQ K C D):=by
 intro dep tk prog w A R s hs;obtain⟨⟨Mm,hx⟩,hq⟩:=hs;obtain⟨bm,FC⟩:=qC Mm;obtain⟨ec,hdct,mN,hC,hN,MB⟩:=FC.ex;obtain⟨P9,Pf,M4,nI,hD⟩:=j5 Mm qD;obtain⟨h,g,d,t,os⟩:=s;refine uL hC hN MB FC.tail FC.tn hD hx hc λt'=>?_
 rw[<-FC.over D];exact hq t'
theorem w6 (qC:FX K C)(hc:o.cls=.ref C):∀{Ds:List Addr},(∀D∈Ds,kS K D=ζ)->AnswersAll (λs=>K.In s.heap/\s.heap.get? a=θ o) (.ref a) (Ds.map Γ) (Ds.map (dQ K C))
 |[],_=>trivial
 |D::Ds,h=>⟨Ec qC (h D ag) hc,w6 qC hc λx hx=>h x (aa _ hx)⟩
theorem ED {tp:Addr}{ot:Obj}{Ds:List Addr}{Q:Value->μ->Prop}(Mm:K.In s.heap)(qC:FX K C)(qD:∀D∈Ds,kS K D=ζ)(hx:s.heap.get? a=θ o)(hc:o.cls=.ref C)
  (ht:s.heap.get? tp=θ ot) (htc:ot.cls=.type "tuple") (Yr:ot.data=.seq (Ds.map Γ).toArray n) (hq:∀t',Q (.bool ((Ds.map (dQ K C)).any id)) { s with toks:=t' }) :
  Β (Ζ prog w) A (call (.builtin "isinstance") [.ref a,.ref tp]) Q E s:=by
 refine Â ?_ (by intro e;cases e);obtain⟨h,g,d,t,os⟩:=s;have hT2:(⟨h,g,d,t,os⟩:μ).TypeIs (.ref tp) "tuple":=⟨_,ht,htc⟩;have f1:=F.isi_sub_tuple;have ne:(Γ C==Γ tp)=ε:=by
  rw[beq_eq_false_iff_ne];intro e;cases e;obtain⟨bm,FC⟩:=qC Mm;obtain⟨ec,hdct,mN,hC,hN,MB⟩:=FC.ex;rw[ht] at hC;cases hC;cases Yr
 repeat (any_goals (first|assumption | (with_reducible refine Ε hx ?_;rw[hc])|with_reducible refine ZF ht Yr ?_|wp_step))
 refine wpAny_arrayLoop ?_;simp only[î,List.toList_toArray];refine isinstance_items (dep:=0) (P:=λs=>K.In s.heap/\s.heap.get? a=θ o) (λs tk h=>h) (Ds.map Γ) (Ds.map (dQ K C)) _ _ (w6 qC hc qD) ⟨Mm,hx⟩ λS6=>?_
 cases hv:(Ds.map (dQ K C)).any id with
 |true=>
  simp only[if_true]
  repeat (any_goals (first|assumption|wp_step))
  exact hv ▸ hq S6
 |false=>
  simp only[c9,if_false]
  repeat (any_goals (first|assumption|wp_step))
  exact hv ▸ hq S6
end
section
variable {X:Cx}{pins:List (Addr×Obj)}{σ:L2.St}{H:Hp}{s:μ}{D:Ends}{k:Nat}{f:Addr}{fd:io}{ps:List Str}{sp:Sp}{NF:List V}{ds:List Value}{W:Value->Hp->Prop}
end
section
variable {X:Cx}{a C:Addr}{o:Obj}
def D8 (K:ψ)(a C:Addr):List V->Hp->VK->Prop:=λxs H Q=>
 (∃D,xs=[.ref a,.ref D]/\kS K D=ζ/\Q (.bl (dQ K C D)) H)\/(xs=[.ref a,.ty "ValueError"]/\Q (.bl ζ) H) \/
  ∃(p:Addr) (Ds:List Addr),xs=[.ref a,.ref p]/\H p=θ (.tup (Ds.map V.ref))/\(∀D∈Ds,kS K D=ζ)/\Q (.bl ((Ds.map (dQ K C)).any id)) H
theorem qq:∀{Ds:List Addr}{us:List Value},aK (Ds.map V.ref) us->us=Ds.map Γ
 |[],_,.nil=>rfl
 |D::Ds,_,.cons r v=>by
  rw[qq v];have r:_=Γ D:=r;rw[r];rfl
theorem kM (qC:FX X.K C)(hc:o.cls=.ref C):gY (iW X a o) (.builtin "isinstance") (D8 X.K a C):=by
 intro pins s σ H xs us Q I r h;have hx:s.heap.get? a=θ o:=(I.pin (a,o) (ax _ ag)).1;have Mm:X.K.In s.heap:=I.MX;rcases h with ⟨D,rfl,qD,q⟩|⟨rfl,q⟩|⟨p,Ds,rfl,hp,qD,q⟩
 .obtain⟨u,w',rfl,r1,r2⟩:=r.two;cases r1;cases r2;exact EX Mm qC qD hx hc λt'=>⟨.bl _,H,I.kept (t':=t') λb o e=>e,rfl,q⟩
 .obtain⟨u,w',rfl,r1,r2⟩:=r.two;cases r1;cases r2;exact DH Mm qC hx hc ⟨.bl ζ,H,I,rfl,q⟩
 .obtain⟨u,w',rfl,r1,r2⟩:=r.two;cases r1;cases r2;obtain⟨_,aH,rv,ot,e1,e2,n,e3⟩:=I.Mc p _ hp;have:=qq rv;subst this;exact ED Mm qC qD hx hc e1 e2 e3 λt'=>⟨.bl _,H,I.kept (t':=t') λb o e=>e,rfl,q⟩
end
def Df.Bd (d:Df):Prop:=∀(kV doc pm:Value) (an:Option Addr) (Me ct:Value) (us:List Value),us.length=d.ps.length->NE (wf d.nm d.nm (dW d.st) (aV d.st) (aB d.st) .none kV doc pm an Me ct) ⟨us,[]⟩=pure (d.ps.zip us)
def Df.QU (p:Pg)(fo:List Str)(d:Df):Prop:=d.Ok p\/(d.Bd/\d.nm∈fo)
variable {fo:List Str}
theorem Df.QU.bd {p:Pg}{d:Df}(h:d.QU p fo):d.Bd:=by
 rcases h with h|h
 .exact h.bd
 .exact h.1
theorem iG {p:Pg}{d:Df}{n:Nat}(h:d.Ti p n=ζ):bQ d.N d.ps (aB d.st):=by
 unfold Df.Ti at h;simp only[ai,decide_eq_true_eq,fk,bz] at h;obtain⟨⟨⟨⟨⟨⟨h1,h2⟩,h3⟩,h4⟩,h5⟩,h6⟩,h7⟩:=h;exact⟨h1,h2,h3,h4,h5,λx hx=>lY (h6 x hx),h7⟩
section
variable {p:Pg}{P:Program}{w:Ξ}{K:Frag}{mg:Str->Option Value}{base:Heap}
def mZ (p:Pg)(P:Program)(w:Ξ)(K:Frag)(mg:Str->Option Value)(base:Heap)(n:Nat):Prop:=∀(i:Nat) (d:Df),p.N5[i]? = θ d->∀f fd,L2.sf K d.nm d.nm d.st f fd->nN P w K mg base tU n f fd d.ps (Dr K d.ps.length (p.run n i))
def sj (p:Pg)(fo:List Str)(P:Program)(w:Ξ)(K:Frag)(mg:Str->Option Value)(base:Heap):Prop:=∀(n i:Nat) (d:Df),p.N5[i]? = θ d->d.nm∈fo->mZ p P w K mg base n->∀f fd,L2.sf K d.nm d.nm d.st f fd->nN P w K mg base tU (n+1) f fd d.ps (Dr K d.ps.length (p.run (n+1) i))
theorem DF (hp:∀d∈p.N5,d.QU p fo)(hi:p.In K mg)(hh:vX w K)(hf:sj p fo P w K mg base):∀n,mZ p P w K mg base n:=by
 intro n
 induction n with
 |zero=>
  intro i d hd f fd F;refine⟨λvs H Q E h=>sU h,λA outer s H args us vs Q E hr he hb hv hs=>?_⟩;obtain⟨ds,G,_,_,r,h,_⟩:=hs;cases h
 |succ n ih=>
  intro i d hd f fd F;rcases hp d (Κ hd) with ⟨⟨m,hb⟩,S,_⟩|⟨_,hn⟩
  rotate_left
  .exact hf n i d hd hn ih f fd F
  refine F.ok S (λvs H Q E h=>sU h) λMe A outer s H vs Q E hr hs=>?_
  have C:nE (cB tU P w K mg base d.N d.nm (aB d.st) f Me A outer s H E).MH (p.sc d) ⟨p.run n,p.gl,p.fuel⟩:=by
   refine⟨⟨rfl,S.nd,λx h=>tZ h,λx h=>⟨lY h,.inl rfl⟩,λx h=>xw h,λx h=>h,?_,rfl,λj x hj=>?_,λj x hj=>hi.gl j x hj,λx h=>hi.blt x h⟩,rfl,S.kind,ī,λ_ _ z=>z⟩
   .exact⟨ji (Ŀ (by decide:40<=64) _) hr.units,hh⟩
   .obtain⟨e,he,hx⟩:=qx hj;obtain⟨f',OX,F',M'⟩:=hi.fn j e he;have B':=F'.binds (hp e (Κ he)).bd;subst hx;refine⟨f',OX,e.ps,n,ih j e he f' OX F',hr,M',F'.kp,B',λds r h=>?_⟩;have h:p.run n j ds=.ok r:=h;cases n with
    |zero=>cases h
    |succ n=>
     unfold Pg.run Pc.run at h;have:p.fns[j]? = θ ⟨e.ps.length,e.N.length,e.body⟩:=by unfold Pg.fns;rw[π,he];rfl
     rw[this] at h;dsimp only at h;by_cases hl:ds.length=e.ps.length
     .exact hl
     .rw[if_neg hl] at h;cases h
  refine⟨_,(xJ C m).2 _ _ hb,?_⟩;obtain⟨ds,G,hl,rs,r,Mz,k⟩:=hs;unfold Pg.run Pc.run at Mz;have:p.fns[i]? = θ ⟨d.ps.length,d.N.length,d.body⟩:=by unfold Pg.fns;rw[π,hd];rfl
  rw[this] at Mz;dsimp only at Mz;rw[if_pos hl] at Mz;have hN:ds.length<=d.N.length:=by
   rw[hl,<-S.pre,dn];exact š _ _
  obtain⟨F0,re,hF⟩:=entry rs hN;refine⟨λa=>H a≠η,λa=>H a=η\/a∈G,aD ds d.N.length,F0,re,λj a ha=>.inr (hF j a ha),λa h=>.inl (wp.mp h),?_⟩;show post K _ _ _ _ H _ (aE ⟨p.run n,p.gl,p.fuel⟩ d.body (aD ds d.N.length));have Mz:(match aE ⟨p.run n,p.gl,p.fuel⟩ d.body (aD ds d.N.length) with
   |.rt d fr=>Rs.ok (d,fr)
   |.nx _=>.ok (.Mh,ζ)
   |_=>.bad)=.ok r:=Mz
  cases hq:aE ⟨p.run n,p.gl,p.fuel⟩ d.body (aD ds d.N.length) with
  |rt dd fr=>
   rw[hq] at Mz;cases Mz;intro v H' G' rp ev z fz;exact k v H' G' (fH ev) rp z λhf=>let ⟨a,b⟩:=fz hf;⟨a,λx hx=>⟨wp.mp (b x hx).1,(b x hx).2⟩⟩
  |nx e=>
   rw[hq] at Mz;cases Mz;intro σ' H' F' af;exact k .Mh H' [] (fH af.ev) .Mh (λ_ h=>(nomatch h)) λ_=>⟨bc,λ_ h=>(nomatch h)⟩
  |bk e=>rw[hq] at Mz;cases Mz
  |ct e=>rw[hq] at Mz;cases Mz
  |bad=>rw[hq] at Mz;cases Mz
end
theorem JU {l:ķ}{q:Program}{loose:List Str}{XP:(Str->Option Value)->Heap->Prop}{YP:Ξ->Heap->Prop}{d:DefRec}{K:Ł->ψ}(p:Pg)(fo:List Str)(n i:Nat)(x:Str)(e:Df)(hn:l.most=θ 63)(Su:d.params.defaults=[])
  (hY:∀(w:Ξ) (h:Heap),YP w h->(K w.params).In h) (hd:p.N5[i]? = θ e) (Vo:e.ps=[x]) (hnm:d.name=e.nm) (hr:gQ n é) (ok:wc (Df.QU p fo) p.N5) (st:∀w:Ξ,vR p (K w.params)) (hL:∀w:Ξ,Tn (K w.params)=ζ) (hH:∀w:Ξ,vX w (K w.params))
  (hf:∀(w:Ξ) (mg:Str->Option Value) (h base:Heap),(K w.params).In h->h.Ns dL mg->p.In (K w.params) mg->sj p fo l.prog w (K w.params) mg base)
  (UZ:∀ns:List Int,ns.length<=63->∃fr,p.run n i [.lst (ns.map D.int)]=.ok (.bl ζ,fr)) :
  ŉ q loose XP YP l.row.toRowW d [] (λf vs=>Į f vs):=by
 refine L2.EB (n:=63) (k:=n) (x:=x) (CX:=λ_=>tU) (sp:=λw=>Dr (K w.params) 1 (p.run n i)) hn (by decide) Su hr hY (λw mg fa h KX G hm=>?_) (λw H a ns hl _ hS=>?_) λ_ _ _ _ _ z=>z
 .have I:=(st w).isin KX G;obtain⟨f,fd,F,m⟩:=I.fn i e hd;rw[hnm,m] at hm;obtain rfl:f=fa:=by cases hm;rfl
  refine⟨fd,λs u=>?_,λbase kb nb=>?_⟩
  .obtain⟨oc,od,kV,doc,pm,an,Me,ct,NZ,rfl,lk,MT⟩:=F.ex;have:=(cG ok e (Κ hd)).bd kV doc pm an Me ct [u] (by rw[Vo];rfl);rw[Vo] at this;exact .of_eq this
  .have:=DF (P:=l.prog) (w:=w) (base:=base) (cG ok) I (hH w) (hf w mg h base KX G I) n i e hd f fd F;rw[Vo] at this;exact this
 .obtain⟨fr,h⟩:=UZ ns hl;exact Jc (hL w) hS h
structure xN (k:Nat)(A:Ρ):Prop where
 hd:A.handled=η
 dp:A.depth+5*k+6<recursionLimit
 un:A.units+16*k+203<cLine
variable {k:Nat}
theorem xN.deeper (r:xN k A)(env:ù):gQ k (A.deeper env) :=
 ⟨r.hd,by have:=r.dp;show A.depth+1+5*k+5<_;omega,by have:=r.un;show A.units+3+16*k+200<_;omega⟩
structure fT (P:Program)(w:Ξ)(K:ψ)(mg:Str->Option Value)(base:Heap)(CX:rG)(RP:Ρ->Prop)(f:Addr)(fd:io)(ps:List Str)(sp:Sp):Prop where
 len:∀vs H Q E,sp vs H Q E->vs.length=ps.length
 run:∀(A:Ρ) (outer:List ù) (s:μ) (H:Hp) (args:PySem.Args) (us:List Value) (vs:List V) (Q:VK) (E:XK),RP A->zf P w K mg base A outer s H->ł s fd args (ps.zip us)->aK vs us->sp vs H Q E ->
  On (Ζ P w) A (.call (.ref f) args) (CR CX outer P w H s Q E) s
variable {CX:rG}{qual:Str}{st:Stmt}
section
variable {P:Program}{w:Ξ}{K:ψ}{mg:Str->Option Value}{base:Heap}{f:Addr}{fd:io}{ps N:List Str}{sp:Sp}
theorem fT.plain (F:fT P w K mg base CX (gQ k) f fd ps sp):nN P w K mg base CX k f fd ps sp:=⟨F.len,F.run⟩
theorem tw {RP:Ρ->Prop}(F:L2.sf K x qual st f fd)(S:bQ N ps (aB st))(TH:∀A,RP A->A.handled=η/\A.depth<recursionLimit)(len:∀vs H Q E,sp vs H Q E->vs.length=ps.length)
  (MN:∀(Me:Value) (A:Ρ) (outer:List ù) (s:μ) (H:Hp) (vs:List V) (Q:VK) (E:XK),RP A->sp vs H Q E ->
   ∃t,hU (cB CX P w K mg base N qual (aB st) f Me A outer s H E) (aV st) t/\t { nx:=λ_ H'=>Q .Mh H',rt:=Q } (L2.start N vs) H):fT P w K mg base CX RP f fd ps sp:=by
 obtain⟨oc,od,kV,doc,pm,an,Me,ct,NZ,rfl,lk,MT⟩:=F.ex;refine⟨len,λA outer s H args us vs Q E hr e0 hb r NT=>?_⟩;have hl:=len _ _ _ _ NT;have KX:K.In s.heap:=e0.mod.Mm.keeps λb o e=>(e0.bs b o e).1
 have lim:s.heap.NoLimit:=e0.mod.nolimit.keeps λb o e=>(e0.bs b o e).1
 have M3:∀y∈ps.zip us,(aB st).names.lookup y.1=θ .local\/((aB st).names.lookup y.1=θ .cell/\((ii (s.heap.objs.size+1) (aB st).names []).lookup y.1).isSome=ζ):=λ⟨n,v⟩ hy=>by
  rcases S.par n (je hy).1 with q|q
  .exact .inl q
  .exact .inr ⟨q,i7 _ _ _ (.inl q)⟩
 refine Re (TH A hr).2 (KX _ _ lk) rfl S.co S.gen rfl (jh KX MT) (hb _ _ _ _ ?_);refine KE S.kind M3 λenv he s1 x=>?_
 subst he;refine⟨lim.keeps x.toInCall.keep,È ?_⟩;obtain⟨t,ht,hq⟩:=MN Me A outer s H vs Q E hr NT;have I:Inv (cB CX P w K mg base N qual (aB st) f Me A outer s H E) [] (L2.start N vs) H s1:=mU S (TH A hr).1 e0 hl r x;refine Θ (ht [] s1 (L2.start N vs) H _ I hq) (λfl s' hs=>?_) λe s' hs=>hs
 have fin:∀{σ':L2.St}{H':Hp}{v:V}{u:Value},Inv (cB CX P w K mg base N qual (aB st) f Me A outer s H E) [] σ' H' s'->RelV v u->Q v H'->CE outer P w H s Q u s' :=
  λ{σ' H' v u} J rv q=>⟨v,H',J.os,J.bare,J.base,J.Mc,rv,q⟩
 cases fl with
 |ret u=>
  obtain⟨v,σ',H',J,rv,q⟩:=hs;exact fin J rv q
 |next=>
  obtain⟨σ',H',J,q⟩:=hs;exact fin (v:=V.Mh) (u:=bn) J rfl q
 |brk=>
  obtain⟨_,_,_,q⟩:=hs;exact Φ q
 |cont=>
  obtain⟨_,_,_,q⟩:=hs;exact Φ q
end
section
variable {X:Cx}{pins:List (Addr×Obj)}{σ:L2.St}{H:Hp}{s:μ}{D:Ends}{RP:Ρ->Prop}{f:Addr}{fd:io}{ps:List Str}{sp:Sp}{NF:List V}{ds:List Value}{W:Value->Hp->Prop}
end
variable {rest:List Stmt}
section
variable {X:Cx}{S:Sc}{T:Tb}
theorem PS.MH {t:TS}(h:PS X.MH st t):PS X st t:=λpins s σ H D I hw=>by
 have:=h pins s σ H D (I.MI _) hw;refine Θ this (λf s1 q=>?_) λ_ _ z=>z.elim
 cases f with
 |next=>obtain⟨σ',H',J,q⟩:=q;exact⟨σ',H',J.Mf,q⟩
 |brk=>obtain⟨σ',H',J,q⟩:=q;exact⟨σ',H',J.Mf,q⟩
 |cont=>obtain⟨σ',H',J,q⟩:=q;exact⟨σ',H',J.Mf,q⟩
 |ret u=>obtain⟨v,σ',H',J,r,q⟩:=q;exact⟨v,σ',H',J.Mf,r,q⟩
def FN (K:Frag)(T:Tb)(cs:aU)(u:TS):TS:=λD σ H=>∃P Z env F,RE K P env σ H F/\(∀i,∀a∈F i,Z a)/\(∀a,¬ P a->Z a)/\post K P Z env F H { D with nx:=u D } (aE T cs env)
theorem vk {u:TS}(C:nE X.MH S T)(hu:hU X rest u):∀(m:Nat) (l:List Stmt) (cs:aU),u7 m S l=θ cs->hU X (l++rest) (FN X.K T cs u)
 |0,l,cs,h=>by cases h
 |m+1,[],cs,h=>by
  cases h;refine fA hu λD σ H ⟨P,Z,env,F,re,hz,zp,h⟩=>?_
  unfold aE at h;exact h σ H F (After.same re hz (aG.refl _))
 |m+1,st::l,cs,h=>by
  have h:((cS m S st).bind λc=>(u7 m S l).map λr=>aU.cons c r)=θ cs:=h;obtain⟨c,h1,h⟩:=ah.mp h;obtain⟨r,h2,rfl⟩:=ae.mp h;refine fA (eN (PS.MH ((xJ C m).1 _ _ h1)) (vk C hu m l r h2)) λD σ H ⟨P,Z,env,F,re,hz,zp,h⟩=>⟨P,Z,env,F,re,hz,zp,?_⟩
  unfold aE at h;cases hs:bH T c env with
  |nx env'=>
   rw[hs] at h;exact λσ' H' F' af=>⟨P,Z,env',F',af.re,af.z,zp,post.trans af h⟩
  |bk env'=>rw[hs] at h;exact h
  |ct env'=>rw[hs] at h;exact h
  |rt d fr=>rw[hs] at h;exact h
  |bad=>rw[hs] at h;exact h
end
variable {f:Addr}{outer:List ù}{ps:List Str}
section
variable {p:Pg}{P:Program}{w:Ξ}{K:Frag}{mg:Str->Option Value}{base:Heap}
theorem vt {CX:rG}{N:List Str}{nm:Str}{sc:Scope}{Me:Value}{E:XK}(hp:∀d∈p.N5,d.QU p fo)(hi:p.In K mg)(hh:vX w K)(ih:mZ p P w K mg base n)(S:bQ N ps sc)
  (hr:gQ n (A.deeper (bi nm sc s.heap.objs.size f Me))):nE (cB CX P w K mg base N nm sc f Me A outer s H E).MH ⟨N,sc,p.N5.map (·.nm),p.Ae,p.eQ⟩ ⟨p.run n,p.gl,p.fuel⟩:=by
 refine⟨⟨rfl,S.nd,λx h=>tZ h,λx h=>⟨lY h,.inl rfl⟩,λx h=>xw h,λx h=>h,?_,rfl,λj x hj=>?_,λj x hj=>hi.gl j x hj,λx h=>hi.blt x h⟩,rfl,S.kind,ī,λ_ _ z=>z⟩
 .exact⟨ji (Ŀ (by decide:40<=64) _) hr.units,hh⟩
 .obtain⟨e,he,hx⟩:=qx hj;obtain⟨f',OX,F',M'⟩:=hi.fn j e he;have B':=F'.binds (hp e (Κ he)).bd;subst hx;refine⟨f',OX,e.ps,n,ih j e he f' OX F',hr,M',F'.kp,B',λds r h=>?_⟩;have h:p.run n j ds=.ok r:=h;cases n with
  |zero=>cases h
  |succ n=>
   unfold Pg.run Pc.run at h;have:p.fns[j]? = θ ⟨e.ps.length,e.N.length,e.body⟩:=by unfold Pg.fns;rw[π,he];rfl
   rw[this] at h;dsimp only at h;by_cases hl:ds.length=e.ps.length
   .exact hl
   .rw[if_neg hl] at h;cases h
end
section
variable {X:Cx}{pins:List (Addr×Obj)}{σ:L2.St}{H:Hp}{s:μ}{D:Ends}{W:Value->Hp->Prop}
end
def fJ (h:Heap)(e:Addr)(od:Option Addr×Bool):Prop:=∃o,h.get? e=θ o/\o.dict=od.1/\(od.2=ζ->∃vs,o.data=.fields vs/\vs[2]? = θ .none)
theorem oE (o:Obj)(f):(o.mapFields f).dict=o.dict:=by
 unfold kw;split<;>rfl
section
variable {M:Ě}{A:Ρ}{E:Value->μ->Prop}{s:μ}{base:Heap}{env:ù}{outer l:List ù}{L e:Addr}{oe:Obj}{vs:Array Value}{head a0 cls fl:Value}{Pz:Bool}{od:Option Addr×Bool}
theorem vv {Q:Unit->μ->Prop}(fr:A.frames=θ (env::outer))(ff:s.heap.FunFrames base (env::outer))(ef:env.frame=θ L)(at_:s.heap.get? e=θ oe)(st:base.StaysIn s.heap)(nw:base.get? e=η)(da:oe.data=.fields vs)(sz:1<vs.size)
  (v0:vs[0]? = θ a0) (dc:fJ s.heap e od) (k:∀h',Heap.NotedW base (env::outer) e oe.cls a0 (À L) s.heap h'->fJ h' e od->Q () { s with heap:=h' }) :
  Β M A (do let a <- frameOf env;let pl <- entryPlaceOf L Pz;let b <- Û head a .none (À L) .none pl;setField (.ref e) 1 b) Q E s:=by
 have ME:e∉(env::outer).filterMap (·.frame):=λz=>by
  obtain⟨_,o,ho,nf⟩:=ff.mem z;rw[at_] at ho;cases ho;exact nf vs da
 refine ν (wpAny_frameOf_fun fr ff ef λg so=>ν (wpAny_entryPlaceOf λpl hp=>?_));unfold Û newFields;refine ν (Ê ?_ (hp.sizeOk5 _ _ _ _ _));have Mv:g.get? e=θ oe:=(so.2.1 e ME).trans at_;have XW:base.StaysIn g:=λb o q=>(so.2.1 b λz=>by rw[(ff.mem z).1] at q;cases q).trans (st b o q)
 generalize hT:({ cls:=.type "traceback",dict:=η,data:=.fields ([head,.ref L,.none,À L,.none]++(if pl.isEmpty then ξ 6 bn else pl)).toArray }:Obj)=oT;have frT:oT.isFreed=ε:=by subst hT;rfl
 have daT:oT.data=.fields ([head,.ref L,.none,À L,.none]++(if pl.isEmpty then ξ 6 bn else pl)).toArray:=by subst hT;rfl
 have at2:=τ oT Mv;refine ħ at2 da sz (k _ ?_ ?_)
 .have ne:g.objs.size≠e:=Ĝ (Α Mv);have Y2:=KT da (·.setIfInBounds 1 (Γ g.objs.size));have at3:=Ω (kw (·.setIfInBounds 1 (Γ g.objs.size))) at2 (ZQ Y2);have tb3:=(Λ (g.push oT) (kw (·.setIfInBounds 1 (Γ g.objs.size))) (bw ne)).trans (Υ g frT);have kp:∀b o,b≠e->g.get? b=θ o->((g.push oT).update e (kw (·.setIfInBounds 1 (Γ g.objs.size)))).get? b=θ o:=λb o hb q=>
   (Λ _ _ (bw hb)).trans (τ _ q)
  have Nu:∀b o,s.heap.get? b=θ o->(∀ws,o.data≠.fields ws)->b≠e:=λb o q nf z=>by
   subst z;rw[at_] at q;cases q;exact nf vs da
  refine⟨λb o q=>kp b o (λz=>by rw[z,nw] at q;cases q) (XW b o q),ff.of_keeps λb o q nf=>?_,⟨_,_,g.objs.size,_,_,at3,⟨Obj.cls_mapFields _ _,by rw[ñ (by decide)];exact v0⟩,Y2,by simp[sz],XW.fresh,ne,tb3,daT,?_⟩,λb o q nf=>?_⟩
  .obtain⟨sl,q1⟩:=so.2.2 b o q;exact⟨_,kp b _ (Nu b o q nf) q1,rfl⟩
  .rcases hp with rfl|⟨_,_,_,_,_,_,_,rfl⟩<;>simp
  .obtain⟨sl,q1⟩:=so.2.2 b o q;exact⟨sl,kp b _ (Nu b o q nf) q1⟩
 .obtain⟨o,q1,q2,q3⟩:=dc;rw[at_] at q1;cases q1;refine⟨_,Ω _ at2 (ZQ (KT da _)),(oE _ _).trans q2,λz=>?_⟩;obtain⟨ws,q4,q5⟩:=q3 z;rw[da] at q4;cases q4;exact⟨_,KT da _,by rw[ñ (by decide)];exact q5⟩
theorem xn {Q:Unit->μ->Prop}(fr:Option Addr)(st:base.StaysIn s.heap)(ff:s.heap.FunFrames base l)(tr:s.heap.TracedAtW base e cls a0 fl)(dc:fJ s.heap e od)
  (k:∀h',base.StaysIn h'->h'.FunFrames base l->h'.TracedAtW base e cls a0 (fr.elim .none λf=>À f)->(∀b o,s.heap.get? b=θ o->(∀ws,o.data≠.fields ws)->h'.get? b=θ o)->fJ h' e od->Q () { s with heap:=h' }) :
  Β M A (Ü (.ref e) fr) Q E s:=by
 obtain⟨ob,ws,T,oT,ts,e1,e2,e3,e4,e5,e6,e7,e8,e9⟩:=tr;have z3:3<ts.size:=(IR.mp e9).1;have ot:∀b,b≠T->(s.heap.update T (kw (·.setIfInBounds 3 (fr.elim bn λf=>À f)))).get? b=s.heap.get? b:=λb hb=>Λ _ _ (bw hb)
 have Nu:∀b o,s.heap.get? b=θ o->(∀us,o.data≠.fields us)->b≠T:=λb o q nf z=>by
  subst z;rw[e7] at q;cases q;exact nf ts e8
 unfold Ü;refine ν (UV e1 e3 e4 ?_);rw[if_pos (show (Γ T != bn)=ζ from by simp)];refine ħ e7 e8 z3 (k _ (λb o q=>(ot b λz=>by rw[z,e5] at q;cases q).trans (st b o q)) (ff.of_keeps λb o q nf=>⟨o,(ot b (Nu b o q nf)).trans q,rfl⟩) ?_ (λb o q nf=>(ot b (Nu b o q nf)).trans q) ?_)
 .exact⟨ob,ws,T,_,_,(ot e (bw e6)).trans e1,e2,e3,e4,e5,e6,Ω _ e7 (ZQ (KT e8 _)),KT e8 _,by simp[z3]⟩
 .obtain⟨o,q1,q2⟩:=dc;exact⟨o,(ot e (bw e6)).trans q1,q2⟩
theorem lH {Q:Unit->μ->Prop}(st:base.StaysIn s.heap)(ff:s.heap.FunFrames base l)(tr:s.heap.TracedAtW base e cls a0 fl)(dc:fJ s.heap e od)
  (k:∀h',base.StaysIn h'->h'.FunFrames base l->h'.TracedW base e cls a0->(∀b o,s.heap.get? b=θ o->(∀ws,o.data≠.fields ws)->h'.get? b=θ o)->fJ h' e od->Q () { s with heap:=h' }) :
  Β M A (Ü (.ref e) η) Q E s :=
 xn η st ff tr dc k
theorem GU {Q:Unit->μ->Prop}(fr:A.frames=θ (env::outer))(ff:s.heap.FunFrames base (env::outer))(ef:env.frame=θ L)(at_:s.heap.get? e=θ oe)(st:base.StaysIn s.heap)(nw:base.get? e=η)(da:oe.data=.fields vs)(v1:vs[1]? = θ .none)
  (v0:vs[0]? = θ a0) (dc:fJ s.heap e od) (k:∀h',wn base outer e oe.cls a0 h'->s.heap.UpToSlots h'->fJ h' e od->Q () { s with heap:=h' }):Β M A (leaving env (.ref e)) Q E s:=by
 unfold leaving ê;simp only[ef];refine ν (ν (UV at_ da v1 ?_));rw[if_neg (by decide)];refine vv fr ff ef at_ st nw da (IR.mp v1).1 v0 dc λg ⟨n1,n2,n3,n4⟩ dc=>?_
 refine lH (s:={ s with heap:=g }) n1 n2 n3 dc λh' k1 k2 k3 k4 k5=>k h' ⟨k1,nw,?_,k3⟩ (λb o q nf=>?_) k5
 .obtain⟨_,_,z⟩:=k2;exact z
 .obtain⟨sl,q1⟩:=n4 b o q nf;exact⟨sl,k4 b _ q1 nf⟩
theorem AN {Q:Unit->μ->Prop}(fr:A.frames=θ (env::outer))(ef:env.frame=θ L)(f:wn base (env::outer) e cls a0 s.heap)(dc:fJ s.heap e od)
  (k:∀h',Ľ base (env::outer) e cls a0 L h'->s.heap.UpToSlots h'->fJ h' e od->Q () { s with heap:=h' }):Β M A (ê (.ref e) env) Q E s:=by
 obtain⟨f1,f2,f3,ob,ws,T,oT,ts,e1,⟨rfl,e2⟩,e3,e4,e5,e6,e7,e8,e9⟩:=f;unfold ê;simp only[ef];refine ν (UV e1 e3 e4 ?_);rw[if_pos (show (Γ T != bn)=ζ from by simp)];refine ν (UV e7 e8 e9 ?_);rw[if_neg (show ¬ ((bn==À L)=ζ) from by simp[À])];refine ν (ħ e7 e8 (IR.mp e9).1 ?_);have ot:∀b,b≠T->(s.heap.update T (kw (·.setIfInBounds 3 bn))).get? b=s.heap.get? b:=λb hb=>Λ _ _ (bw hb)
 have Nu:∀b o,s.heap.get? b=θ o->(∀us,o.data≠.fields us)->b≠T:=λb o q nf z=>by
  subst z;rw[e7] at q;cases q;exact nf ts e8
 refine vv fr (f3.of_keeps λb o q nf=>⟨o,(ot b (Nu b o q nf)).trans q,rfl⟩) ef ((ot e (bw e6)).trans e1) (λb o q=>(ot b λz=>by rw[z,e5] at q;cases q).trans (f1 b o q)) f2 e3 (IR.mp e4).1 e2 (od:=od) (let ⟨o,q1,q2⟩:=dc;⟨o,(ot e (bw e6)).trans q1,q2⟩) λh' ⟨n1,n2,n3,n4⟩ d'=>?_
 exact k h' ⟨n1,f2,n2,n3⟩ (λb o q nf=>n4 b o ((ot b (Nu b o q nf)).trans q) nf) d'
theorem onD {Q:Unit->μ->Prop}(fr:A.frames=θ (env::outer))(ef:env.frame=θ L)(f:wn base (env::outer) e cls a0 s.heap)(dc:fJ s.heap e od)
  (k:∀h',wn base outer e cls a0 h'->s.heap.UpToSlots h'->fJ h' e od->Q () { s with heap:=h' }):Β M A (leaving env (.ref e)) Q E s:=by
 unfold leaving;refine ν (AN fr ef f dc λg ⟨n1,n2,n3,n4⟩ u d1=>?_);refine lH (s:={ s with heap:=g }) n1 n3 n4 d1 λh' k1 k2 k3 k4 k5=>k h' ⟨k1,n2,?_,k3⟩ (u.trans λb o q nf=>⟨o.slots,k4 b o q nf⟩) k5
 obtain⟨_,_,z⟩:=k2;exact z
theorem A4 {Q:Unit->μ->Prop}(f:Ľ base l e cls a0 L s.heap)(dc:fJ s.heap e od)(k:∀h',wn base l e cls a0 h'->s.heap.UpToSlots h'->fJ h' e od->Q () { s with heap:=h' }):Β M A (Ü (.ref e) η) Q E s:=by
 obtain⟨f1,f2,f3,f4⟩:=f;exact lH f1 f3 f4 dc λh' k1 k2 k3 k4 k5=>k h' ⟨k1,f2,k2,k3⟩ (λb o q nf=>⟨o.slots,k4 b o q nf⟩) k5
theorem AM {Q:Unit->μ->Prop}(f:wn base l e cls a0 s.heap)(dc:fJ s.heap e od)(k:∀h',wn base l e cls a0 h'->s.heap.UpToSlots h'->fJ h' e od->Q () { s with heap:=h' }):Β M A (Ü (.ref e) η) Q E s:=by
 obtain⟨f1,f2,f3,f4⟩:=f;exact lH f1 f3 f4.at dc λh' k1 k2 k3 k4 k5=>k h' ⟨k1,f2,k2,k3⟩ (λb o q nf=>⟨o.slots,k4 b o q nf⟩) k5
end
noncomputable def xy (K:ψ)(ns:List Str):List Value->Bool
 |[]=>jz == []
 |v::r=>(v::r)==jz || match v with
  |.ref A=>(match K.lookup A with
   |some ⟨_,_,.cls cd,_⟩=>Á K cd.ns&&ns.all (λn=>li K cd.ns n==θ η)&&xy K ns r
   |_=>ε)
  |_=>ε
theorem ur (Mm:K.In h):∀{l:List Value},xy K ns l=ζ->jG h jz ns l
 |[],e=>by
  have e:(jz==([]:List Value))=ζ:=e;rw[<-jg.mp e];exact .base
 |v::r,e=>by
  unfold xy at e;rcases Bool.or_eq_true_iff.mp e with q|q
  .rw[jg.mp q];exact .base
  .split at q
   .split at q
    .rename_i ho;simp only[ai,bz,beq_iff_eq] at q;exact .own (Mm _ _ ho) (.of_isNs (Ĩ Mm q.1.1)) (λn hn=>Ï Mm q.1.1 (q.1.2 n hn)) (ur Mm q.2)
    .cases q
   .cases q
theorem vI {N:Addr}{m:Str->Option Value}{n:Str}{v:Value}(Mm:K.In h)(G:h.Ns N m)(e:li K N n=θ (θ v)):m n=θ v:=by
 obtain⟨o,es,ep,ho,hd,_,hf⟩:=G;unfold li at e;split at e
 .rename_i q;have:=Mm _ _ q;rw[ho] at this;cases this;cases hd;split at e
  .rename_i he;rw[<-hf];unfold nsFind findBy;rw[<-Array.find?_toList,he];simpa using e
  .split at e<;>cases e
 .cases e
noncomputable def zm (K:ψ)(C:Addr)(ns:List Str)(fI:Addr):Bool:=match K.lookup C with
 |some ⟨.type "type",_,.cls cd,sl⟩=>(match cd.mro,sl.toList with
  |.ref C'::bm,[_,_,_,_,θ (.builtin n),_]=>C'==C&&n == "ValueError.__new__" && !cd.hasDel&&cd.hasDict&&PySem.W.tailIn K jz bm&&xy K ns bm&&Á K cd.ns&&ns.all (λn=>li K cd.ns n==θ η)&&li K cd.ns "__init__" == θ (θ (.ref fI))
  |_,_=>ε)
 |_=>ε
structure XF (K:ψ)(h:Heap)(C:Addr)(ns:List Str)(fI:Addr)(bm:List Value):Prop where
 ex:∃(e:EC) (mN:_),h.get? C=θ (e.o C bm ζ "ValueError.__new__")/\h.Ns e.N mN/\(∀n∈ns,mN n=η)/\mN "__init__" = θ (.ref fI)
 tail:KB h jz bm
 tn:jG h jz ns bm
variable {fI:Addr}
theorem jB (Mm:K.In h)(q:zm K C ns fI=ζ):∃bm,XF K h C ns fI bm:=by
 unfold zm at q;split at q
 .rename_i dd cd sl ho;split at q
  .rename_i C' bm k0 k1 k2 k3 n k5 hm hs;simp only[ai,beq_iff_eq,fk,bz] at q;obtain⟨⟨⟨⟨⟨⟨⟨⟨rfl,rfl⟩,OP⟩,YI⟩,ht⟩,hnt⟩,Mc⟩,Yz⟩,hi⟩:=q;obtain⟨nm,bs,mro,Qo,qn,hd,sn,sub,ab,col,del⟩:=cd;dsimp only at hm OP Mc hi YI Yz;subst hm OP YI;have Ve:sl = #[k0,k1,k2,k3,θ (.builtin "ValueError.__new__"),k5]:=by
    obtain⟨l⟩:=sl;simp only at hs;rw[hs]
   subst Ve;have G:h.Ns Qo _:=.of_isNs (Ĩ Mm Mc);exact⟨bm,⟨⟨nm,qn,Qo,bs,sn,sub,ab,col,dd,k0,k1,k2,k3,k5⟩,_,Mm _ _ ho,G,λn hn=>Ï Mm Mc (Yz n hn),vI Mm G hi⟩,PySem.W.tail_of_in Mm ht,ur Mm hnt⟩
  .cases q
 .cases q
theorem t7 {self:Value}{Rc:Str}(T:KB h jz bm):refuseLoop self Rc bm=refuseLoop self Rc jz:=by
 induction T with
 |base=>rfl
 |own _ _ _ _ ih=>rw[n?];exact ih
section
variable {prog:Program}{w:Ξ}{A:Ρ}{E:Value->μ->Prop}{h:Heap}{g:Array Tl}{d:Ă}{t:Nat}{os:Î}{e:Addr}{oe:Obj}{vs:Array Value}{ns:List Str}
 {ec:EC}{C:Addr}{bm:List Value}{newId:String}{mN:Str->Option Value}{x:Str}{v:Value}
theorem Av {Q:Unit->μ->Prop}(hC:h.get? C=θ (ec.o C bm ζ newId))(T:KB h jz bm)(he:h.get? e=θ oe)(hc:oe.cls=.ref C)(hq:Q () ⟨h,g,d,t,os⟩) :
  Β M A (SZ "object.__setattr__" ⟨[.ref e,N2,v],[]⟩) Q E ⟨h,g,d,t,os⟩:=by
 have SF:=Ţ;have OS:(Γ C::bm).contains (.type "object")=ζ:=by rw[dk,T.hasType (show jz.contains (.type "object")=ζ by decide),ð]
 have ha:=SF.args (.ref e) N2 v;simp only[SZ,SF.kind,SF.split];refine ν ?_;unfold Ŷ
 repeat (first | (with_reducible refine Ε he ?_;rw[hc]) | (with_reducible refine ge hC ?_;rw[OS])|wp_step)
 exact hq
theorem set_own {Q:Unit->μ->Prop}(hC:h.get? C=θ (ec.o C bm ζ newId))(hN:h.Ns ec.N mN)(MB:∀n∈ns,mN n=η)(T:KB h jz bm)(TN:jG h jz ns bm)(n1:("__setattr__" : Str)∈ns) (n2:x∈ns)
  (hB:GE (.type "ValueError") x=pure η) (he:h.get? e=θ oe) (hc:oe.cls=.ref C) (hdn:oe.dict=η) (hd:oe.data=.fields vs)
  (hq:∀h' tk dx,h'.get? e=θ { oe with dict:=θ dx }->h.get? dx=η->h'.Ns dx (λy=>if y=x then θ v else η)->(∀b o,b≠e->h.get? b=θ o->h'.get? b=θ o)->Q () ⟨h',g,d,tk,os⟩) :
  Β (Ζ prog w) A (setAttr (.ref e) x v) Q E ⟨h,g,d,t,os⟩:=by
 have SF:=Ţ;have f3:=SF.slot.bind (.ref e);unfold setAttr callSpecial? specialOf
 repeat (any_goals (first|assumption | (with_reducible refine Ε he ?_;rw[hc])|with_reducible refine fE n1 hC hN MB TN SF.mro SF.slot.lookup ?_|wp_step))
 refine Ev SF.slot.plain SF.entry (Av hC T he hc ?_);have R9:=SF.passes (.ref e);unfold ë.«object.__setattr__»
 repeat (first|rw[refuse_eq] | (rw[n?,t7 T,R9]) | (with_reducible refine Ε he ?_;rw[hc])|with_reducible refine k! hC ?_|with_reducible refine fE n2 hC hN MB TN SF.mro hB ?_|wp_step)
 rw[hdn,if_neg (by simp[typeHasDict])];split
 .rename_i z;cases z
 split
 .rename_i z;rw[hd] at z;cases z
 have Sq:(h.push { cls:=.type "dict",data:=.dict #[] }).get? e=θ oe:=τ _ he;have ne:e≠h.objs.size:=a8 (Α he);refine ν (wpAny_alloc' (ν (wpAny_update' Sq (Μ ?_))));have gd:((h.push { cls:=.type "dict",data:=.dict #[] }).update e λo=>{ cls:=o.cls,dict:=θ h.objs.size,data:=o.data,slots:=o.slots }).get? h.objs.size=θ { cls:=.type "dict",data:=.dict #[] } :=
  (Ĳ _ _ _ _ ne.symm).trans (Heap.get?_push_at rfl rfl)
 have nd:((h.push { cls:=.type "dict",data:=.dict #[] }).update e λo=>{ cls:=o.cls,dict:=θ h.objs.size,data:=o.data,slots:=o.slots }).Ns h.objs.size (λ_=>η) :=
  ⟨_,#[],_,gd,rfl,λ_ z=>absurd z (by simp),λ_=>rfl⟩
 show Β _ _ (ZI h.objs.size (.str x _) x v) _ _ _;unfold ZI œ;refine ν (Μ (ν (wpAny_nsSet1 (D_ nd) λh' M9 hs=>?_)));obtain⟨oD,esD,epD,hoD,hdD,hcD⟩:=M9.count (Within.cons x v Within.nil);refine ν (wpAny_lookBehind hoD (by rw[hdD];exact pastItsLine_dict (bp hcD (by rw[br,jf,Uf];omega))) ?_)
 repeat (any_goals (first|assumption|wp_step))
 refine hq h' _ h.objs.size ?_ (PP (au _)) M9.ns λb o hb q=>?_
 .refine (hs.2 e ne).trans (Ω _ Sq ?_);have fr:=(à.mp he).2;obtain⟨oc,od,odt,NZ⟩:=oe;cases odt<;>first|rfl|exact fr
 .exact (hs.2 b (a8 (Α q))).trans ((Ĳ _ _ _ _ hb).trans (τ _ q))
end
noncomputable abbrev sk (C:Addr)(t0:Addr):Obj:={ cls:=.ref C,data:=.fields #[.ref t0,.none,.none,.none,.bool ε,.none] }
section
variable {prog:Program}{w:Ξ}{A:Ρ}{E:Value->μ->Prop}{h:Heap}{g:Array Tl}{d:Ă}{t:Nat}{os:Î}{e t0:Addr}{us:List Value}
 {ec:EC}{C fI:Addr}{bm:List Value}{hdct:Bool}{mN:Str->Option Value}
theorem zg {Q:Value->μ->Prop}(hC:h.get? C=θ (ec.o C bm hdct "ValueError.__new__")) (T:KB h jz bm) (he:h.get? e=θ (sk C t0)) (hl:us.length<=sizeLine)
  (hq:∀h' t1,h'.get? e=θ (sk C t1)->h.get? t1=η->(∀b o,b≠e->h.get? b=θ o->h'.get? b=θ o)->Q .none ⟨h',g,d,t,os⟩) :
  Β (Ζ prog w) A (call (.builtin "ValueError.__init__") (.ref e::us)) Q E ⟨h,g,d,t,os⟩:=by
 have FB:=Ã;refine SC (Ev FB.init.plain FB.initEntry (wpAny_check_init_subT FB T hC he rfl ?_))
 wp_walk
 have ne:e≠h.objs.size:=a8 (Α he);refine hq _ h.objs.size ?_ (PP (au _)) λb o hb z=>?_
 .rw[Ω _ (τ _ he) rfl];rfl
 .rw[Λ _ _ (bw hb)];exact τ _ z
theorem zB {Q:Value->μ->Prop}(hC:h.get? C=θ (ec.o C bm hdct "ValueError.__new__")) (hN:h.Ns ec.N mN) (T:KB h jz bm) (hi:mN "__init__" = θ (.ref fI)) {oI:Obj}(hf:h.get? fI=θ oI) (hfc:oI.cls=.type "function") (hl:us.length<=sizeLine)
  (hq:∀h' e t0,h'.get? e=θ (sk C t0)->h.get? e=η->(∀b o,h.get? b=θ o->h'.get? b=θ o) ->
   Β (Ζ prog w) (A.under (.builtin "type.__call__" ⟨.ref C::us,[]⟩)) (call (.ref fI) (.ref e::us)) (λr s'=>r=.none/\Q (.ref e) s') E ⟨h',g,d,t,os⟩) :
  Β (Ζ prog w) A (call (.ref C) us) Q E ⟨h,g,d,t,os⟩:=by
 have FB:=Ã;have f1:=tc_lookup;have f2:=tc_bind (.ref C);have hT:(⟨h,g,d,t,os⟩:μ).TypeIs (.ref C) "type":=⟨_,hC,rfl⟩;refine SC (codeAny_of_tree ?_);show Β _ _ (callAny (.ref C) _) _ _ _
 repeat (any_goals (first|assumption|with_reducible refine Ε hC ?_|wp_step))
 refine⟨rfl,codeAny_call_builtin_at (ã _ (by decide +kernel)) entry_typeCall (wpAny_check_type_call_sub hC ?_)⟩
 repeat (first|with_reducible refine Ε hC ?_|with_reducible refine wpAny_madeBy_exc hC ?_|wp_step)
 refine codeAny_call_builtin_code (ã _ FB.quiet) (wpAny_check_new_subT FB T hC (codeAny_exc_new_subT FB T hC ?_ hl));show Β _ _ _ _ _ ⟨(h.push { cls:=.type "tuple",data:=.seq us.toArray }).push (sk C h.objs.size),g,d,t,os⟩;generalize htu:({ cls:=.type "tuple",data:=.seq us.toArray }:Obj)=ot;have kp:∀b o,h.get? b=θ o->((h.push ot).push (sk C h.objs.size)).get? b=θ o:=λb o z=>τ _ (τ _ z)
 have TK:=kp _ _ hC;have hf1:=kp _ _ hf;have hN1:=hN.keeps kp;have hg:((h.push ot).push (sk C h.objs.size)).get? (h.objs.size+1)=θ (sk C h.objs.size):=by
  subst htu
  heap_get
 have hcC:(Γ C::bm).contains (.ref C)=ζ:=by simp
 unfold Ŷ
 repeat (first|with_reducible refine Ε hg ?_ | (with_reducible refine ge TK ?_;rw[hcC])|wp_step)
 show Β _ _ (GE (.ref C) _) _ _ _;refine wpAny_typeLookup_tail TK hN1 (T.keeps kp) FB.mroIs FB.init.lookup ?_;rw[hi];refine xL (ν ?_);unfold bindSpecial;refine ν (wpAny_typeOf (T:="function") ⟨_,hf1,hfc⟩ ?_);rw[if_pos (by decide)];refine Μ (ν (Θ (hq _ _ _ hg (PP (ZX _)) kp) (λr s' z=>?_) λ_ _ z=>z));obtain⟨rfl,z⟩:=z
 wp_walk
 exact z
end
noncomputable abbrev ins (x:Str):List Str:=["__getattribute__","__getattr__","__class__","__setattr__",x]
noncomputable abbrev zA (C t0 dx:Addr):Obj:={ cls:=.ref C,dict:=θ dx,data:=.fields #[.ref t0,.none,.none,.none,.bool ε,.none] }
structure Fd (st:Stmt)(S x:Str):Prop where
 ex:∃(c1 c2:Str) (p1 p2 p3 p4 p5 p6 p7 p8 p9 Yb Ya X9 X8 X7:No),aV st=[.Expr (.Call (.Attribute (.Name S p1) "__init__" p2) [.Name "self" p3,.JoinedStr [.Constant (.str c1) 0 p4,.FormattedValue (.Name x p5) (-1) η p6,.Constant (.str c2) 0 p7] p8] [] p9) Yb,
   .Assign [.Attribute (.Name "self" Ya) x X9] (.Name x X8) X7] /\
  (p2.endLine==p9.line)=ζ/\c1.length<=1000/\c2.length<=1000
 sc:bQ ["self",x] ["self",x] (aB st)
 gl:(aB st).names.lookup S=θ .globalImplicit
 l1:(aB st).names.lookup ("self" : Str)=θ .local
 l2:(aB st).names.lookup x=θ .local
 ne:x≠"self"
 db:(S==("__debug__" : Str))=ε/\(x==("__debug__" : Str))=ε
structure uV (K:ψ)(mg:Str->Option Value)(S x qual:Str)(C cS fI:Addr)(fd:io)(st:Stmt):Prop where
 hS:mg S=θ (.ref cS)
 cls:zm K C (ins x) fI=ζ
 keep:kt K (.ref C)=ζ
 ga:PySem.W.specialIn K (.ref cS) "__getattribute__" = θ (θ (.builtin "type.__getattribute__"))
 rd:PySem.W.readsIn K cS (.type "type")=ζ
 fc:PySem.W.findCls K (.ref cS) (.type "type") "__init__" = θ (.val (.builtin "ValueError.__init__"))
 F:L2.sf K "__init__" qual st fI fd
 ft:(K.lookup fI).any (λo=>o.cls == .type "function")=ζ
 bd:Binds K fd ["self",x] []
 s:Fd st S x
 nx:GE (.type "ValueError") x=pure η
theorem log2_small {n:Int}(h:n.natAbs<2 ^ 64):n.natAbs.log2<1920:=by
 by_cases z:n.natAbs=0
 .rw[z];decide
 .have:=(Nat.log2_lt z).mpr h;omega
section
variable {P:Program}{w:Ξ}{K:ψ}{mg:Str->Option Value}{base:Heap}{A:Ρ}{E:Value->μ->Prop}{s:μ}{e t0 C cS fI:Addr}{fd:io}{st:Stmt}{S x qual:Str}{n:Int}{u:Þ}
theorem AU {Q:Value->μ->Prop}(mod:Mod K mg base)(ks:∀b o,base.get? b=θ o->s.heap.get? b=θ o)(k:uV K mg S x qual C cS fI fd st)(hn:n.natAbs<2 ^ 64)(hd:A.depth<recursionLimit)(he:s.heap.get? e=θ (sk C t0))(hb:base.get? e=η)
  (hq:∀s' t1 dx,s'.os=s.os->s'.gens=s.gens->s'.drawn=s.drawn->s'.heap.get? e=θ (zA C t1 dx)->(∃m,s'.heap.Ns dx m/\m x=θ (.int n u))->s.heap.get? dx=η->(∀b o,b≠e->s.heap.get? b=θ o->s'.heap.get? b=θ o)->Q .none s') :
  Β (Ζ P w) A (call (.ref fI) [.ref e,.int n u]) Q E s:=by
 obtain⟨oc,od,kV,doc,pm,an,Me,ct,NZ,rfl,lk,MT⟩:=k.F.ex;obtain⟨c1,c2,p1,p2,p3,p4,p5,p6,p7,p8,p9,Yb,Ya,X9,X8,X7,MN,NA,YM,YL⟩:=k.s.ex;have KX:K.In s.heap:=mod.Mm.keeps ks;have lim:s.heap.NoLimit:=mod.nolimit.keeps ks;have sc:=k.s.sc;have M3:∀y∈[("self" : Str),x].zip [Γ e,.int n u],(aB st).names.lookup y.1=θ .local\/((aB st).names.lookup y.1=θ .cell/\((ii (s.heap.objs.size+1) (aB st).names []).lookup y.1).isSome=ζ):=λy hy=>by
  rcases dm.mp hy with rfl|hy
  .exact .inl k.s.l1
  .rcases dm.mp hy with rfl|hy
   .exact .inl k.s.l2
   .cases hy
 refine SC (Re hd (KX _ _ lk) rfl sc.co sc.gen rfl (jh KX MT) (k.bd s [.ref e,.int n u] KX rfl _ _ _ _ ?_));refine KE sc.kind M3 λenv VV s1 x1=>?_
 subst VV;refine⟨lim.keeps x1.toInCall.keep,È ?_⟩;show Β _ (A.deeper (bi qual (aB st) s.heap.objs.size fI Me)) (Ż (aV st) (bi qual (aB st) s.heap.objs.size fI Me)) _ _ _;rw[MN];have TB:(bi qual (aB st) s.heap.objs.size fI Me).scope.kind=.function:=sc.kind;have NU:s1.heap.Ns s.heap.objs.size (Ą (bi qual (aB st) s.heap.objs.size fI Me).kindOf ([("self" : Str),x].zip [Γ e,.int n u]) λ_=>η):=x1.toInCall.ns;obtain⟨h1,tk,rfl,Ts⟩:=x1.done;have nd:[("self" : Str),x].Nodup:=sc.nd;have m1:=kx (m:=λ_=>η) (kindOf:=(bi qual (aB st) s.heap.objs.size fI Me).kindOf) (vs:=[Γ e,.int n u]) (i:=0) nd rfl rfl k.s.l1;have m2:=kx (m:=λ_=>η) (kindOf:=(bi qual (aB st) s.heap.objs.size fI Me).kindOf) (vs:=[Γ e,.int n u]) (i:=1) nd rfl rfl k.s.l2;generalize hm:Ą (bi qual (aB st) s.heap.objs.size fI Me).kindOf ([("self" : Str),x].zip [Γ e,.int n u]) (λ_=>η)=m at m1 m2 NU;have NU:h1.Ns s.heap.objs.size m:=NU;have Yp:∀{A':Ρ}{E':Value->μ->Prop}{s':μ}{p:No}{Q':Value->μ->Prop},s'.heap.Ns s.heap.objs.size m->Q' (.ref e) s'->Β (Ζ P w) A' (eval (.Name "self" p) (bi qual (aB st) s.heap.objs.size fI Me)) Q' E' s' :=
  λM9 PY=>ÿ (TD TB k.s.l1 M9 m1 PY) (by decide)
 have Yo:∀{A':Ρ}{E':Value->μ->Prop}{s':μ}{p:No}{Q':Value->μ->Prop},s'.heap.Ns s.heap.objs.size m->Q' (.int n u) s'->Β (Ζ P w) A' (eval (.Name x p) (bi qual (aB st) s.heap.objs.size fI Me)) Q' E' s' :=
  λM9 PY=>ÿ (TD TB k.s.l2 M9 m2 PY) k.s.db.2
 have Sg:=log2_small hn;have kb:∀b o,base.get? b=θ o->h1.get? b=θ o:=λb o z=>Ts b o (ks b o z)
 have K1:K.In h1:=mod.Mm.keeps kb;have eL:e≠s.heap.objs.size:=a8 (Α he);have Sq:=Ts _ _ he;obtain⟨bm,FI⟩:=jB K1 k.cls;obtain⟨ec,mN,hC,hN,MB,hi⟩:=FI.ex;have RI:C≠e:=λz=>by rw[z,Sq] at hC;cases hC
 refine ww (ě ?_ (by simp[ŗ,TB]) rfl);rw[arm_eval_Call];refine ν (TW TB k.s.gl (ă (mg:=mg) (show Heap.Ns _ dL mg from mod.glob.keeps kb) k.hS ?_) k.s.db.1);refine ν (EQ ?_);have Vr:w! ζ (.Name S p1) (bi qual (aB st) s.heap.objs.size fI Me) p2 p9=pure p9:=by unfold w!;simp[NA]
 unfold methodCall;rw[show methodCallForm _ _ _=ζ from rfl];refine ν (xL (PySem.W.method_cls (name:="__init__") K1 k.ga (PySem.W.cls_value (name:="__init__") K1 k.rd k.fc rfl ?_)));refine ν (C! Vr ?_);refine PySem.W.callWith_of (P:=λ_=>True) rfl (λh _=>⟨.machine,.inr (.inl rfl),.now⟩) ?_;refine ğ (KF (Yp NU (KF ?_)));have l1:(rc (toString n)).length<=2000:=by
  rw[PySem.ofString_length];have:=int_text_length_le (k:=1920) (by decide) Sg;omega
 show Β _ _ (eval (.JoinedStr [.Constant (.str c1) 0 p4,.FormattedValue (.Name x p5) (-1) η p6,.Constant (.str c2) 0 p7] p8) (bi qual (aB st) s.heap.objs.size fI Me)) _ _ _;refine wpAny_JoinedStr (Z6 ⟨c1,_,rfl,?_,wpAny_FormattedValue_plain (Yo NU (wpAny_formatField_int Sg ⟨_,_,rfl,?_,Z6 ⟨c2,_,rfl,?_,?_,XV ⟨trivial,?_⟩⟩⟩))⟩)
 any_goals (simp only[strLen_append,Uf];have:(Str.empty).length=0:=rfl;omega)
 refine zg hC FI.tail Sq (by rw[Uf];exact (by decide:1<=16777216)) λh2 t1 P1 YA Tr=>?_
 have Ye:h2.Ns s.heap.objs.size m:=by
  obtain⟨o,es,ep,z,r⟩:=NU;exact⟨o,es,ep,Tr _ _ (bw eL) z,r⟩
 have kb2:∀b o,base.get? b=θ o->h2.get? b=θ o:=λb o z=>Tr b o (λy=>by rw[y,hb] at z;cases z) (kb b o z)
 obtain⟨Pf,XH⟩:=jB (mod.Mm.keeps kb2) k.cls;obtain⟨P9,mN',Wg,hN2,VC,hi2⟩:=XH.ex;refine ww (plainObj_wpAny_Assign_Attribute (Yo Ye (Yp Ye ?_)) rfl);refine set_own (oe:=sk C t1) Wg hN2 VC XH.tail XH.tn (by simp) (by simp) k.nx P1 rfl rfl rfl λh3 XS dx So Pb hn3 kp3=>?_
 refine Db (hq _ t1 dx rfl rfl rfl So ⟨_,hn3,by simp⟩ ?_ λb o Pd z=>kp3 b o Pd (Tr b o Pd (Ts b o z)));cases z:s.heap.get? dx with
 |none=>rfl
 |some o=>
  by_cases y:dx=e
  .rw[y,P1] at Pb;cases Pb
  .rw[Tr dx o y (Ts dx o z)] at Pb;cases Pb
end
def Kz (fq:Bool)(x:Str)(B:Heap)(fr:List Addr)(h:Heap)(a:Addr)(n:Nat):Prop:=∃dx m u,fJ h a (θ dx,fq)/\h.Ns dx m/\m x=θ (.int n u)/\B.get? dx=η/\dx∉fr
noncomputable def nS (fq:Bool)(x:Str)(P:Program)(w:Ξ):rG:=λouter H s E e s'=>∃a C a0 H' B n,e=.ref a/\s'.os=s.os/\Tk s'.gens/\Un (dR outer) [] H H' s.heap s'.heap/\lR P w H' s'.heap /\
 wn B outer a C a0 s'.heap/\Bf B (dR outer) H' s.heap s'.heap/\Kz fq x B (dR outer) s'.heap a n/\E C (θ n) H'
section
variable {M:Ě}{A:Ρ}{E:Value->μ->Prop}{s:μ}{env:ù}{ec:EC}{C:Addr}{bm:List Value}{hdct:Bool}{newId:String}
theorem zr {y:o? Value}{Q:Flow->μ->Prop}(MO:bm.contains (.type "BaseException")=ζ) (hh:A.handled=η)
  (h:Β M A y (λv s₁=>∃e t dx,v=.ref e/\s₁.heap.get? C=θ (ec.o C bm hdct newId)/\s₁.heap.get? e=θ (zA C t dx)/\E (.ref e) s₁) E s) :
  Β M A (ŀ env (θ y) η) Q E s:=by
 have OS:(Γ C::bm).contains (.type "BaseException")=ζ:=by rw[dk,MO,ð]
 unfold ŀ;refine ν (Θ h (λv s₁ h₁=>?_) λ_ _ z=>z);obtain⟨e,t,dx,rfl,hC,he,hE⟩:=h₁;obtain⟨hp,g,d,tk,os⟩:=s₁
 repeat (first|with_reducible refine Ε he ?_|with_reducible refine Ε hC ?_ | (with_reducible refine ge hC ?_;rw[OS])|wp_step)
 exact wpAny_raiseNew_none hh hE
end
variable {E:XK}{H1:Hp}{S y:Str}{base h2:Heap}{cd:Value}{cpos np:No}{dx:Addr}{e:Expr}{fd:io}{mg:Str->Option Value}{pins:List (Addr×Obj)}{s1:μ}{scope:Scope}{t:TA}{u:Þ}
section
variable {X:Cx}
theorem xY {cS:Addr}{W:Nat->Hp->Prop}(Ss:X.A.depth+1<recursionLimit)(hg:Gl X y)(hm:X.mg y=θ (.ref C))(k:uV X.K X.mg S x qual C cS fI fd st)(ha:PA X [e] t)
  {σ:L2.St}(I:Inv X pins σ H s) (h:t σ H λvs H'=>∃n:Nat,vs=[.int n]/\n<2 ^ 64/\W n H')
  (he:Ι [e] X.env=[(ε,eval e X.env)]:=by rfl) (hd:(y==("__debug__" : Str))=ε:=by decide) :
  Β (Ζ X.prog X.w) X.A (eval (.Call (.Name y np) [e] [] cpos) X.env) (λv s3=>∃(s1:μ) (H1:Hp) (h':Heap) (tk:Nat) (a t1 dx:Addr) (n:Nat) (u:Þ),v=.ref a/\s3={ s1 with heap:=h',toks:=tk }/\W n H1/\Inv X pins σ H1 s1/\s1.heap.get? a=η/\h'.get? a=θ (zA C t1 dx)/\(∃m,h'.Ns dx m/\m x=θ (.int n u))/\s1.heap.get? dx=η /\
   ∀b o,s1.heap.get? b=θ o->h'.get? b=θ o) X.xe s:=by
 obtain⟨bm,FI⟩:=jB I.ok.mod.Mm k.cls;obtain⟨ec,mN,hC,hN,MB,hi⟩:=FI.ex;refine wpAny_Call_ofName (fN I hg hm ?_ hd);refine i3 (h₀:=X.base) I.ok.mod.Mm k.keep (Θ (ha cpos pins s σ H _ I h) (λus s1 ⟨vs,H1,I1,r,n,hv,hn,hW⟩=>⟨I1.MX,?_⟩) λ_ _ z=>z) he rfl;subst hv;obtain⟨u,rfl⟩:∃u,us=[.int n u]:=by
  cases r with
  |cons r1 r2=>
   cases r2;obtain⟨u,rfl⟩:=(show ∃u,_=Ψ n u from r1);exact⟨u,rfl⟩
 obtain⟨oc,od,kV,doc,pm,an,Me,ct,NZ,rfl,lk,MT⟩:=k.F.ex;have ft:=k.ft;rw[show List.lookup fI X.K=_ from lk] at ft;have TK:=I1.bk _ _ hC;obtain⟨h1,g1,d1,tk1,Yc⟩:=s1;refine zB TK (hN.keeps I1.bk) (FI.tail.keeps I1.bk) hi (I1.MX _ _ lk) (by simpa using ft) (by rw[Uf];exact (by decide:1<=16777216)) λh2 a t0 ha0 PZ kp=>?_
 have kb:∀b o,X.base.get? b=θ o->h2.get? b=θ o:=λb o z=>kp b o (I1.bk b o z)
 refine AU (n:=n) I.ok.mod kb k (by simpa using hn) (by rw[depth_under_make];exact Ss) ha0 (by
  cases z:X.base.get? a with
  |none=>rfl
  |some o=>have:=I1.bk _ _ z;rw[PZ] at this;cases this) λs3 t1 dx e1 e2 e3 e4 e5 e6 e7=>⟨rfl,?_⟩
 obtain⟨h3,g3,d3,XS,os3⟩:=s3;cases e1;cases e2;cases e3;refine⟨⟨h1,g1,d1,tk1,Yc⟩,H1,h3,XS,a,t1,dx,n,u,rfl,rfl,hW,I1,PZ,e4,e5,?_,λb o z=>e7 b o (λy=>by rw[y,PZ] at z;cases z) (kp b o z)⟩;cases z:h1.get? dx with
 |none=>rfl
 |some o=>
  have:=kp _ _ z;have e6:h2.get? dx=η:=e6;rw[e6] at this;cases this
theorem yU {C cS:Addr}{W:Nat->Hp->Prop}(hc:X.calm=ζ)(Ss:X.A.depth+1<recursionLimit)(hg:Gl X y)(hm:X.mg y=θ (.ref C))(k:uV X.K X.mg S x qual C cS fI fd st)(ha:PA X [e] t)
  (hw:∀(pins:List (Addr×Obj)) (σ:L2.St) (H:Hp) (s:μ) (h':Heap) (tk:Nat) (a t1 dx:Addr) (n:Nat) (u:Þ),W n H->Inv X pins σ H s->s.heap.get? a=η->h'.get? a=θ (zA C t1 dx)->(∃m,h'.Ns dx m/\m x=θ (.int n u))->s.heap.get? dx=η ->
   (∀b o,s.heap.get? b=θ o->h'.get? b=θ o)->X.xe (.ref a) { s with heap:=h',toks:=tk })
  (he:Ι [e] X.env=[(ε,eval e X.env)]:=by rfl) (hd:(y==("__debug__" : Str))=ε:=by decide) :
  PS X (.Raise (θ (.Call (.Name y np) [e] [] cpos)) η pos) (λD σ H=>t σ H λvs H'=>∃n:Nat,vs=[.int n]/\n<2 ^ 64/\W n H'):=by
 intro pins s σ H D I h;obtain⟨bm,FI⟩:=jB I.ok.mod.Mm k.cls;obtain⟨ec,mN,hC,hN,MB,hi⟩:=FI.ex;rw[o_];simp only[evalOpt,c?];refine ν (EQ (zr (C:=C) (ec:=ec) (bm:=bm) (hdct:=ζ) (newId:="ValueError.__new__")
  (FI.tail.hasType (show jz.contains (.type "BaseException")=ζ by decide)) (I.ok.hd hc) ?_))
 refine ν (Θ (xY Ss hg hm k ha I h he hd) (λv s3 h3=>ν (EQ (Μ ?_))) λ_ _ z=>z);obtain⟨s5,H1,h',tk,a,t1,dx,n,u,rfl,rfl,hW,I5,y1,y2,y3,y4,y5⟩:=h3;exact⟨a,t1,dx,rfl,y5 _ _ (I5.bk _ _ hC),y2,hw pins σ H1 s5 h' tk a t1 dx n u hW I5 y1 y2 y3 y4 y5⟩
theorem qK {N:List Str}
  {σ:L2.St}{C:Value}(I:Inv (cB CX P w K mg base N qual scope f cd A outer s H E) pins σ H1 s1) (kp:∀b o,s1.heap.get? b=θ o->h2.get? b=θ o)
  (fl:wn (pc s1.heap (dR (bi qual scope s.heap.objs.size f cd::outer))) outer a C a0 h') (O6:h2.UpToSlots h') :
  Un (dR outer) [] H H1 s.heap h'/\lR P w H1 h'/\Bf (pc s1.heap (dR (bi qual scope s.heap.objs.size f cd::outer))) (dR outer) H1 s.heap h':=by
 have OK:=I.stack;have L0:∀b o,s.heap.get? b=θ o->b≠s.heap.objs.size:=λb o e=>a8 (Α e)
 have fr:dR (bi qual scope s.heap.objs.size f cd::outer)=s.heap.objs.size::dR outer:=rfl;have MK:∀b o,s1.heap.get? b=θ o->b≠s.heap.objs.size->b∉dR outer->h'.get? b=θ o:=λb o e h1 h2=>fl.1 b o (ZM _ e (by
  rw[fr];intro z;rcases dm.mp z with z|z
  .exact h1 z
  .exact h2 z))
 have P8:∀b o,s1.heap.get? b=θ o->b∈dR outer->∃sl,h'.get? b=θ { o with slots:=sl }:=λb o e hb=>by
  obtain⟨_,o',e',hd⟩:=OK.mem (b:=b) (show b∈s.heap.objs.size::dR outer from aa _ hb);rw[e] at e';cases e';exact O6 b o (kp b o e) hd
 have bs:=I.base;have ME:∀b,H1 b≠η->b≠s.heap.objs.size/\b∉dR outer:=λb hb=>by
  have:=I.MW;refine⟨λz=>hb (this b (show b∈s.heap.objs.size::dR outer by rw[z];exact ag)),λz=>hb (this b (show b∈s.heap.objs.size::dR outer from aa _ z))⟩
 refine⟨⟨λb o e n hf _=>?_,λb o e n hf _=>?_,λb o e n _=>bs.free b o e n (by simp[cB]),λb o e _=>?_,bs.MY,bs.MV,bs.MZ⟩,uC I.Mc λb o hb e=>MK b o e (ME b hb).1 (ME b hb).2,λb o e=>?_⟩
 .exact MK b o (bs.keep b o e n hf (by simp[cB])) (L0 b o e) hf
 .obtain⟨sl,e1⟩:=bs.slot b o e n hf (by simp[cB]);obtain⟨Qi,e2⟩:=P8 b _ e1 hf;exact⟨Qi,e2⟩
 .obtain⟨o1,e1⟩:=bs.there b o e (by simp[cB]);by_cases hf:b∈dR outer
  .obtain⟨Qi,e2⟩:=P8 b _ e1 hf;exact⟨_,e2⟩
  .exact⟨o1,MK b o1 e1 (L0 b o e) hf⟩
 .by_cases hf:b∈dR outer
  .exact .inl hf
  .cases e1:s1.heap.get? b with
   |none=>
    refine .inr (.inr ⟨?_,?_⟩)
    .cases e0:s.heap.get? b with
     |none=>rfl
     |some o0=>
      obtain⟨o1,e2⟩:=bs.there b o0 e0 (by simp[cB]);rw[e1] at e2;cases e2
    .cases e0:H1 b with
     |none=>rfl
     |some u=>
      obtain⟨ob,e2⟩:=dN.N3 (I.Mc b u e0);rw[e1] at e2;cases e2
   |some o1=>
    by_cases hL:b=s.heap.objs.size
    .refine .inr (.inr ⟨?_,?_⟩)
     .rw[hL];cases e0:s.heap.get? s.heap.objs.size with
      |none=>rfl
      |some o0=>exact absurd rfl (L0 _ _ e0)
     .cases e0:H1 b with
      |none=>rfl
      |some u=>exact absurd hL (ME b (by rw[e0];simp)).1
    .have:=MK b o1 e1 hL hf;rw[e] at this;cases this;refine .inr (.inl (ZM _ e1 ?_));rw[fr];intro z;rcases dm.mp z with z|z
     .exact hL z
     .exact hf z
theorem zD {fq:Bool}{N:List Str}
  {σ:L2.St}{tk:Nat}{t1:Addr}(I:Inv (cB (nS fq x P w) P w K mg base N qual scope f cd A outer s H E) pins σ H1 s1) (PZ:s1.heap.get? a=η) (he:h2.get? a=θ (zA C t1 dx))
  (hm:∃m,h2.Ns dx m/\m x=θ (.int n u)) (Pb:s1.heap.get? dx=η) (kp:∀b o,s1.heap.get? b=θ o->h2.get? b=θ o) (hE:E (.ref C) (θ n) H1):(cB (nS fq x P w) P w K mg base N qual scope f cd A outer s H E).xe (.ref a) { s1 with heap:=h2,toks:=tk }:=by
 have OK:=I.stack;have Py:∀env∈(bi qual scope s.heap.objs.size f cd::outer),∀b,env.frame=θ b->b∈dR (bi qual scope s.heap.objs.size f cd::outer):=λenv he b hb=>KM.mpr ⟨env,he,hb⟩
 have Q4:∀b,s1.heap.get? b=η->(pc s1.heap (dR (bi qual scope s.heap.objs.size f cd::outer))).get? b=η:=λb hb=>by
  cases z:(pc s1.heap (dR (bi qual scope s.heap.objs.size f cd::outer))).get? b with
  |none=>rfl
  |some o=>have:=i0 _ z;rw[hb] at this;cases this
 show Β (Ζ P w) (A.deeper (bi qual scope s.heap.objs.size f cd)) (leaving (bi qual scope s.heap.objs.size f cd) (.ref a)) _ _ _;refine GU (base:=pc s1.heap (dR (bi qual scope s.heap.objs.size f cd::outer))) (s:={ s1 with heap:=h2,toks:=tk }) (outer:=outer) I.ok.frames ((Ý OK Py).of_keeps λb o hb _=>⟨o,kp b o hb,rfl⟩) rfl he
  (λb o q=>kp b o (i0 _ q)) (Q4 a PZ) rfl rfl rfl (od:=(θ dx,fq)) ⟨_,he,rfl,λ_=>⟨_,rfl,rfl⟩⟩ λh' fl O6 dc=>?_
 obtain⟨r1,r2,r3⟩:=qK I kp fl O6;obtain⟨m,m1,m2⟩:=hm;refine⟨a,.ref C,.ref t1,H1,_,n,rfl,I.os,I.bare,r1,r2,fl,r3,⟨dx,m,u,dc,O6.ns m1,m2,Q4 dx Pb,λz=>?_⟩,hE⟩;obtain⟨_,o,e1,_⟩:=OK.mem (b:=dx) (show dx∈s.heap.objs.size::dR outer from aa _ z);rw[Pb] at e1;cases e1
end
inductive Rb where
 |fin (cs:aU)
 |seq (cs:aU) (c:Ex) (n:Nat) (r:Rb)
noncomputable def tH (T:Tb):Rb->En->Option ((D×Bool) ⊕ Nat)
 |.fin cs,env=>match aE T cs env with
  |.rt d fr=>θ (.inl (d,fr))
  |.nx _=>θ (.inl (.Mh,ζ))
  |_=>η
 |.seq cs c n r,env=>match aE T cs env with
  |.rt d fr=>θ (.inl (d,fr))
  |.nx e1=>match ev T c e1 with
   |.ok p=>match truth p.1 with
    |some ζ=>θ (.inr n)
    |some ε=>tH T r e1
    |none=>η
   |_=>η
  |_=>η
noncomputable def Rb.add (cs:St):Rb->Rb
 |.fin l=>.fin (.cons cs l)
 |.seq l c n r=>.seq (.cons cs l) c n r
noncomputable def DZ:(a:List Stmt)->Option {q:(Str×Nat)×No×Nat×No×No×No // a=[.Raise (θ (.Call (.Name q.1.1 q.2.1) [.Constant (.int (q.1.2:Int)) q.2.2.1 q.2.2.2.1] [] q.2.2.2.2.1)) η q.2.2.2.2.2]}
 |[.Raise (θ (.Call (.Name y p1) [.Constant (.int (.ofNat k)) j p2] [] p3)) η p4]=>θ ⟨((y,k),p1,j,p2,p3,p4),rfl⟩
 |_=>η
noncomputable def sP (y:Str)(a:List Stmt):Option Nat:=(DZ a).bind λq=>if q.1.1.1=y/\q.1.1.2<2 ^ 64 then θ q.1.1.2 else η
noncomputable def cR (m:Nat)(S:Sc)(y:Str):List Stmt->Option Rb
 |[]=>θ (.fin .nil)
 |st::rest=>(cR m S y rest).bind λr=>match st with
  |.If e a b _=>(match sP y a with
   |some k=>if b.isEmpty then (cE m S e).map λc=>Rb.seq .nil c k r else η
   |none=>(cS m S st).map λc=>r.add c)
  |_=>(cS m S st).map λc=>r.add c
def Uk (K:Frag)(T:Tb)(c:Ex)(w:Hp->Prop)(u:TS):TS:=λD σ H=>∃(P Z:Addr->Prop) (env:En) (F:Nat->List Addr),RE K P env σ H F/\(∀i,∀a∈F i,Z a)/\(∀a,¬ P a->Z a)/\∃p k,ev T c env=.ok p/\truth p.1=θ k/\∀H',aG H H'->if k then w H' else u D σ H'
noncomputable def tR (K:Frag)(T:Tb)(W:Nat->Hp->Prop):Rb->TS
 |.fin cs=>BA K T cs
 |.seq cs c n r=>FN K T cs (Uk K T c (W n) (tR K T W r))
section
variable {X:Cx}{S:Sc}{T:Tb}{W:Nat->Hp->Prop}
theorem uh {a:List Stmt}(h:sP y a=θ k):∃p1 j p2 p3 p4,a=[.Raise (θ (.Call (.Name y p1) [.Constant (.int (k:Int)) j p2] [] p3)) η p4]/\k<2 ^ 64:=by
 unfold sP at h;rw[ah] at h;obtain⟨⟨q,rfl⟩,_,h⟩:=h;by_cases z:q.1.1=y/\q.1.2<2 ^ 64
 .rw[if_pos z] at h;cases h;exact⟨_,_,_,_,_,by rw[<-z.1],z.2⟩
 .rw[if_neg z] at h;cases h
theorem HE {cs:St}{r:Rb}(h1:PS X st (tS X.K T cs))(h2:hU X rest (tR X.K T W r)):hU X (st::rest) (tR X.K T W (r.add cs)):=by
 cases r with
 |fin l=>exact uO h1 h2
 |seq l c n r=>
  refine fA (eN h1 h2) λD σ H ⟨P,Z,env,F,re,hz,zp,h⟩=>⟨P,Z,env,F,re,hz,zp,?_⟩
  unfold aE at h;cases hs:bH T cs env with
  |nx env'=>
   rw[hs] at h;exact λσ' H' F' af=>⟨P,Z,env',F',af.re,af.z,zp,post.trans af h⟩
  |bk env'=>rw[hs] at h;exact h
  |ct env'=>rw[hs] at h;exact h
  |rt d fr=>rw[hs] at h;exact h
  |bad=>rw[hs] at h;exact h
theorem Ft {m:Nat}(C:nE X.MH S T)(hr:∀k p1 j p2 p3 p4,k<2 ^ 64->PS X (.Raise (θ (.Call (.Name y p1) [.Constant (.int ((k:Nat):Int)) j p2] [] p3)) η p4) (λD σ H=>W k H)) :
  ∀(l:List Stmt) (r:Rb),cR m S y l=θ r->hU X l (tR X.K T W r)
 |[],r,h=>by
  cases h;exact yo
 |st::l,r,h=>by
  unfold cR at h;obtain⟨r1,h1,h2⟩:=ah.mp h;clear h;have ih:=Ft C hr l r1 h1;have gen:∀{c:St},cS m S st=θ c->hU X (st::l) (tR X.K T W (r1.add c)):=λhc=>HE (PS.MH ((xJ C m).1 _ _ hc)) ih
  split at h2
  .split at h2
   .rename_i k hk;obtain⟨p1,j,p2,p3,p4,rfl,Px⟩:=uh hk;split at h2
    .rename_i hb;obtain⟨c,hc,rfl⟩:=ae.mp h2;rw[List.isEmpty_iff] at hb;subst hb;refine fA (eN (Bu (PT.MH (cQ m C.c _ _ hc).2) (lG (hr k p1 j p2 p3 p4 Px)) nX) ih) λD σ H h=>?_
     obtain⟨P,Z,env,F,re,hz,zp,h⟩:=h;unfold aE at h;obtain⟨P,Z,env,F,re,hz,zp,p,b,e1,e2,h⟩:=h σ H F (After.same re hz (aG.refl _));refine⟨P,env,F,re,p,b,e1,e2,λH' sm=>?_⟩;have:=h H' sm;cases b with
     |true=>exact this
     |false=>exact this
    .cases h2
   .obtain⟨c,hc,rfl⟩:=ae.mp h2;exact gen hc
  .obtain⟨c,hc,rfl⟩:=ae.mp h2;exact gen hc
theorem E9 {K:Frag}{P Z:Addr->Prop}{D:Ends}(Yy:∀σ' H',D.rt .Mh H'->D.nx σ' H')(zp:∀a,¬ P a->Z a):∀(r:Rb) {env:En}{σ:L2.St}{H:Hp}{F:Nat->List Addr},RE K P env σ H F->(∀i,∀a∈F i,Z a)->(match tH T r env with
  |some (.inl (d,fr))=>∀v H' G,Rep K H' d v G->jV P H H'->(∀a∈G,Z a)->(fr=ζ->G.Nodup/\∀a∈G,¬ P a/\∃vs:ML,H' a=θ vs.o)->D.rt v H'
  |some (.inr k)=>∀H',jV P H H'->W k H'
  |none=>False)->tR K T W r D σ H
 |.fin cs,env,σ,H,F,re,hz,h=>by
  refine⟨P,Z,env,F,re,hz,zp,?_⟩;unfold tH at h;cases hq:aE T cs env with
  |rt d fr=>rw[hq] at h;exact h
  |nx e=>
   rw[hq] at h;intro σ' H' F' af;exact Yy _ _ (h .Mh H' [] .Mh af.ev (λ_ h=>(nomatch h)) λ_=>⟨bc,λ_ h=>(nomatch h)⟩)
  |bk e=>rw[hq] at h;exact h.elim
  |ct e=>rw[hq] at h;exact h.elim
  |bad=>rw[hq] at h;exact h.elim
 |.seq cs c n r,env,σ,H,F,re,hz,h=>by
  refine⟨P,Z,env,F,re,hz,zp,?_⟩;unfold tH at h;cases hq:aE T cs env with
  |rt d fr=>rw[hq] at h;exact h
  |nx e=>
   rw[hq] at h;intro σ' H' F' af;dsimp only at h;cases hc:ev T c e with
   |ok p=>
    rw[hc] at h;dsimp only at h;cases ht:truth p.1 with
    |none=>rw[ht] at h;exact h.elim
    |some b=>
     rw[ht] at h;refine⟨P,Z,e,F',af.re,af.z,zp,p,b,hc,ht,λH2 sm=>?_⟩;have MA:=After.same (Z:=Z) af.re af.z sm;cases b with
     |true=>exact h H2 (af.ev.trans MA.ev)
     |false=>
      show if ε=ζ then _ else _
      rw[if_neg ay];refine E9 Yy zp r MA.re MA.z ?_;dsimp only at h;cases hr:tH T r e with
      |none=>rw[hr] at h;exact h
      |some z=>
       rw[hr] at h;cases z with
       |inl q=>exact λv H' G r1 r2 r3 r4=>h v H' G r1 (af.ev.trans (MA.ev.trans r2)) r3 r4
       |inr k=>exact λH' r2=>h H' (af.ev.trans (MA.ev.trans r2))
   |bad=>rw[hc] at h;exact h.elim
  |bk e=>rw[hq] at h;exact h.elim
  |ct e=>rw[hq] at h;exact h.elim
  |bad=>rw[hq] at h;exact h.elim
end
variable {Q:VK}{NV:io}{stI:Stmt}{vs:List V}
section
variable {p:Pg}{P:Program}{w:Ξ}{K:Frag}{mg:Str->Option Value}{base:Heap}
def BY (K:Frag)(n:Nat)(C:Addr)(f:List D->Option ((D×Bool) ⊕ Nat)):Sp:=λvs H Q E=>∃ds G,ds.length=n/\aF K H ds vs G/\(match f ds with
 |some (.inl (d,fr))=>∀v H' G',aG H H'->Rep K H' d v G'->(∀a∈G',H a=η\/a∈G)->(fr=ζ->G'.Nodup/\∀a∈G',H a=η/\∃vs:ML,H' a=θ vs.o)->Q v H'
 |some (.inr k)=>∀H',aG H H'->E (.ref C) (θ k) H'
 |none=>False)
theorem rK {f:List D->Option ((D×Bool) ⊕ Nat)}(h:BY K n C f vs H Q E):vs.length=n:=by
 obtain⟨ds,G,h1,h2,_⟩:=h;rw[<-h1,h2.len]
theorem EH {m:Nat}{d:Df}{rb:Rb}{y:Str}{cS:Addr}(hp:∀d∈p.N5,d.QU p fo)(hi:p.In K mg)(hh:vX w K)(ih:mZ p P w K mg base n)(Sc:bQ d.N d.ps (aB d.st))(F:L2.sf K d.nm d.nm d.st f fd)
  (hc:cR m (p.sc d) y (aV d.st)=θ rb) (hg:(aB d.st).names.lookup y=θ .globalImplicit) (hm:mg y=θ (.ref C)) (k:uV K mg S x qual C cS fI NV stI) (hd:(y==("__debug__" : Str))=ε) :
  fT P w K mg base (nS fq x P w) (xN n) f fd d.ps (BY K d.ps.length C λds=>tH ⟨p.run n,p.gl,p.fuel⟩ rb (aD ds d.N.length)):=by
 refine tw F Sc (λA r=>⟨r.hd,by have:=r.dp;omega⟩) (λvs H Q E h=>rK h) λMe A outer s H vs Q E hr hs=>?_
 refine⟨_,Ft (W:=λn H'=>E (.ref C) (θ n) H') (vt hp hi hh ih Sc (hr.deeper _)) (λk0 p1 j p2 p3 p4 hk=>?_) _ _ hc,?_⟩
 .refine bT (yU (C:=C) (W:=λn H'=>E (.ref C) (θ n) H') rfl ?_ hg hm k (aM wN cY) (λpins σ H1 s1 h' tk a t1 dx n u hW I e1 e2 e3 e4 e5=>zD I e1 e2 e3 e4 e5 hW) rfl hd) λD σ H' h=>?_
  .show A.depth+1+1<_;have:=hr.dp;omega
  .exact⟨k0,rfl,hk,h⟩
 obtain⟨ds,G,hlen,rs,k⟩:=hs;dsimp only at k;have hN:ds.length<=d.N.length:=by
  rw[hlen,<-Sc.pre,dn];exact š _ _
 obtain⟨F0,re,hF⟩:=entry rs hN;refine E9 (P:=λa=>H a≠η) (Z:=λa=>H a=η\/a∈G) (λσ' H' h=>h) (λa h=>.inl (wp.mp h)) rb re (λj a ha=>.inr (hF j a ha)) ?_;show match tH ⟨p.run n,p.gl,p.fuel⟩ rb (aD ds d.N.length) with
  |some (.inl (d,fr))=>_
  |some (.inr k)=>_
  |none=>False
 cases hq:tH ⟨p.run n,p.gl,p.fuel⟩ rb (aD ds d.N.length) with
 |none=>rw[hq] at k;exact k
 |some z=>
  rw[hq] at k;cases z with
  |inl q=>
   intro v H' G' rp ev z fz;exact k v H' G' (fH ev) rp z λhf=>let ⟨a,b⟩:=fz hf;⟨a,λx hx=>⟨wp.mp (b x hx).1,(b x hx).2⟩⟩
  |inr j=>exact λH' ev=>k H' (fH ev)
end
noncomputable def pY (K:ψ)(C:Addr):Bool:=kS K C&&(match K.lookup C with
 |some ⟨_,_,.cls cd,_⟩=>cd.mro.tail.contains (.type "BaseException")
 |_=>ε)
theorem uf {D:Addr}(Mm:K.In h)(q:pY K D=ζ) :
  ∃(e:EC) (bm:_) (hdct:Bool) (newId:String),h.get? D=θ (e.o D bm hdct newId)/\bm.contains (.type "BaseException")=ζ:=by
 unfold pY at q;rw[ai] at q;obtain⟨ec,bm,hdct,newId,hD⟩:=j5 Mm q.1;refine⟨ec,bm,hdct,newId,hD,?_⟩;have q2:=q.2;split at q2
 .rename_i ho;have:=Mm _ _ ho;rw[hD] at this;injection this with this
  injection this with _ _ M5 _
  injection M5 with M5
  subst M5;exact q2
 .cases q2
theorem ue {D:Addr}(Mm:K.In h)
  (hC:h.get? C=θ (ec.o C bm hdct newId)) (ho:dQ K C D=ζ):(Γ C::bm).contains (.ref D)=ζ:=by
 unfold dQ at ho;split at ho
 .rename_i hl;have:=Mm _ _ hl;rw[hC] at this;injection this with this
  injection this with _ _ M5 _
  injection M5 with M5
  subst M5;exact ho
 .cases ho
theorem jG.less {Qo:List Str}{l:List Value}(x:jG h Oq ns l)(hs:∀n∈Qo,n∈ns):jG h Oq Qo l:=by
 induction x with
 |base=>exact .base
 |own a b c _ ih=>exact .own a b (λn hn=>c n (hs n hn)) ih
theorem xV:∀n∈tG,n∈ins x:=λn hn=>by
 simp only[tG,dm,cx,or_false] at hn;rcases hn with rfl|rfl|rfl<;>simp
theorem C7 (q:zm K C (ins x) fI=ζ):FX K C:=λ{h} Mm=>by
 obtain⟨bm,FI⟩:=jB Mm q;obtain⟨ec,mN,hC,hN,MB,hi⟩:=FI.ex;refine⟨bm,⟨ec,ζ,mN,hC,hN,λn hn=>MB n (xV n hn)⟩,FI.tail,FI.tn.less xV,λD=>?_⟩;unfold zm at q;split at q
 .rename_i ho;have:=Mm _ _ ho;rw[hC] at this;injection this with this
  injection this with _ _ M5 _
  injection M5 with M5
  subst M5;unfold dQ;rw[ho]
 .cases q
variable {body:List Stmt}{es:List Expr}{hp p:No}{od:Obj}{sp:Sp}
section
variable {X:Cx}{pins:List (Addr×Obj)}{σ:L2.St}{H:Hp}{s:μ}{D:Ends}{x:Str}{fq:Bool}{W:Value->Nat->Hp->Prop}
noncomputable def nU (fq:Bool)(x:Str)(X:Cx)(pins:List (Addr×Obj))(σ:L2.St)(W:Value->Nat->Hp->Prop)(e:Value)(s1:μ):Prop :=
 ∃H0 s0 a C a0 H' B n,Inv X pins σ H0 s0/\e=.ref a/\s1.os=s0.os/\Tk s1.gens/\Fc X H0 H' s0 B s1.heap/\wn B X.stack a C a0 s1.heap/\Kz fq x B (dR X.stack) s1.heap a n/\W C n H'
theorem qH {RP:Ρ->Prop}{NF:List V}{ds:List Value}(F:fT X.prog X.w X.K X.mg X.base (nS fq x X.prog X.w) RP f fd ps sp)(hr:RP X.A)(hg:Gl X y)(hm:X.mg y=θ (.ref f))(hk:kt X.K (.ref f)=ζ)(hb:Binds X.K fd ps ds)(hd:aK NF ds)
  (I:Inv X pins σ H s) (ha:PA X.MH (e::es) t) (h:t σ H λvs H1=>sp (vs++NF) H1 Q (λC o H'=>∃n,o=θ n/\W C n H')) (Ol:(y==("__debug__" : Str))=ε:=by decide)
  (he:Ι (e::es) X.env=(ε,eval e X.env)::Ι es X.env:=by rfl) (MP:(Pi pos (Ι es X.env)).any (·.1)=ε:=by rfl) :
  Β (Ζ X.prog X.w) X.A (eval (.Call (.Name y p) (e::es) [] pos) X.env) (EP X pins σ Q) (nU fq x X pins σ W) s:=by
 refine wP (fN I hg hm ?_ Ol);refine i3 (h₀:=X.base) I.ok.mod.Mm hk (Θ (ha pos pins s σ H _ (I.MI _) h) (λus s1 ⟨vs,H1,I1,r,q⟩=>⟨I1.Mf.MX,?_⟩) λ_ _ z=>Φ z) he MP;have I:=I1.Mf;have r2:aK (vs++NF) (us++ds):=r.append hd;have hl:(us++ds).length=ps.length:=by rw[<-r2.length];exact F.len _ _ _ _ q
 refine SC (ZA (F.run X.A X.stack s1 H1 ⟨us,[]⟩ (us++ds) (vs++NF) Q _ hr I.env0 (hb s1 us I.MX hl) r2 q) λr s' hq=>?_);cases r with
 |error e=>
  have hq:nS fq x X.prog X.w X.stack H1 s1 (λC o H'=>∃n,o=θ n/\W C n H') e s':=hq;obtain⟨a,C,a0,H',B,n,e1,e2,e3,e4,e5,e6,e7,e8,n',e9,PB⟩:=hq;cases e9;exact⟨H1,s1,a,C,a0,H',B,n,I,e1,e2,e3,⟨e4,e5,e7⟩,e6,e8,PB⟩
 |ok fl=>
  cases fl with
  |ret u=>exact I.after hq
  |next=>exact Φ hq
  |brk=>exact Φ hq
  |cont=>exact Φ hq
theorem zW {E':Value->μ->Prop}{Q:VK}(I:Inv X pins σ H s)(h:Β (Ζ X.prog X.w) X.A (eval e X.env) (EP X pins σ Q) E' s)(hq:∀v H',Q v H'->D.nx σ H')(hs:ZC e η pos.line X.env=pure ε:=by rfl) :
  Β (Ζ X.prog X.w) X.A (Ż [.Expr e pos] X.env) (SP X pins D) E' s:=by
 refine ww (Θ (Q:=SP X pins D) (ě (Θ h (λv s1 ⟨x,H1,I1,r1,q1⟩=>⟨σ,H1,I1,hq x H1 q1⟩) λ_ _ z=>z) I.quiet hs) (λf s1 q=>?_) λ_ _ z=>z);cases f with
 |next=>exact Db q
 |ret v=>exact q
 |brk=>exact q
 |cont=>exact q
noncomputable abbrev pZ (X:Cx)(dx:Addr)(od:Obj):Cx:={ X with pn:=(dx,od)::X.pn }
theorem E4 (I:Inv X pins σ H s)(hp:s.heap.get? dx=θ od/\H dx=η/\dx≠X.env.locals/\dx∉X.fs/\∀v,od.data≠.cell v):Inv (pZ X dx od) pins σ H s :=
 ⟨⟨I.ok.mod,I.ok.kind,I.ok.glob,I.ok.blt,I.ok.above,I.ok.inj,I.ok.has,I.ok.O1,I.ok.hd,I.ok.frames,I.ok.PL,I.ok.QO,I.ok.bs,I.ok.Oo,I.ok.Nf,I.ok.Nj,I.ok.MJ,I.ok.OV⟩,I.os,I.bare,I.base,I.loc,I.cell,I.free,I.Mn,λp hq=>by
  rcases dm.mp hq with rfl|hq
  .exact hp
  .exact I.pin p hq,I.Mc,I.len⟩
theorem kr (I:Inv (pZ X dx od) pins σ H s)(ok:X.Ok):Inv X pins σ H s:=⟨ok,I.os,I.bare,I.base,I.loc,I.cell,I.free,I.Mn,λp hp=>I.pin p (aa _ hp),I.Mc,I.len⟩
theorem C9 (hs:X.stack=X.env::X.outer)(hf:X.env.frame=θ X.env.locals)(ok:X.Ok){n:Str}{i:Nat}{Cd:Addr}{b₀:Stmt}{PK:List Stmt}{ts:Addr->Nat->TS}(hN:X.N.Nodup)(hi:X.N[i]? = θ n)(hk:X.env.scope.names.lookup n=θ .local)
  (hg:Gl X y) (hm:X.mg y=θ (.ref Cd)) (qD:pY X.K Cd=ζ)
  (hsu:∀a o dx od C k H',W C k H'->o.cls=C->(∃vs,o.data=.fields vs)->o.dict=θ dx->(∃m u,(∀h:Heap,h.get? dx=θ od->h.Ns dx m)/\m x=θ (.int ((k:Nat):Int) u))->hU (iW (pZ X dx od) a o) (b₀::PK) (ts a k))
  (hw:∀C k H',W C k H'->(∃c,C=.ref c/\kS X.K c=ζ/\dQ X.K c Cd=ζ)/\∀a,ts a k (Cp D i) (σ.set i (θ (.ref a))) H') (hd:(y==("__debug__" : Str))=ε:=by decide)
  (hb:Β (Ζ X.prog X.w) X.A (Ż body X.env) (SP X pins D) (nU fq x X pins σ W) s) :
  Β (Ζ X.prog X.w) X.A (exec (.Try body [.ExceptHandler (θ (.Name y np)) (θ n) (b₀::PK) hp] [] [] pos) X.env) (SP X pins D) X.xe s:=by
 refine Ù (Θ hb (λf s1 h1=>?_) λe s1 h1=>?_)
 .cases f with
  |next=>exact Μ h1
  |brk=>exact h1
  |cont=>exact h1
  |ret u=>exact h1
 obtain⟨H0,s0,a,C,a0,H',B,k,I0,rfl,ho,Sw,F1,f1,Mv,w1⟩:=h1;obtain⟨⟨c,rfl,qC,oC⟩,Vb⟩:=hw C k H' w1;obtain⟨dx,m,u,WU,Yf,mx,nB,RH⟩:=Mv;have SG:=f1;rw[hs] at SG;refine AN (by rw[ok.frames,hs]) hf SG WU λh2 g2 u2 WT=>?_
 rw[<-hs] at g2;have F2:=F1.next I0 g2.1 (dG f1) u2;refine A4 g2 WT λh3 f3 u3 WS=>?_
 have F3:=F2.next I0 f3.1 (m6 g2) u3;have back:∀h,({ s1 with heap:=h }:μ)={ s0 with heap:=h,gens:=s1.gens,drawn:=s1.drawn,toks:=s1.toks }:=λh=>by
  cases s1;cases s0;cases ho;rfl
 have I3:Inv X pins σ H' { s1 with heap:=h3 }:=by
  rw[back];exact F3.inv I0 Sw
 refine ŭ (Ŕ (fN (X:=markX X a) (uA I3 a ok.frames) hg hm ?_ hd)) (by intro q;cases q);obtain⟨P9,Pf,M4,nI',hD,hB⟩:=uf I3.MX qD;obtain⟨ec,bm,hdct,nI,hC⟩:=j5 I3.MX qC;obtain⟨oe,he,VZ⟩:=f3.there;refine nh hC hD he VZ hB ?_;rw[ue I3.MX hC oC];refine codeAny_handlers_suite_as (AM f3 WS λh4 f4 u4 WR=>?_);have F4:=F3.next I0 f4.1 (dG f3) u4;have I4:Inv X pins σ H' { s1 with heap:=h4 }:=by
  rw[back];exact F4.inv I0 Sw
 have ns4:=u4.ns (u3.ns (u2.ns Yf));obtain⟨od,es,ep,Yv,YH,r4⟩:=ns4;obtain⟨o4,QV,e5,c5,d5,_⟩:=f4.first;have dic:o4.dict=θ dx:=by
  obtain⟨o',q1,q2⟩:=WR;rw[e5] at q1;cases q1;exact q2.1
 have ME:a∉dR X.stack:=λz=>by
  obtain⟨o',e',NB⟩:=dG f4 a z;rw[e5] at e';cases e';exact NB QV d5
 have OM:H' a=η:=by
  rcases F4.bf a o4 e5 with z|z|z
  .exact absurd z ME
  .rw[f4.2.1] at z;cases z
  .exact z.2
 have QG:H' dx=η:=by
  rcases F4.bf dx od Yv with z|z|z
  .exact absurd z RH
  .rw[nB] at z;cases z
  .exact z.2
 have QB:dR X.stack=X.env.locals::X.fs:=by
  rw[hs];unfold dR;rw[iu,hf];rfl
 rw[QB] at ME RH;have P3:Inv (pZ X dx od) pins σ H' { s1 with heap:=h4 }:=E4 I4 ⟨Yv,QG,λz=>RH (by rw[z];exact ag),λz=>RH (aa _ z),λv z=>by rw[YH] at z;cases z⟩;have P4:Inv (iW (pZ X dx od) a o4) pins σ H' { s1 with heap:=h4 }:=qv P3 a o4 ok.frames ⟨e5,OM,λz=>ME (by rw[z];exact ag),λz=>ME (aa _ z),λv z=>by rw[d5] at z;cases z⟩;refine iO (X:=iW (pZ X dx od) a o4) P4 hN hi (.inl hk) (show RelV (.ref a) (.ref a) from rfl) (λs5 I5=>?_) (.inr hk);refine Θ (hsu a o4 dx od _ k H' w1 c5 ⟨QV,d5⟩ dic ⟨m,u,λh hh=>⟨od,es,ep,hh,YH,r4⟩,mx⟩ pins s5 _ H' (Cp D i) I5 (Vb a)) (λf s6 h6=>?_) λ_ _ z=>z.elim
 cases f with
 |next=>
  obtain⟨σ',H6,I6,q⟩:=h6;exact kB (kr (fF I6 P3.ok) ok) hN hi hk λs7 I7=>⟨_,H6,I7,q⟩
 |brk=>
  obtain⟨σ',H6,I6,q⟩:=h6;exact kB (kr (fF I6 P3.ok) ok) hN hi hk λs7 I7=>⟨_,H6,I7,q⟩
 |cont=>
  obtain⟨σ',H6,I6,q⟩:=h6;exact kB (kr (fF I6 P3.ok) ok) hN hi hk λs7 I7=>⟨_,H6,I7,q⟩
 |ret u=>
  obtain⟨v,σ',H6,I6,r,q⟩:=h6;exact kB (kr (fF I6 P3.ok) ok) hN hi hk λs7 I7=>⟨v,_,H6,I7,r,q⟩
end
noncomputable def aU.app:aU->aU->aU
 |.nil,b=>b
 |.cons s r,b=>.cons s (r.app b)
theorem pK {T:Tb}(b:aU):∀(a:aU) (env:En),aE T (a.app b) env=(aE T a env).andThen (aE T b)
 |.nil,env=>by rw[aU.app,aE.eq_1 T];rfl
 |.cons s r,env=>by
  rw[aU.app,aE,aE];cases bH T s env with
  |nx e=>exact pK b r e
  |bk e=>rfl
  |ct e=>rfl
  |rt d fr=>rfl
  |bad=>rfl
section
variable {P:Program}{w:Ξ}{K:Frag}{mg:Str->Option Value}{base:Heap}
end
section
variable {p:Pg}{P:Program}{w:Ξ}{K:Frag}{mg:Str->Option Value}{base:Heap}
end
section
variable {prog:Program}{w:Ξ}{A:Ρ}{E:Value->μ->Prop}{h:Heap}{g:Array Tl}{d:Ă}{t:Nat}{os:Î}{a dx:Addr}{o:Obj}{vs:Array Value}{m:Str->Option Value}{x:Str}{v:Value}
 {ec:EC}{C:Addr}{bm:List Value}{newId:String}{mN:Str->Option Value}
theorem zL {Q:Fin->μ->Prop}(hC:h.get? C=θ (ec.o C bm ζ newId))(hN:h.Ns ec.N mN)(MB:∀n∈ins x,mN n=η)(TN:jG h jz (ins x) bm)
  (hB:GE (.type "ValueError") x=pure η) (hx:h.get? a=θ o) (hc:o.cls=.ref C) (OQ:o.data=.fields vs) (QJ:o.dict=θ dx) (hn:h.Ns dx m) (hv:m x=θ v) (hq:Q (.done (.ret v)) ⟨h,g,d,t,os⟩) :
  Β (Ζ prog w) A (ë.«object.__getattribute__» ⟨[.ref a,.str x tk],[]⟩) Q E ⟨h,g,d,t,os⟩:=by
 have VA:x∈ins x:=by simp
 repeat (any_goals (first|assumption | (with_reducible refine Ε hx ?_;rw[hc])|with_reducible refine fE VA hC hN MB TN Ο.mro hB ?_|wp_step))
 split
 .rename_i z;rw[OQ] at z;cases z
 unfold instanceDict
 repeat (any_goals (first|assumption | (with_reducible refine Ε hx ?_;rw[hc])|with_reducible refine Ε hC ?_|wp_step))
 rw[QJ]
 repeat (any_goals (first|assumption | (with_reducible refine wpAny_nsGet hn ?_;rw[hv])|wp_step))
theorem Ij {n:Int}{Q:Value->μ->Prop}(hC:h.get? C=θ (ec.o C bm ζ newId))(hN:h.Ns ec.N mN)(MB:∀n∈ins x,mN n=η)(T:KB h jz bm)(TN:jG h jz (ins x) bm)
  (hB:GE (.type "ValueError") x=pure η) (hx:h.get? a=θ o) (hc:o.cls=.ref C) (OQ:o.data=.fields vs) (QJ:o.dict=θ dx) (hn:h.Ns dx m) (hv:m x=θ (.int n u)) (hq:Q (.int n u) ⟨h,g,d,t,os⟩) :
  Β (Ζ prog w) A (getAttrBy (.ref a) (.str x tk) fill expr) Q E ⟨h,g,d,t,os⟩:=by
 have f3:=Ο.ga.bind (.ref a);have hx0:(expr&&ľ (na "BaseException.__getattribute__"))=ε:=by cases expr<;>rfl
 have RX:(na "BaseException.__getattribute__" == na "object.__getattribute__")=ε:=by decide +kernel
 have hx1:(ľ (Γ C)&&na "BaseException.__getattribute__" == na "object.__getattribute__")=ε:=by rw[RX];rfl
 have VE:("__getattribute__" : Str)∈ins x:=.head _;have VD:("__getattr__" : Str)∈ins x:=.tail _ (.head _)
 repeat (any_goals (first|assumption | (with_reducible refine Ε hx ?_;rw[hc])|with_reducible refine fE VE hC hN MB TN Ο.mro Ο.ga.lookup ?_|with_reducible refine fE VD hC hN MB TN Ο.mro Ο.noGetattr ?_|wp_step))
 refine Ev Ο.ga.plain c! (uc hC T hx hc (zL hC hN MB TN hB hx hc OQ QJ hn hv ?_))
 repeat (any_goals (first|assumption|wp_step))
end
section
variable {X:Cx}{a dx C fI:Addr}{o od:Obj}{x:Str}{k:Nat}
def C8 (i:Nat)(a:Addr)(k:Nat):TE:=λσ H Q=>σ[i]? = θ (θ (.ref a))/\Q (.int k) H
theorem IF {p':No}(q:zm X.K C (ins x) fI=ζ)(hB:GE (.type "ValueError") x=pure η) (hc:o.cls=.ref C) (OQ:∃vs,o.data=.fields vs) (QJ:o.dict=θ dx) (NU:∃m u,(∀h:Heap,h.get? dx=θ od->h.Ns dx m)/\m x=θ (.int ((k:Nat):Int) u))
  (hy:PE (iW (pZ X dx od) a o) (.Name y p) (qd i)):PE (iW (pZ X dx od) a o) (.Attribute (.Name y p) x p') (C8 i a k):=by
 intro pins s σ H Q I ⟨hi,hq⟩;refine Attribute_name (cI (hy pins s σ H (λv H'=>v=.ref a/\H'=H) I ⟨_,hi,rfl,rfl⟩) λv s1 ⟨v',H1,I1,r,e1,e2⟩=>?_);subst e1 e2;obtain rfl:v=Γ a:=r;have Mm:=I1.MX;obtain⟨bm,FI⟩:=jB Mm q;obtain⟨ec,mN,hC,hN,MB,hi2⟩:=FI.ex;obtain⟨vs,OQ⟩:=OQ;obtain⟨m,u,NU,hm⟩:=NU;have p1:=(I1.pin (a,o) (by simp)).1;have p2:=(I1.pin (dx,od) (by simp)).1;have J:=I1.tok (s1.toks+1);obtain⟨h1,g1,d1,t1,Yc⟩:=s1;unfold getAttr;refine ν (wpAny_mkText ?_);exact Ij hC hN MB FI.tail FI.tn hB p1 hc OQ QJ (NU _ p2) hm ⟨.int k,_,J,⟨u,rfl⟩,hq⟩
end
noncomputable abbrev loud (X:Cx):Cx:={ X with calm:=ε }
section
variable {P:Program}{w:Ξ}{K:ψ}{mg:Str->Option Value}{base:Heap}{f:Addr}{fd:io}{ps N:List Str}{sp:Sp}
theorem Ik {RP:Ρ->Prop}(F:L2.sf K x qual st f fd)(S:bQ N ps (aB st))(TH:∀A,RP A->A.depth<recursionLimit)(len:∀vs H Q E,sp vs H Q E->vs.length=ps.length)
  (MN:∀(Me:Value) (A:Ρ) (outer:List ù) (s:μ) (H:Hp) (vs:List V) (Q:VK) (E:XK),RP A->sp vs H Q E ->
   ∃t,hU (loud (cB CX P w K mg base N qual (aB st) f Me A outer s H E)) (aV st) t/\t { nx:=λ_ H'=>Q .Mh H',rt:=Q } (L2.start N vs) H):fT P w K mg base CX RP f fd ps sp:=by
 obtain⟨oc,od,kV,doc,pm,an,Me,ct,NZ,rfl,lk,MT⟩:=F.ex;refine⟨len,λA outer s H args us vs Q E hr e0 hb r NT=>?_⟩;have hl:=len _ _ _ _ NT;have KX:K.In s.heap:=e0.mod.Mm.keeps λb o e=>(e0.bs b o e).1
 have lim:s.heap.NoLimit:=e0.mod.nolimit.keeps λb o e=>(e0.bs b o e).1
 have M3:∀y∈ps.zip us,(aB st).names.lookup y.1=θ .local\/((aB st).names.lookup y.1=θ .cell/\((ii (s.heap.objs.size+1) (aB st).names []).lookup y.1).isSome=ζ):=λ⟨n,v⟩ hy=>by
  rcases S.par n (je hy).1 with q|q
  .exact .inl q
  .exact .inr ⟨q,i7 _ _ _ (.inl q)⟩
 refine Re (TH A hr) (KX _ _ lk) rfl S.co S.gen rfl (jh KX MT) (hb _ _ _ _ ?_);refine KE S.kind M3 λenv he s1 x=>?_
 subst he;refine⟨lim.keeps x.toInCall.keep,È ?_⟩;obtain⟨t,ht,hq⟩:=MN Me A outer s H vs Q E hr NT;have e1:zf P w K mg base { A with handled:=η } outer s H:=⟨e0.frames,e0.mod,e0.bs,e0.Oo,e0.MJ,e0.OV,e0.Mc,e0.bare⟩;have J:Inv (cB CX P w K mg base N qual (aB st) f Me { A with handled:=η } outer s H E) [] (L2.start N vs) H s1:=mU S rfl e1 hl r x;have I:Inv (loud (cB CX P w K mg base N qual (aB st) f Me A outer s H E)) [] (L2.start N vs) H s1 :=
  ⟨⟨J.ok.mod,J.ok.kind,J.ok.glob,J.ok.blt,J.ok.above,J.ok.inj,J.ok.has,J.ok.O1,λz=>(by cases z),Ē e0.frames,J.ok.PL,J.ok.QO,J.ok.bs,J.ok.Oo,J.ok.Nf,J.ok.Nj,J.ok.MJ,J.ok.OV⟩,J.os,J.bare,J.base,J.loc,J.cell,J.free,J.Mn,J.pin,J.Mc,J.len⟩
 refine Θ (ht [] s1 (L2.start N vs) H _ I hq) (λfl s' hs=>?_) λe s' hs=>hs
 have fin:∀{σ':L2.St}{H':Hp}{v:V}{u:Value},Inv (loud (cB CX P w K mg base N qual (aB st) f Me A outer s H E)) [] σ' H' s'->RelV v u->Q v H'->CE outer P w H s Q u s' :=
  λ{σ' H' v u} J rv q=>⟨v,H',J.os,J.bare,J.base,J.Mc,rv,q⟩
 cases fl with
 |ret u=>
  obtain⟨v,σ',H',J,rv,q⟩:=hs;exact fin J rv q
 |next=>
  obtain⟨σ',H',J,q⟩:=hs;exact fin (v:=V.Mh) (u:=bn) J rfl q
 |brk=>
  obtain⟨_,_,_,q⟩:=hs;exact Φ q
 |cont=>
  obtain⟨_,_,_,q⟩:=hs;exact Φ q
end
section
variable {X:Cx}
theorem C1 {RP:Ρ->Prop}{y:Str}(F:fT X.prog X.w X.K X.mg X.base tU RP f fd ps sp)(hr:RP X.A)(hg:Gl X y)(hm:X.mg y=θ (.ref f))(hk:kt X.K (.ref f)=ζ)(hb:Binds X.K fd ps [])
  (ha:PA X (e::es) t) (Ol:(y==("__debug__" : Str))=ε:=by decide) (he:Ι (e::es) X.env=(ε,eval e X.env)::Ι es X.env:=by rfl) (MP:(Pi pos (Ι es X.env)).any (·.1)=ε:=by rfl) :
  PE X (.Call (.Name y p) (e::es) [] pos) (λσ H Q=>t σ H λvs H1=>sp vs H1 Q E0):=by
 intro pins s σ H Q I h;refine wP (fN I hg hm ?_ Ol);refine i3 (h₀:=X.base) I.ok.mod.Mm hk (Θ (ha pos pins s σ H _ I h) (λus s1 ⟨vs,H1,I1,r,q⟩=>⟨I1.MX,?_⟩) λ_ _ z=>z) he MP;have hl:us.length=ps.length:=by rw[<-r.length];exact F.len _ _ _ _ q
 refine SC (ZA (F.run X.A X.stack s1 H1 ⟨us,[]⟩ us vs Q _ hr I1.env0 (by have:=hb s1 us I1.MX (by simpa using hl);simpa using this) r q) λr s' hq=>?_);cases r with
 |error e=>exact (show False from hq).elim
 |ok fl=>
  cases fl with
  |ret u=>exact I1.after hq
  |next=>exact Φ hq
  |brk=>exact Φ hq
  |cont=>exact Φ hq
end
noncomputable def wM:D->Option Nat
 |.int (.ofNat n)=>if n<2 ^ 64 then θ n else η
 |_=>η
section
variable {X:Cx}{S:Sc}{T:Tb}{W:Nat->Hp->Prop}
theorem PA.MH (h:PA X.MH es t):PA X es t:=λpos pins s σ H Q I hw=>
 Θ (h pos pins s σ H Q (I.MI _) hw) (λus s1 ⟨vs,H1,I1,r,q⟩=>⟨vs,H1,I1.Mf,r,q⟩) λ_ _ z=>z.elim
theorem PG.MH {t:TG}(h:PG X.MH e t):PG X e t:=λpins s σ H v u Q I r hw=>
 Θ (h pins s σ H v u Q (I.MI _) r hw) (λus s1 ⟨σ1,H1,I1,q⟩=>⟨σ1,H1,I1.Mf,q⟩) λ_ _ z=>z.elim
theorem PI.MH {tg:Expr}{t:TI}(h:PI X.MH tg e t):PI X tg e t:=λpins s σ H R I hw=>
 Θ (h pins s σ H R (I.MI _) hw) (λv s1 h1=>Θ h1 (λRU s2 ⟨it,fp,tn,J,H',e1,I2,T2,e2,e3,e4⟩=>⟨it,fp,tn,J,H',e1,I2.Mf,T2,e2,e3,e4⟩) λ_ _ z=>z.elim) λ_ _ z=>z.elim
theorem Az {d:D}(h:wM d=θ k):d=.int (k:Int)/\k<2 ^ 64:=by
 unfold wM at h;split at h
 .split at h
  .rename_i z;cases h;exact⟨rfl,z⟩
  .cases h
 .cases h
end
section
variable {p:Pg}{P:Program}{w:Ξ}{K:Frag}{mg:Str->Option Value}{base:Heap}
end
section
variable {T:Tb}{Rn:Nat->D×Bool->Prop}{h:Ex->Ex}
end
section
variable {x:Str}{fq:Bool}{P:Program}{w:Ξ}{K:ψ}{mg:Str->Option Value}{base:Heap}{N:List Str}{qual:Str}{scope:Scope}{f:Addr}{cd:Value}{A:Ρ}{outer:List ù}{s:μ}{H:Hp}{E:XK}{pins:List (Addr×Obj)}{σ:L2.St}
theorem Aq {e:Value}(h:nU fq x (cB (nS fq x P w) P w K mg base N qual scope f cd A outer s H E) pins σ (λC n H'=>E C (θ n) H') e s1):(cB (nS fq x P w) P w K mg base N qual scope f cd A outer s H E).xe e s1:=by
 obtain⟨H0,s0,a,C,a0,H',B,n,I,rfl,e2,e3,fy,fl,at_,hE⟩:=h;obtain⟨dx,m,u,d1,d2,d3,d4,d5⟩:=at_;show Β (Ζ P w) (A.deeper (bi qual scope s.heap.objs.size f cd)) (leaving (bi qual scope s.heap.objs.size f cd) (.ref a)) _ _ _;refine onD (base:=B) (outer:=outer) I.ok.frames rfl fl d1 λh' YZ O6 dc=>?_
 have QM:=fy.next I YZ.1 (dG fl) O6;have J:=QM.inv (g':=s1.gens) (d':=s1.drawn) (t':=s1.toks) I e3;have bs:Un (dR outer) [] H H' s.heap h':=J.base;have fr:dR (bi qual scope s.heap.objs.size f cd::outer)=s.heap.objs.size::dR outer:=rfl;refine⟨a,C,a0,H',B,n,rfl,e2.trans I.os,e3,bs,J.Mc,YZ,λb o e=>?_,⟨dx,m,u,dc,O6.ns d2,d3,d4,λz=>d5 ?_⟩,hE⟩
 .rcases QM.bf b o e with z|z|⟨z1,z2⟩
  .have z:b∈s.heap.objs.size::dR outer:=z;rcases dm.mp z with z|z
   .refine .inr (.inr ⟨?_,QM.OW I b (show b∈s.heap.objs.size::dR outer by rw[z];exact ag)⟩);cases q:s.heap.get? b with
    |none=>rfl
    |some o0=>exact absurd z (a8 (Α q))
   .exact .inl z
  .exact .inr (.inl z)
  .refine .inr (.inr ⟨?_,z2⟩);cases q:s.heap.get? b with
   |none=>rfl
   |some o0=>
    obtain⟨o1,q1⟩:=I.base.there b o0 q (by simp[cB]);rw[z1] at q1;cases q1
 .show dx∈s.heap.objs.size::dR outer;exact aa _ z
end
section
variable {x:Str}{fq:Bool}{P:Program}{w:Ξ}{K:ψ}{mg:Str->Option Value}{base:Heap}{N:List Str}{qual:Str}{scope:Scope}{f:Addr}{cd:Value}{A:Ρ}{outer:List ù}{s:μ}{H:Hp}{E:XK}
theorem B8:kT (nS fq x P w) (cB (nS fq x P w) P w K mg base N qual scope f cd A outer s H E) (λC o H'=>∃n,o=θ n/\E C (θ n) H'):=by
 intro pins σ H1 s1 e s' I hq;obtain⟨a,C,a0,H',B,n,e1,e2,e3,e4,e5,e6,e7,e8,n',e9,PB⟩:=hq;cases e9;exact Aq ⟨H1,s1,a,C,a0,H',B,n,I,e1,e2,e3,⟨e4,e5,e7⟩,e6,e8,PB⟩
end
section
variable {X:Cx}{CX:rG}{RP:Ρ->Prop}{f:Addr}{fd:io}{ps:List Str}{sp:Sp}{E:XK}
theorem Ek {σ:L2.St}{us:List Value}(F:fT X.prog X.w X.K X.mg X.base CX RP f fd ps sp)(hr:RP X.A)(hb:Binds X.K fd ps [])(hx:kT CX X E)(I:Inv X pins σ H s)(r:aK vs us)(h:sp vs H Q E) :
  Β (Ζ X.prog X.w) X.A (call (.ref f) us) (EP X pins σ Q) X.xe s:=by
 have hl:us.length=ps.length:=by rw[<-r.length];exact F.len _ _ _ _ h
 have Ng:=hb s us I.MX (by rw[aw];exact hl);rw[aw] at Ng;refine SC (ZA (F.run X.A X.stack s H ⟨us,[]⟩ us vs Q E hr I.env0 Ng r h) λr s' hq=>?_);cases r with
 |error e=>exact hx pins σ H s e s' I hq
 |ok fl=>
  cases fl with
  |ret u=>exact I.after hq
  |next=>exact Φ hq
  |brk=>exact Φ hq
  |cont=>exact Φ hq
theorem BZ (F:fT X.prog X.w X.K X.mg X.base CX RP f fd ps sp)(hr:RP X.A)(hg:Gl X y)(hm:X.mg y=θ (.ref f))(hk:kt X.K (.ref f)=ζ)(hb:Binds X.K fd ps [])(hx:kT CX X E)(ha:PA X (e::es) t)
  (Ol:(y==("__debug__" : Str))=ε:=by decide) (he:Ι (e::es) X.env=(ε,eval e X.env)::Ι es X.env:=by rfl) (MP:(Pi pos (Ι es X.env)).any (·.1)=ε:=by rfl) :
  PE X (.Call (.Name y p) (e::es) [] pos) (λσ H Q=>t σ H λvs H1=>sp vs H1 Q E):=by
 intro pins s σ H Q I h;refine wP (fN I hg hm ?_ Ol);refine i3 (h₀:=X.base) I.ok.mod.Mm hk (cI (ha pos pins s σ H _ I h) λus s1 ⟨vs,H1,I1,r,q⟩=>⟨I1.MX,?_⟩) he MP;exact Ek F hr hb hx I1 r q
end
section
variable {M:Ě}{A:Ρ}{E:Value->μ->Prop}{s:μ}{env:ù}{ec:EC}{C:Addr}{bm:List Value}{hdct:Bool}{newId:String}
noncomputable abbrev Bq (C t0 dx a:Addr):Obj:={ cls:=.ref C,dict:=θ dx,data:=.fields #[.ref t0,.none,.ref a,.none,.bool ζ,.none] }
theorem wt {prog:Program}{y c:o? Value}{a:Addr}{Q:Flow->μ->Prop}(MO:bm.contains (.type "BaseException")=ζ) (hh:A.handled=θ (.ref a))
  (h:Β (Ζ prog w) A y (λv s₁=>∃e t dx oa va,v=.ref e/\s₁.heap.get? C=θ (ec.o C bm hdct newId)/\s₁.heap.get? e=θ (zA C t dx)/\e≠a/\C≠e/\s₁.heap.get? a=θ oa/\oa.data=.fields va/\va[2]? = θ .none /\
   ∀h',h'.get? e=θ (Bq C t dx a)->(∀b,b≠e->h'.get? b=s₁.heap.get? b)->E (.ref e) { s₁ with heap:=h' }) E s)
  (hc:∀(Q':Value->μ->Prop) s₁,Q' .none s₁->Β (Ζ prog w) A c Q' E s₁) :
  Β (Ζ prog w) A (ŀ env (θ y) (θ c)) Q E s:=by
 have OS:(Γ C::bm).contains (.type "BaseException")=ζ:=by rw[dk,MO,ð]
 unfold ŀ;refine ν (Θ h (λv s₁ h₁=>?_) λ_ _ z=>z);obtain⟨e,t,dx,oa,va,rfl,hC,he,YG,hCe,ha,OQ,hv2,hE⟩:=h₁;obtain⟨hp,g,d,tk,os⟩:=s₁;refine ν (xL (hc _ _ (ν (Μ ?_))));refine ν (xL ?_);unfold excFromValue
 repeat (first|with_reducible refine Ε he ?_|with_reducible refine Ε hC ?_ | (with_reducible refine ge hC ?_;rw[OS])|wp_step)
 have P1:=Ω (kw λx=>x.setIfInBounds 4 (Ch ζ)) (Ω (kw λx=>x.setIfInBounds 3 bn) he rfl) rfl;have ot:∀b,b≠e->((hp.update e (kw λx=>x.setIfInBounds 3 bn)).update e (kw λx=>x.setIfInBounds 4 (Ch ζ))).get? b=hp.get? b:=λb hb=>(Λ _ _ (bw hb)).trans (Λ _ _ (bw hb))
 generalize ((hp.update e (kw λx=>x.setIfInBounds 3 bn)).update e (kw λx=>x.setIfInBounds 4 (Ch ζ)))=h2 at P1 ot ⊢;unfold raiseNew;refine ν (wpAny_handled ?_);rw[hh];dsimp only;rw[if_pos (show (Γ a != Γ e)=ζ by simpa using bw YG)];have ha2:h2.get? a=θ oa:=(ot a (bw YG)).trans ha;refine ν (xL (wpAny_runValue (WF (show entryFor table "proto.unchain" = θ ë.«proto.unchain» from entryFor_of_tree (by kernel_rfl)) ?_)));unfold ë.«proto.unchain»;refine ν (UV ha2 OQ hv2 ?_);rw[if_pos (by rfl)];refine ν (Μ (Μ ?_));refine ν ?_;unfold updateField;have So:h2.get? e=θ { cls:=.ref C,dict:=θ dx,data:=.fields #[.ref t,.none,.none,.none,.bool ζ,.none] }:=P1;clear P1 he;refine ν (wpAny_load So ?_);dsimp only;rw[if_pos (show 2<(#[Γ t,bn,bn,bn,Ch ζ,bn]:Array Value).size from (by decide:(2:Nat)<6))];have hx:=Ω (kw λx=>x.setIfInBounds 2 (Γ a)) So rfl;exact wpAny_update So (wpAny_throw (hE _ hx λb hb=>(Λ _ _ (bw hb)).trans (ot b hb)))
end
theorem vB {N:List Str}
  {σ:L2.St}{s1:μ}{h2:Heap}{tk:Nat}{a1 t1 dx C:Addr}{n:Nat}{u:Þ}(I:Inv (cB (nS ε x P w) P w K mg base N qual scope f cd A outer s H E) pins σ H1 s1) (PZ:s1.heap.get? a=η) (he:h2.get? a=θ (Bq C t1 dx a1))
  (hm:∃m,h2.Ns dx m/\m x=θ (.int n u)) (Pb:s1.heap.get? dx=η) (kp:∀b o,s1.heap.get? b=θ o->h2.get? b=θ o) (hE:E (.ref C) (θ n) H1) :
  notedBy (Ζ P w) ((cB (nS ε x P w) P w K mg base N qual scope f cd A outer s H E).A.mark (θ (.ref a1))) (cB (nS ε x P w) P w K mg base N qual scope f cd A outer s H E).env (cameBackBy (Ζ P w) (cB (nS ε x P w) P w K mg base N qual scope f cd A outer s H E).A (cB (nS ε x P w) P w K mg base N qual scope f cd A outer s H E).env (cB (nS ε x P w) P w K mg base N qual scope f cd A outer s H E).xe) (.ref a) { s1 with heap:=h2,toks:=tk }:=by
 have OK:=I.stack;have Py:∀env∈(bi qual scope s.heap.objs.size f cd::outer),∀b,env.frame=θ b->b∈dR (bi qual scope s.heap.objs.size f cd::outer):=λenv he b hb=>KM.mpr ⟨env,he,hb⟩
 have Q4:∀b,s1.heap.get? b=η->(pc s1.heap (dR (bi qual scope s.heap.objs.size f cd::outer))).get? b=η:=λb hb=>by
  cases z:(pc s1.heap (dR (bi qual scope s.heap.objs.size f cd::outer))).get? b with
  |none=>rfl
  |some o=>have:=i0 _ z;rw[hb] at this;cases this
 have ef:(bi qual scope s.heap.objs.size f cd).frame=θ s.heap.objs.size:=rfl;show Β (Ζ P w) ((A.deeper (bi qual scope s.heap.objs.size f cd)).mark (θ (.ref a1))) (ê (.ref a) (bi qual scope s.heap.objs.size f cd)) _ _ _;unfold ê;simp only[ef];refine ν (UV (o:=Bq C t1 dx a1) he rfl (show #[Γ t1,.none,.ref a1,.none,.bool ζ,.none][1]? = θ bn from rfl) ?_);rw[if_neg (by decide)];refine vv (base:=pc s1.heap (dR (bi qual scope s.heap.objs.size f cd::outer))) (s:={ s1 with heap:=h2,toks:=tk }) (outer:=outer) (od:=(θ dx,ε)) I.ok.frames ((Ý OK Py).of_keeps λb o hb _=>⟨o,kp b o hb,rfl⟩) ef he
  (λb o q=>kp b o (i0 _ q)) (Q4 a PZ) rfl (show (1:Nat)<6 by decide) (show #[Γ t1,.none,.ref a1,.none,.bool ζ,.none][0]? = θ (Γ t1) from rfl) ⟨_,he,rfl,λz=>by cases z⟩ λg ⟨n1,n2,n3,n4⟩ dc=>?_
 show Β (Ζ P w) (A.deeper (bi qual scope s.heap.objs.size f cd)) _ _ _ _;have n3':=n3;obtain⟨ob,ws,T,oT,ts,e1,e2,e3,e4,e5,e6,e7,e8,e9⟩:=n3;refine ν (UV e1 e3 e4 ?_);rw[if_neg (show ¬ ((Γ T==bn)=ζ) from by simp)];refine xn (s:={ s1 with heap:=g,toks:=tk }) (θ s.heap.objs.size) n1 n2 n3' dc λg2 m1 m2 m3 m4 m5=>?_
 show Β (Ζ P w) (A.deeper (bi qual scope s.heap.objs.size f cd)) (leaving (bi qual scope s.heap.objs.size f cd) (.ref a)) _ _ _;unfold leaving;refine ν (wpAny_noteFrame_againW ef m3 ?_);refine lH (s:={ s1 with heap:=g2,toks:=tk }) m1 m2 m3 m5 λh' k1 k2 k3 k4 k5=>?_
 have fl:wn (pc s1.heap (dR (bi qual scope s.heap.objs.size f cd::outer))) outer a (.ref C) (.ref t1) h':=⟨k1,Q4 a PZ,by obtain⟨_,_,z⟩:=k2;exact z,k3⟩;have O6:h2.UpToSlots h':=λb o q nf=>by
  obtain⟨sl,q1⟩:=n4 b o q nf;exact⟨sl,k4 b _ (m4 b _ q1 nf) nf⟩
 obtain⟨r1,r2,r3⟩:=qK I kp fl O6;obtain⟨m,y1,y2⟩:=hm;refine⟨a,.ref C,.ref t1,H1,_,n,rfl,I.os,I.bare,r1,r2,fl,r3,⟨dx,m,u,k5,O6.ns y1,y2,Q4 dx Pb,λz=>?_⟩,hE⟩;obtain⟨_,o,e1,_⟩:=OK.mem (b:=dx) (show dx∈s.heap.objs.size::dR outer from aa _ z);rw[Pb] at e1;cases e1
variable {kk:Nat}{kp Yg rp:No}{qI:Str}
section
variable {x:Str}{P:Program}{w:Ξ}{K:ψ}{mg:Str->Option Value}{base:Heap}{N:List Str}{qual:Str}{scope:Scope}{f:Addr}{cd:Value}{A:Ρ}{outer:List ù}{s:μ}{H:Hp}{E:XK}{pins:List (Addr×Obj)}{σ:L2.St}{W:Value->Nat->Hp->Prop}{D:Ends}
theorem Ck {s₀:μ}{X:Cx}(hX:X=cB (nS ε x P w) P w K mg base N qual scope f cd A outer s H E)(ok:X.Ok){cS:Addr}{t:TA}
  (hg:Gl X y) (hm:X.mg y=θ (.ref C)) (qD:pY X.K C=ζ) (k:uV X.K X.mg S x qI C cS fI NV stI) (Ss:A.depth+2<recursionLimit)
  (ha:∀a o,PA (iW X a o) [e] t) (hw:∀(C':Value) n H',W C' n H'->C'=.ref C/\t σ H' λvs XG=>∃n:Nat,vs=[.int n]/\n<2 ^ 64/\E (.ref C) (θ n) XG)
  (he:Ι [e] X.env=[(ε,eval e X.env)]) (qC:kS X.K C=ζ) (ov:dQ X.K C C=ζ) (hd:(y==("__debug__" : Str))=ε)
  (hb:Β (Ζ X.prog X.w) X.A (Ż body X.env) (SP X pins D) (nU ζ x X pins σ W) s₀) :
  Β (Ζ X.prog X.w) X.A (exec (.Try body [.ExceptHandler (θ (.Name y np)) η [.Raise (θ (.Call (.Name y Yg) [e] [] cpos)) (θ (.Constant .none kk kp)) rp] hp] [] [] pos) X.env) (SP X pins D) X.xe s₀:=by
 have hs:X.stack=X.env::X.outer:=by subst hX;rfl
 have hf:X.env.frame=θ X.env.locals:=by subst hX;rfl
 refine Ù (Θ hb (λf s1 h1=>?_) λe' s1 h1=>?_)
 .cases f with
  |next=>exact Μ h1
  |brk=>exact h1
  |cont=>exact h1
  |ret u=>exact h1
 obtain⟨H0,s0,a,C',a0,H',B,n,I0,rfl,ho,Sw,F1,f1,Mv,w1⟩:=h1;obtain⟨rfl,Vb⟩:=hw C' n H' w1;obtain⟨dx,m,u,WU,Yf,mx,nB,RH⟩:=Mv;have SG:=f1;rw[hs] at SG;refine AN (by rw[ok.frames,hs]) hf SG WU λh2 g2 u2 WT=>?_
 rw[<-hs] at g2;have F2:=F1.next I0 g2.1 (dG f1) u2;refine A4 g2 WT λh3 f3 u3 WS=>?_
 have F3:=F2.next I0 f3.1 (m6 g2) u3;have back:∀h,({ s1 with heap:=h }:μ)={ s0 with heap:=h,gens:=s1.gens,drawn:=s1.drawn,toks:=s1.toks }:=λh=>by
  cases s1;cases s0;cases ho;rfl
 have I3:Inv X pins σ H' { s1 with heap:=h3 }:=by
  rw[back];exact F3.inv I0 Sw
 refine ŭ (Ŕ (fN (X:=markX X a) (uA I3 a ok.frames) hg hm ?_ hd)) (by intro q;cases q);obtain⟨P9,Pf,M4,nI',hD,hB⟩:=uf I3.MX qD;obtain⟨ec,bm,hdct,nI,hC⟩:=j5 I3.MX qC;obtain⟨oe,hoe,VZ⟩:=f3.there;refine nh hC hD hoe VZ hB ?_;rw[ue I3.MX hC ov];refine codeAny_handlers_suite (AM f3 WS λh4 f4 u4 WR=>?_);have F4:=F3.next I0 f4.1 (dG f3) u4;have I4:Inv X pins σ H' { s1 with heap:=h4 }:=by
  rw[back];exact F4.inv I0 Sw
 obtain⟨o4,QV,e5,c5,d5,_⟩:=f4.first;have ctx:QV[2]? = θ .none:=by
  obtain⟨o',q1,q2,q3⟩:=WR;rw[e5] at q1;cases q1;obtain⟨ws,q4,q5⟩:=q3 rfl;rw[d5] at q4;cases q4;exact q5
 have ME:a∉dR X.stack:=λz=>by
  obtain⟨o',e',NB⟩:=dG f4 a z;rw[e5] at e';cases e';exact NB QV d5
 have OM:H' a=η:=by
  rcases F4.bf a o4 e5 with z|z|z
  .exact absurd z ME
  .rw[f4.2.1] at z;cases z
  .exact z.2
 have QB:dR X.stack=X.env.locals::X.fs:=by
  rw[hs];unfold dR;rw[iu,hf];rfl
 rw[QB] at ME;have P4:Inv (iW X a o4) pins σ H' { s1 with heap:=h4 }:=qv I4 a o4 ok.frames ⟨e5,OM,λz=>ME (by rw[z];exact ag),λz=>ME (aa _ z),λv z=>by rw[d5] at z;cases z⟩;refine ww (Θ (Q:=λ_ _=>False) ?_ (λ_ _ z=>z.elim) λ_ _ z=>z);rw[o_];simp only[evalOpt,c?];obtain⟨bmI,FI⟩:=jB I4.ok.mod.Mm k.cls;obtain⟨eI,mN,hCI,hNI,MB,hi⟩:=FI.ex;refine ν (EQ (wt (C:=C) (ec:=eI) (bm:=bmI) (hdct:=ζ) (newId:="ValueError.__new__") (a:=a)
  (FI.tail.hasType (show jz.contains (.type "BaseException")=ζ by decide)) rfl ?_ λQ' s₁ hq=>?_))
 rotate_left
 .exact ν (wpAny_Constant_none (ν (EQ (Μ hq))))
 refine ν (Θ (xY (X:=iW X a o4) (W:=λn XG=>E (.ref C) (θ n) XG) (by subst hX;exact Ss) hg hm k (ha a o4) P4 Vb he hd) (λv s3 h3=>ν (EQ (Μ ?_))) λ_ _ z=>z.elim);obtain⟨s5,H1,h',tk,a2,t1,Wx,n2,u2',rfl,rfl,hW,I5,y1,y2,y3,y4,y5⟩:=h3;have Yx:s5.heap.get? a=θ o4:=(I5.pin (a,o4) ag).1;have I6:=fF I5 ok;have YR:=I6.bk _ _ hCI;refine⟨a2,t1,Wx,o4,QV,rfl,y5 _ _ YR,y2,λz=>(by rw[z,Yx] at y1;cases y1),λz=>(by rw[<-z,YR] at y1;cases y1),y5 _ _ Yx,d5,ctx,λh6 z1 z2=>?_⟩;have dne:Wx≠a2:=λz=>by
  obtain⟨m',q1,q2⟩:=y3;obtain⟨o',es,ep,q3,q4,_⟩:=q1;rw[z,y2] at q3;cases q3;cases q4
 subst hX;refine vB (s1:=s5) (h2:=h6) (tk:=tk) (n:=n2) (u:=u2') (dx:=Wx) (C:=C) (t1:=t1) I6 y1 z1 ?_ y4 (λb o q=>(z2 b λz=>by rw[z,y1] at q;cases q).trans (y5 b o q)) hW;obtain⟨m',⟨o',es,ep,q3,q4⟩,q2⟩:=y3;exact⟨m',⟨o',es,ep,(z2 _ dne).trans q3,q4⟩,q2⟩
end
structure fY (j k:Nat)(A:Ρ):Prop where
 hd:A.handled=η
 dp:A.depth+j+5*k+6<recursionLimit
 un:A.units+3*j+16*k+203<cLine
theorem fY.zero (r:fY 0 k A):xN k A:=⟨r.hd,by have:=r.dp;omega,by have:=r.un;omega⟩
variable {j:Nat}
theorem fY.deeper (r:fY (j+1) k A)(env:ù):fY j k (A.deeper env) :=
 ⟨r.hd,by have:=r.dp;show A.depth+1+j+5*k+6<_;omega,by have:=r.un;show A.units+3+3*j+16*k+203<_;omega⟩
theorem fY.room (r:fY (j+1) k A)(env:ù):gQ k (A.deeper env) :=
 ⟨r.hd,by have:=r.dp;show A.depth+1+5*k+5<_;omega,by have:=r.un;show A.units+3+16*k+200<_;omega⟩
theorem fY.of (r:gQ (k+1) A)(hj:j<=3)(env:ù):fY j k (A.deeper env) :=
 ⟨r.hd,by have:=r.dp;show A.depth+1+j+5*k+6<_;omega,by have:=r.un;show A.units+3+3*j+16*k+203<_;omega⟩
section
variable {X:Cx}{pins:List (Addr×Obj)}{σ:L2.St}{H:Hp}{s:μ}{D:Ends}
theorem As {E':Value->μ->Prop}{Q:VK}(h:Β (Ζ X.prog X.w) X.A (eval e X.env) (EP X pins σ Q) E' s)(hq:∀v H',Q v H'->D.rt v H') :
  Β (Ζ X.prog X.w) X.A (Ż [.Return (θ e) pos] X.env) (SP X pins D) E' s:=by
 refine ww (Θ (Q:=SP X pins D) (Ž (Θ h (λv s1 ⟨x,H1,I1,r1,q1⟩=>⟨x,σ,H1,I1,r1,hq _ _ q1⟩) λ_ _ z=>z)) (λf s1 q=>?_) λ_ _ z=>z);cases f with
 |next=>exact Db q
 |ret v=>exact q
 |brk=>exact q
 |cont=>exact q
end
noncomputable def vW (g:List D->Option ((D×Bool) ⊕ Nat))(ds:List D):Option ((D×Bool) ⊕ Nat):=match g (ds.take 3) with
 |some (.inl r)=>θ (.inl r)
 |some (.inr _)=>(ds[3]?.bind wM).map .inr
 |none=>η
section
variable {P:Program}{w:Ξ}{K:ψ}{mg:Str->Option Value}{base:Heap}
theorem DI {nm g a b c d:Str}{f' cS:Addr}{OX:io}{X6:List Str}{g0:List D->Option ((D×Bool) ⊕ Nat)}{p1 p2 p3 cp np' p4 Pl:No}
  (F:L2.sf K nm nm st f fd) (Sc:bQ [a,b,c,d] [a,b,c,d] (aB st))
  (hb:aV st=[.Try [.Return (θ (.Call (.Name g np) [.Name a p1,.Name b p2,.Name c p3] [] cp)) rp] [.ExceptHandler (θ (.Name y np')) η [.Raise (θ (.Call (.Name y Yg) [.Name d p4] [] cpos)) (θ (.Constant .none kk kp)) Pl] hp] [] [] pos])
  (FR:fT P w K mg base (nS ζ x P w) (fY j k) f' OX X6 (BY K 3 C g0)) (kp':kt K (.ref f')=ζ) (B':Binds K OX X6 []) (Oi:mg g=θ (.ref f')) (VQ:(aB st).names.lookup g=θ .globalImplicit)
  (hg:(aB st).names.lookup y=θ .globalImplicit) (hm:mg y=θ (.ref C)) (qD:pY K C=ζ) (ik:uV K mg S x qI C cS fI NV stI) (qC:kS K C=ζ) (ov:dQ K C C=ζ) (hd:(y==("__debug__" : Str))=ε) (NB:(g==("__debug__" : Str))=ε)
  (va:yj (aB st) a/\(a==("__debug__" : Str))=ε/\(a==("__classdict__" : Str))=ε) (vb:yj (aB st) b/\(b==("__debug__" : Str))=ε/\(b==("__classdict__" : Str))=ε) (vc:yj (aB st) c/\(c==("__debug__" : Str))=ε/\(c==("__classdict__" : Str))=ε) (vd:yj (aB st) d/\(d==("__debug__" : Str))=ε/\(d==("__classdict__" : Str))=ε) :
  fT P w K mg base (nS ε x P w) (fY (j+1) k) f fd [a,b,c,d] (BY K 4 C (vW g0)):=by
 refine tw F Sc (λA r=>⟨r.hd,by have:=r.dp;omega⟩) (λvs H Q E h=>rK h) λMe A outer s H vs Q E hr hs=>?_
 obtain⟨ds,G,hlen,rs,hk⟩:=hs;obtain⟨d1,d2,d3,d4,rfl⟩:∃d1 d2 d3 d4,ds=[d1,d2,d3,d4]:=by
  match ds,hlen with
  |[d1,d2,d3,d4],_=>exact⟨d1,d2,d3,d4,rfl⟩
 cases rs with
 |@cons _ v1 _ _ G1 _ r1 rs=>
 cases rs with
 |@cons _ v2 _ _ G2 _ r2 rs=>
 cases rs with
 |@cons _ v3 _ _ G3 _ r3 rs=>
 cases rs with
 |@cons _ v4 _ _ G4 _ r4 rs=>
 cases rs;rw[hb];refine⟨λD σ H1=>σ=[θ v1,θ v2,θ v3,θ v4]/\H1=H/\∀v H',Q v H'->D.rt v H',?_,rfl,rfl,λ_ _ z=>z⟩;intro pins s1 σ H1 D I ⟨hσ,hH,hD⟩;subst hσ hH;refine ww (Θ (Q:=SP _ pins D) (Ck (W:=λC' n H'=>C'=.ref C/\aG H1 H'/\∃m,g0 [d1,d2,d3]=θ (.inr m)) (t:=cK (qd 3) mO) rfl I.ok hg hm qD ik (by have:=hr.dp;omega) (λa' o=>aM (pv 3 rfl vd.1 vd.2.1 vd.2.2) cY) (λC' n H' ⟨e1,sm,m,e2⟩=>⟨e1,?_⟩) rfl qC ov hd
  (As (Q:=Q) (qH FR (hr.deeper _) VQ Oi kp' B' .nil I (aM (pv 0 rfl va.1 va.2.1 va.2.2) (aM (pv 1 rfl vb.1 vb.2.1 vb.2.2) (aM (pv 2 rfl vc.1 vc.2.1 vc.2.2) cY))) ⟨v1,rfl,v2,rfl,v3,rfl,?_⟩ NB) hD)) (λfl s2 q=>?_) λ_ _ z=>z)
 .have e3:vW g0 [d1,d2,d3,d4]=(wM d4).map .inr:=by
   unfold vW;rw[show o! 3 [d1,d2,d3,d4]=[d1,d2,d3] from rfl,e2];rfl
  rw[e3] at hk;cases hn:wM d4 with
  |none=>rw[hn] at hk;exact hk.elim
  |some n4=>
   rw[hn] at hk;obtain⟨rfl,Mx⟩:=Az hn;obtain⟨rfl,_⟩:=r4.int_inv;exact⟨_,rfl,n4,rfl,Mx,hk _ sm⟩
 .refine⟨[d1,d2,d3],_,rfl,.cons r1 (.cons r2 (.cons r3 .nil)),?_⟩;unfold vW at hk;rw[show o! 3 [d1,d2,d3,d4]=[d1,d2,d3] from rfl] at hk;cases hq:g0 [d1,d2,d3] with
  |none=>rw[hq] at hk;exact hk
  |some z=>
   cases z with
   |inr m=>exact λH' sm=>⟨m,rfl,rfl,sm,m,rfl⟩
   |inl r=>
    rw[hq] at hk;intro v H' G' sm rp hz hf;refine hk v H' G' sm rp (λa' ha=>(hz a' ha).imp id λh=>?_) hf;simp only[ig] at h ⊢;rcases h with h|h|h|h
    .exact .inl h
    .exact .inr (.inl h)
    .exact .inr (.inr (.inl h))
    .cases h
 .cases fl with
  |next=>exact Db q
  |ret u=>exact q
  |brk=>exact q
  |cont=>exact q
end
end Pc
end
section
namespace Pc.Fx
open PySem PySem.Spec PyProof.Rows L2 Pc
inductive Rx where
 |nil
 |st (c:St) (r:Rx)
 |SI (i:Nat) (cs:kE) (r:Rx)
 |US (t:md) (it:qc) (b r:Rx)
inductive Ro where
 |fl (f:Fl)|rs (n:Nat)
noncomputable def l9 (t:md)(R:List Nat)(b:En->Ro):List D->En->Ro
 |[],env=>.fl (.nx env)
 |d::r,env=>match bP R t d env with
  |none=>.fl .bad
  |some env'=>match b env' with
   |.fl (.nx e)=>l9 t R b r e
   |.fl (.ct e)=>l9 t R b r e
   |.fl (.bk e)=>.fl (.nx e)
   |x=>x
noncomputable def Ub (R:List Nat)(env:En)(k:En->Ro):Ro->Ro
 |.fl (.nx e)=>k (unlock R env e)
 |x=>x
noncomputable abbrev Gv:=List D->Option ((D×Bool) ⊕ Nat)
noncomputable def Yd (k:En->Ro):Fl->Ro
 |.nx e=>k e
 |_=>.fl .bad
noncomputable def kD (T:Tb)(g:Gv):Rx->En->Ro
 |.nil,env=>.fl (.nx env)
 |.st c r,env=>match bH T c env with
  |.nx e=>kD T g r e
  |f=>.fl f
 |.SI i cs r,env=>match aR T cs env with
  |.ok l=>(match g (l.map (·.1)) with
   |some (.inl q)=>Yd (kD T g r) (rR (.nm i) ε env (q.1,if q.2 then .mv [] else .sh (aO (l.map (·.2)))))
   |some (.inr k)=>.rs k
   |none=>.fl .bad)
  |_=>.fl .bad
 |.US t it b r,env=>match iL T it env with
  |.ok p=>Ub p.2 env (kD T g r) (l9 t p.2 (kD T g b) p.1 (lock p.2 env))
  |_=>.fl .bad
noncomputable def eV (K:Frag)(P Z:Addr->Prop)(env:En)(F:Nat->List Addr)(H:Hp)(D:Ends)(W:Nat->Hp->Prop):Ro->Prop
 |.fl f=>post K P Z env F H D f
 |.rs n=>∀H',jV P H H'->W n H'
theorem eV.trans {K:Frag}{P Z:Addr->Prop}{e1 e2:En}{F1 F2:Nat->List Addr}{H1 H2:Hp}{σ2:L2.St}{D:Ends}{W:Nat->Hp->Prop}(a:After K P Z e1 F1 H1 e2 σ2 H2 F2):∀{f:Ro},eV K P Z e1 F1 H1 D W f->eV K P Z e2 F2 H2 D W f
 |.fl _,h=>post.trans a h
 |.rs _,h=>λH' e=>h H' (a.ev.trans e)
def tX (K:Frag)(T:Tb)(g:Gv)(W:Nat->Hp->Prop)(r:Rx):TS:=λD σ H=>∃P Z env F,RE K P env σ H F/\(∀i,∀a∈F i,Z a)/\(∀a,¬ P a->Z a)/\eV K P Z env F H D W (kD T g r env)
variable {b l:List Stmt}{cb r:Rx}{it:qc}{ul tg:Expr}{pos:No}{st:Stmt}{t:md}
section
variable {X:Cx}{S:Sc}{T:Tb}{W:Nat->Hp->Prop}{g:Gv}
theorem nT {R:List Nat}{b:En->Ro}:∀(ds:List D) (env:En),(∀e,l9 t R b ds env≠.fl (.bk e))/\∀e,l9 t R b ds env≠.fl (.ct e)
 |[],env=>⟨λe z=>(by cases z),λe z=>(by cases z)⟩
 |d::ds,env=>by
  unfold l9;cases bP R t d env with
  |none=>exact⟨λe z=>(by cases z),λe z=>(by cases z)⟩
  |some env'=>
   simp only;cases b env' with
   |rs n=>exact⟨λe z=>(by cases z),λe z=>(by cases z)⟩
   |fl f=>cases f with
    |nx e'=>exact nT ds e'
    |ct e'=>exact nT ds e'
    |bk e'=>exact⟨λe z=>(by cases z),λe z=>(by cases z)⟩
    |rt d fr=>exact⟨λe z=>(by cases z),λe z=>(by cases z)⟩
    |bad=>exact⟨λe z=>(by cases z),λe z=>(by cases z)⟩
def tLx (K:Frag)(T:Tb)(g:Gv)(W:Nat->Hp->Prop)(t:md)(it:qc)(b:Rx):TS:=λD σ H=>∃P Z env F,RE K P env σ H F/\(∀i,∀a∈F i,Z a)/\(∀a,¬ P a->Z a)/\∃p,iL T it env=.ok p/\eV K P Z env F H D W (Ub p.2 env (λe=>.fl (.nx e)) (l9 t p.2 (kD T g b) p.1 (lock p.2 env)))
theorem GQ (hp:ZN (Ζ X.prog X.w) X.A X.env X.xe)(hc:X.calm=ζ)(hi:PI X tg ul (tI X.K T it))(hg:PG X tg (tD X.K t))(hb:hU X b (tX X.K T g W cb))(hs:∀x,Do ul X.env x=pure x) :
  PS X (.For tg ul b [] pos) (tLx X.K T g W t it cb):=by
 refine bT (Br hp hc hi hg hb hs) λD σ H ⟨P,Z,env,F,re,hz,zp,p,hp,h⟩=>?_
 refine⟨P,env,F,re,p,hp,λJ H1 G s1 rt nn wk=>?_⟩;have QS:=After.same (Z:=Z) re hz s1;have h:=eV.trans QS h;let P':Addr->Prop:=λa=>P a\/a∈G
 have wk:=wk P' λa ha=>.inr ha
 have y?:∀a∈G,∀(i:Nat) (d:Pc.D) (t:Tg),env[i]? = θ (θ (d,t))->be t=ζ->a∈F i->i∈p.2:=λa ha i d t e o m=>by
  rcases rt.cont a ha with q|⟨k,d2,t2,f,e2,sr⟩
  .exact absurd q (re.nn e m)
  .exact sr i ((re.one i d t e o).2.2 a m k d2 t2 e2 f)
 have UC:RE X.K P' (lock p.2 env) σ H1 F:=QS.re.locked nn y?;have gz:∀a∈G,Z a:=Eo re hz zp rt;have OD:∀{f:Ro},(∀e,f≠.fl (.bk e))->(∀e,f≠.fl (.ct e))->eV X.K P Z env F H1 D W (Ub p.2 env (λe=>.fl (.nx e)) f)->eV X.K P' Z (lock p.2 env) F H1 D W f:=λ{f} nb nc h=>by
  cases f with
  |rs n=>exact λH' ev=>h H' (ev.weak λ_ q=>.inl q)
  |fl f=>cases f with
   |nx e=>exact λσ' H' F' af=>h σ' H' F' (af.Nt QS.re)
   |bk e=>exact absurd rfl (nb e)
   |ct e=>exact absurd rfl (nc e)
   |rt d fr=>exact λv H' G' rp ev z f=>h v H' G' rp (ev.weak λ_ q=>.inl q) z λw=>⟨(f w).1,λa ha=>⟨λq=>((f w).2 a ha).1 (.inl q),((f w).2 a ha).2⟩⟩
   |bad=>exact h
 have h:=OD (nT _ _).1 (nT _ _).2 h;have T3:∀a,¬ P' a->Z a:=λa ha=>zp a λq=>ha (.inl q)
 refine⟨λi m σ' H'=>m=p.1.length-i/\i<=p.1.length/\∃env' F',After X.K P' Z (lock p.2 env) F H1 env' σ' H' F'/\eV X.K P' Z env' F' H' D W (l9 t p.2 (kD T g cb) (p.1.drop i) env'),⟨p.1.length,by simp,dh _,lock p.2 env,F,After.same UC hz (aG.refl _),h⟩,?_⟩;rintro i m σ2 H2 ⟨rfl,hi,OY,F2,MA,h2⟩;obtain⟨w1,w2⟩:=wk H2 MA.ev;by_cases Mx:i<p.1.length
 .right;have hd:p.1[i]? = θ p.1[i]:=by simp[Mx]
  obtain⟨g1,g2⟩:=w1 i _ hd;refine⟨g1,λσ' H'=>∃env' F',After X.K P' Z (lock p.2 env) F H1 env' σ' H' F'/\eV X.K P' Z env' F' H' D W (l9 t p.2 (kD T g cb) (p.1.drop (i+1)) env'),λσ' H' q=>⟨p.1.length-(i+1),by omega,rfl,Mx,q⟩,λx H3 y=>?_⟩;obtain⟨s3,G3,Rp,Nd⟩:=g2 x H3 y;have Ou:=After.same (Z:=Z) MA.re MA.z s3;have h2:=eV.trans Ou h2;rw[gb Mx] at h2;unfold l9 at h2;cases hb:bP p.2 t p.1[i] OY with
  |none=>rw[hb] at h2;exact h2.elim
  |some Nk=>
   rw[hb] at h2;refine pE Ou.re MA.z Rp (λa ha=>gz a (Nd a ha)) (λa ha j d' t' ej o m=>?_) hb λσ4 F4 PQ z4 UT=>?_
   .cases t' with
    |own=>exact absurd (.inr (Nd a ha)) (MA.re.wr j d' ej a m)
    |lk=>
     obtain⟨e5,e6⟩:=MA.lk j d' ej;rw[e6] at m;obtain⟨t0,e0,o0,_⟩:=fL e5;exact y? a (Nd a ha) j d' t0 e0 (o0.trans o) m
    |sh Q=>cases o
   .have SS:After X.K P' Z OY F2 H3 Nk σ4 H3 F4:=⟨PQ,z4,jV.refl _,UT⟩;refine⟨P',Z,Nk,F4,PQ,z4,T3,?_⟩;have h2:=eV.trans SS h2;have all:=(MA.trans Ou).trans SS;cases hs:kD T g cb Nk with
    |rs n=>simp only[hs] at h2;exact h2
    |fl f=>cases f with
     |nx e'=>simp only[hs] at h2;exact λσ' H' F' O4=>⟨e',F',all.trans O4,eV.trans O4 h2⟩
     |ct e'=>simp only[hs] at h2;exact λσ' H' F' O4=>⟨e',F',all.trans O4,eV.trans O4 h2⟩
     |bk e'=>simp only[hs] at h2;exact h2
     |rt d fr=>simp only[hs] at h2;exact h2
     |bad=>simp only[hs] at h2;exact h2
 .left;have e:i=p.1.length:=by omega
  subst e;rw[û] at h2;exact⟨w2,h2 σ2 H2 F2 (After.same MA.re MA.z (aG.refl _))⟩
theorem Fu:hU X [] (tX X.K T g W .nil):=fA nX λD σ H ⟨P,Z,env,F,re,hz,zp,h⟩=>h σ H F (After.same re hz (aG.refl _))
theorem pX {c:St}(hc:PS X st (tS X.K T c))(ih:hU X l (tX X.K T g W r)):hU X (st::l) (tX X.K T g W (.st c r)):=by
 refine fA (eN hc ih) λD σ H ⟨P,Z,env,F,re,hz,zp,h⟩=>⟨P,Z,env,F,re,hz,zp,?_⟩
 unfold kD at h;cases hs:bH T c env with
 |nx env'=>
  rw[hs] at h;exact λσ' H' F' af=>⟨P,Z,env',F',af.re,af.z,zp,eV.trans af h⟩
 |bk env'=>rw[hs] at h;exact h
 |ct env'=>rw[hs] at h;exact h
 |rt d fr=>rw[hs] at h;exact h
 |bad=>rw[hs] at h;exact h
theorem Hg {i n:Nat}{cs:kE}{C:Addr}{E:XK}(hc:PS X st (r9 (λσ H Q=>tF X.K T cs σ H λvs H1=>BY X.K n C g vs H1 Q E) (jZ i)))(hn:∀env l,aR T cs env=.ok l->l.length=n)(hE:∀k H',W k H'->E (.ref C) (θ k) H')(ih:hU X l (tX X.K T g W r)) :
  hU X (st::l) (tX X.K T g W (.SI i cs r)):=by
 refine fA (eN hc ih) λD σ H ⟨P,Z,env,F,re,hz,zp,h⟩=>?_
 unfold kD at h;cases hl:aR T cs env with
 |bad=>rw[hl] at h;exact h.elim
 |ok l=>
  rw[hl] at h;dsimp only at h;refine⟨P,env,F,re,l,hl,λvs H1 G ar=>?_⟩;cases hg:g (l.map (·.1)) with
  |none=>rw[hg] at h;exact h.elim
  |some o=>
   rw[hg] at h;refine⟨l.map (·.1),G,(aj ..).trans (hn _ _ hl),ar.Mp,?_⟩;rw[hg];cases o with
   |inr k=>exact λH' sm=>hE k H' (h H' (jV.of_same re.pl (ar.same.trans sm)))
   |inl q=>
    intro v H' G' s rp sub fr;dsimp only at h;have rt:bI env F H (if q.2 then .mv [] else .sh (aO (l.map (·.2)))) H' G':=by
     cases hr:q.2 with
     |true=>
      obtain⟨a,b⟩:=fr hr;have c:∀x∈G',H x=η:=λx hx=>aG.no ar.same (b x hx).1
      exact⟨λx hx=>.inl (c x hx),λR e=>⟨a,λx hx=>(b x hx).2,λx hx=>.inl (c x hx)⟩⟩
     |false=>
      refine⟨λx hx=>?_,λR e=>by cases e⟩;rcases sub x hx with q|q
      .exact .inl (aG.no ar.same q)
      .exact ar.cont x q
    cases ha:rR (.nm i) ε env (q.1,if q.2 then .mv [] else .sh (aO (l.map (·.2)))) with
    |nx e=>
     rw[ha] at h;have key:=oK (K:=X.K) (P:=P) (Z:=Z) (D:=⟨λσ' H'=>∃F',After X.K P Z env F H e σ' H' F',λ_ _=>True,λ_ _=>True,λ_ _=>True⟩) (mv:=ε) re hz zp (ar.same.trans s) rp rt (by rw[ha];exact λσ' H' F' af=>⟨F',af⟩);obtain⟨F',af⟩:=key;exact⟨P,Z,e,F',af.re,af.z,zp,eV.trans af h⟩
    |bk e=>rw[ha] at h;exact h.elim
    |ct e=>rw[ha] at h;exact h.elim
    |rt d fr=>rw[ha] at h;exact h.elim
    |bad=>rw[ha] at h;exact h.elim
theorem KP (hp:ZN (Ζ X.prog X.w) X.A X.env X.xe)(hc:X.calm=ζ)(hi:PI X tg ul (tI X.K T it))(hg:PG X tg (tD X.K t))(hb:hU X b (tX X.K T g W cb))(hs:∀x,Do ul X.env x=pure x)
  (ih:hU X l (tX X.K T g W r)):hU X (.For tg ul b [] pos::l) (tX X.K T g W (.US t it cb r)):=by
 refine fA (eN (GQ hp hc hi hg hb hs) ih) λD σ H ⟨P,Z,env,F,re,hz,zp,h⟩=>?_
 unfold kD at h;cases Mb:iL T it env with
 |bad=>rw[Mb] at h;exact h.elim
 |ok p=>
  rw[Mb] at h;refine⟨P,Z,env,F,re,hz,zp,p,Mb,?_⟩;dsimp only at h;cases hf:l9 t p.2 (kD T g cb) p.1 (lock p.2 env) with
  |rs k=>rw[hf] at h;exact h
  |fl f=>
   rw[hf] at h;cases f with
   |nx e=>exact λσ' H' F' af=>⟨P,Z,_,F',af.re,af.z,zp,eV.trans af h⟩
   |bk e=>exact h
   |ct e=>exact h
   |rt d fr=>exact h
   |bad=>exact h
end
noncomputable def Kv:Ro->Option ((D×Bool) ⊕ Nat)
 |.fl (.rt d fr)=>θ (.inl (d,fr))
 |.fl (.nx _)=>θ (.inl (.Mh,ζ))
 |.rs n=>θ (.inr n)
 |_=>η
end Pc.Fx
end
section
namespace K24
open PySem Pc Pc.Sm Pc.Gr Pc.Lw Pc.Vw Fl64 Md
noncomputable def E1 (wa cn ic su ch:Nat):Rb:=.seq .nil Ir 0 (.seq (Hw wa cn su ch .nil) (Jb ic) 0 (.fin (.cons (.ret (.tup (L6 LP LQ))) .nil)))
variable {cs:aU}{env:En}
theorem IE {T:Tb}{q:D×Bool}(h:Pc.ret (aE T cs env)=.ok q):tH T (.fin cs) env=θ (.inl q):=by
 unfold tH;cases hq:aE T cs env with
 |rt d fr=>rw[hq] at h;cases h;rfl
 |nx e=>rw[hq] at h;cases h;rfl
 |bk e=>rw[hq] at h;cases h
 |ct e=>rw[hq] at h;cases h
 |bad=>rw[hq] at h;cases h
variable {R:Rt}{c:Ex}{e:En}{k:Nat}{r:Rb}
theorem Fy {T:Tb}(h:aE T cs env=.nx e)(hc:ev T c e=.ok (.bl ζ,R)):tH T (.seq cs c k r) env=θ (.inr k):=by
 unfold tH;rw[h];dsimp only;rw[hc];rfl
theorem FZ {T:Tb}(h:aE T cs env=.nx e)(hc:ev T c e=.ok (.bl ε,R)):tH T (.seq cs c k r) env=tH T r e:=by
 conv=>lhs;unfold tH
 rw[h];dsimp only;rw[hc];rfl
theorem Gw {T:Tb}{wa cn ic su ch:Nat}(hw:vp T wa)(hc:yX T cn)(hi:DJ T ic)(hs:Ea T su)(NL:Ee T ch){g mi:List Nat}{c:Nat}(gg:Gr g)(lg:g.length<=63)(lm:mi.length<=63)(lc:c<=62)(hm:∀p∈mi,p<g.length) :
  tH T (E1 wa cn ic su ch) (aD [.lst (gD g),.lst (gD mi),.int (c:Int)] 7)=θ (if c<mi.length\/rC g mi c=ζ then .inr 0 else .inl (Jl g mi c,ζ)):=by
 have T0:Tv (aD [.lst (gD g),.lst (gD mi),.int (c:Int)] 7) [θ (.lst (gD g),ε),θ (.lst (gD mi),ε),θ (.int (c:Int),ε),η,η,η,η]:=Tv.start _ 7;obtain⟨e,q,TT⟩:=xg hw hc hs NL gg lg lm lc hm T0 (r:=.nil) (Q:=λf=>∃e,f=.nx e/\Tv e [lo g,lo mi,no c,lo (aQ g c) ζ,lo (HR g mi c) ζ,lo (cA g mi c) ζ,lo (bE g (cA g mi c) mi) ζ]) λe V=>⟨e,by rw[aE],V⟩
 obtain⟨R1,k1⟩:=Fv (T:=T) T0.vw;obtain⟨R2,k2⟩:=FT (T:=T) (ic:=ic) hi lc TT.vw;by_cases h1:c<mi.length
 .rw[cu h1] at k1;rw[if_pos (.inl h1)];exact Fy (by rw[aE]) k1
 rw[cm h1] at k1;refine (FZ (by rw[aE]) k1).trans ?_;by_cases h2:rC g mi c=ζ
 .rw[h2] at k2;rw[if_pos (.inr h2)];exact Fy q k2
 rw[ý] at h2;rw[h2] at k2;rw[if_neg (by simp[h1,h2])];exact (FZ q k2).trans (IE (TT.Qj (i:=5) (j:=6) (by decide) rfl rfl))
end K24
end
section
namespace K24
open PySem Pc Pc.Sm Pc.Gr Pc.Lw Pc.Vw Fl64 Md Pc.Fx
variable {k:Nat}{l:List (D×Rt)}
section
variable {T:Tb}{g:Gv}{env e:En}{r:Rx}
theorem kI {c:St}(h:bH T c env=.nx e):kD T g (.st c r) env=kD T g r e:=by
 conv=>lhs;unfold kD
 rw[h]
theorem JZ {i:Nat}{cs:kE}{d:D}{vs:List (Option (D×Bool))}(V:Tv env vs)(hi:i<vs.length)(hl:aR T cs env=.ok l)(hg:g (l.map (·.1))=θ (.inl (d,ζ))):∃env',kD T g (.SI i cs r) env=kD T g r env'/\Tv env' (vs.set i (θ (d,ζ))):=by
 refine⟨_,?_,V.set i d .own ζ (aI _) λ_=>rfl⟩
 conv=>lhs;unfold kD
 rw[hl];dsimp only;rw[hg];show Yd (kD T g r) (if i<AC env then .nx (put env i d .own) else .bad)=_;rw[if_pos (by rw[V.len];exact hi)];show kD T g r (put env i d .own)=_;rw[bN V.tm]
theorem K5 {i:Nat}{cs:kE}(hl:aR T cs env=.ok l)(hg:g (l.map (·.1))=θ (.inr k)):kD T g (.SI i cs r) env=.rs k:=by
 unfold kD;rw[hl];dsimp only;rw[hg]
end
noncomputable def Tc:Rx:=.st Uc (.SI 13 F7 (.st S3 (.st S2 .nil)))
noncomputable def zk:Rx:=.st u1 (.st u2 (.st u3 (.st u4 (.st u5 (.st u6 (.US (.tp [10,11]) (.enum LK) Tc (.st u16 .nil)))))))
noncomputable abbrev gM (n:Nat):Gv:=vW λds=>tH (T n) (E1 6 9 11 14 19) (aD ds 7)
variable {a j:Nat}{sp:List Nat}
theorem mG (gs:Gr sp):Gr (jT a sp j):=λx hx=>by
 obtain⟨k,_,rfl⟩:=Δ.mp hx;exact cX gs _
variable {b:Nat}
theorem F6 (m:Nat){M:List Nat}(ha:a<5)(hb:b<4)(hj:j<nb a)(gs:Gr sp):gM (m+5) [.lst (gD (jT a sp j)),.lst (gD (ku a M j)),.int (C a b:Nat),.int (j:Int)]=θ (if C a b<(ku a M j).length\/rC (jT a sp j) (ku a M j) (C a b)=ζ then .inr j else .inl (Jl (jT a sp j) (ku a M j) (C a b),ζ)):=by
 obtain⟨f1,f2,f3,f4,f5,_⟩:=fact ha hb;have Qw:=(jQ ha hb hj).2;have lb:(jT a sp j).length=(CT a).getD j 0:=by unfold jT;rw[aj,bq]
 have e:=Gw (T:=T (m+5)) (h6 (m+3)) (h9 (m+2)) (YX (m+1)) (YV m) (YU (m+1)) (g:=jT a sp j) (mi:=ku a M j) (c:=C a b) (mG gs) (by omega) (bp (il ..) (by rw[bq];omega)) (by omega) (λp hp=>by
  rw[lb];exact pi.mp (ie.mp hp).1)
 show vW _ _=_;unfold vW;rw[show ([.lst (gD (jT a sp j)),.lst (gD (ku a M j)),.int (C a b:Nat),.int (j:Int)]:List D).take 3=[.lst (gD (jT a sp j)),.lst (gD (ku a M j)),.int (C a b:Nat)] from rfl];dsimp only;rw[e];by_cases h:C a b<(ku a M j).length\/rC (jT a sp j) (ku a M j) (C a b)=ζ
 .rw[if_pos h,if_pos h];show (wM (.int (j:Int))).map Z1=_;have:wM (.int (j:Int))=θ j:=if_pos (show j<2 ^ 64 by omega);rw[this];rfl
 .rw[if_neg h,if_neg h]
variable {M:List Nat}
theorem GA (m:Nat)(h:vZ a b k sp M):∀(d j:Nat),j+d=k->∀(e:En) (x8:List Nat) (x9:List D) (v10 v11 Pk Nr:Option (D×Bool)),Tv e (Gu a b sp M ε (gD x8) x9 [v10,v11,Pk,Nr])->x8.length<=63*j->x9.length=j ->
  l9 (.tp [10,11]) [4] (kD (T (m+5)) (gM (m+5)) Tc) ((aH a b).drop j) e=.rs k:=by
 obtain⟨f1,f2,f3,f4,f5,_⟩:=fact h.ha h.hb;intro d
 induction d with
 |zero=>
  intro j hj e x8 x9 v10 v11 Pk Nr W h8 h9;obtain rfl:j=k:=hj;obtain⟨e8,e9,P2,q9,W2,l,y1,y2⟩:=Ja (m+4) h.ha h.hb h.hk W;rw[gb (by simpa using h.hk),eh,fw];unfold l9;rw[P2];dsimp only;have g1:=F6 m (M:=M) h.ha h.hb h.hk h.gs;rw[if_pos h.no,<-y2] at g1;have e1:kD (T (m+5)) (gM (m+5)) Tc e8=.rs j:=(kI q9).trans (K5 y1 g1);rw[e1]
 |succ d ih=>
  intro j hj e x8 x9 v10 v11 Pk Nr W h8 h9;have jk:j<k:=by omega
  have jn:j<nb a:=Nat.lt_trans jk h.hk;obtain⟨e8,e9,P2,q9,W2,l,y1,y2⟩:=Ja (m+4) h.ha h.hb jn W;rw[gb (by simpa using jn),eh,fw];unfold l9;rw[P2];dsimp only;have g1:=F6 m (M:=M) h.ha h.hb jn h.gs;obtain⟨l1,l2⟩:=h.le j jk;rw[if_neg (λz=>z.elim (λz=>by omega) λz=>by rw[l2] at z;cases z),<-y2] at g1;obtain⟨PB,UI,W3⟩:=JZ (T:=T (m+5)) (g:=gM (m+5)) (i:=13) (cs:=F7) (r:=.st S3 (.st S2 .nil)) W2 (show (13:Nat)<14 by decide) y1 g1;obtain⟨n1,n2,_⟩:=uQ (mG h.gs) l2;have Qw:=(jQ h.ha h.hb jn).2;have lb:(jT a sp j).length=(CT a).getD j 0:=by unfold jT;rw[aj,bq]
  obtain⟨Q7,Qa,Ru,Rr,W5⟩:=Fh (m+4) W3 (by rw[n2];omega) (by omega);have e1:kD (T (m+5)) (gM (m+5)) Tc e8=.fl (.nx Qa):=(kI q9).trans (UI.trans ((kI Ru).trans ((kI Rr).trans (by unfold kD;rfl))));rw[e1];dsimp only;exact ih (j+1) (by omega) Qa _ _ _ _ _ _ W5 (by rw[ba,dn];omega) (by rw[ba,h9];rfl)
theorem Lj (m:Nat)(h:vZ a b k sp M):Kv (kD (T (m+5)) (gM (m+5)) zk (aD [.lst (gD sp),.lst (gD M),iI a,.int (b:Int)] 14))=θ (.inr k):=by
 obtain⟨e1,e2,e3,e4,e5,e6,q1,q2,q3,q4,q5,q6,V6,hit,lk⟩:=Fm (m+4) (M:=M) h.ha h.hb h.ls;have e7:=GA m h k 0 (gn k) (e6.set 4 (θ (.lst (sh (DU a b) (C a b)),.lk))) [] [] _ _ _ _ (V6.set 4 (.lst (sh (DU a b) (C a b))) .lk ε (rP _) (λh=>by cases h)) (dh _) rfl;rw[<-lk,Ŭ] at e7;have e8:kD (T (m+5)) (gM (m+5)) zk (aD [.lst (gD sp),.lst (gD M),iI a,.int (b:Int)] 14)=.rs k:=(kI q1).trans ((kI q2).trans ((kI q3).trans ((kI q4).trans ((kI q5).trans ((kI q6).trans (by
  unfold kD;rw[hit];dsimp only;rw[e7];rfl))))))
 rw[e8];rfl
end K24
end
section
namespace K24
open PySem PySem.Spec PyProof.Rows L2 Pc
noncomputable def eQ:List Str:=["range","len","isinstance","int","bool","list","tuple","max","sorted","sum","all","zip","enumerate","ValueError"]
noncomputable def Ae:List Str:=["GRAINS","FOLD","ROOMS","BLOCK_COUNTS"]
noncomputable def df0:Df:=⟨"block_shapes",st 3,["size","level"],["size","level","blocks","share","rest","checks","shapes","block","grains"],b0⟩
noncomputable def df1:Df:=⟨"dealt_rows",st 4,["rows"],["rows","dealt","row","turn"],b1⟩
noncomputable def df2:Df:=⟨"parted_rows",st 5,["grains","counts"],["grains","counts","count","rows","place","turn","number"],b2⟩
noncomputable def df3:Df:=⟨"times_of",st 20,["a","b"],["a","b","product","doubled","left"],b3⟩
noncomputable def df4:Df:=⟨"inverse_of",st 21,["a"],["a"],b4⟩
noncomputable def df5:Df:=⟨"power_of",st 22,["a","k"],["a","k","power","squared","left"],b5⟩
noncomputable def df6:Df:=⟨"worth_at",st 23,["grains","x"],["grains","x","worth","grain"],b6⟩
noncomputable def df7:Df:=⟨"row_product",st 25,["first","second"],["first","second","product","place","grain","step","other"],b7⟩
noncomputable def df8:Df:=⟨"row_with_noughts",st 26,["noughts"],["noughts","row","nought"],b8⟩
noncomputable def df9:Df:=⟨"code_noughts",st 28,["count"],["count"],b9⟩
noncomputable def WQ:Df:=⟨"checks_for",st 29,["data","count"],["data","count","divisor","rest","place","factor","step","grain"],Xv⟩
noncomputable def WO:Df:=⟨"is_code",st 30,["grains","count"],["grains","count"],Xu⟩
noncomputable def ug:Df:=⟨"mended_row",st 32,["grains","missing","count"],["grains","missing","count","worths","suspects","mended","wrong"],Xt⟩
noncomputable def WN:Df:=⟨"locator_of",st 33,["place","length"],["place","length"],Xs⟩
noncomputable def WM:Df:=⟨"suspect_places",st 34,["worths","missing","length"],["worths","missing","length","gaps","freed","rule","others"],Xr⟩
noncomputable def WL:Df:=⟨"shortest_rule",st 35,["numbers"],["numbers","rule","length","former","former_gap","place","gap","amended"],Xq⟩
noncomputable def WK:Df:=⟨"gap_of_rule",st 36,["rule","numbers","place"],["rule","numbers","place","gap","back","factor"],Xp⟩
noncomputable def WJ:Df:=⟨"scaled_row",st 37,["row","factor"],["row","factor"],Xo⟩
noncomputable def WI:Df:=⟨"added_rows",st 38,["first","second"],["first","second","added","place","grain"],Xn⟩
noncomputable def WH:Df:=⟨"changed_row",st 39,["grains","suspects","worths"],["grains","suspects","worths","place","locators","heads","changed","locator","share"],Xm⟩
noncomputable def WG:Df:=⟨"distances_product",st 40,["locator","locators"],["locator","locators","product","other"],Xl⟩
noncomputable def WE:Df:=⟨"wrapped_grains",st 42,["data","size","level"],["data","size","level","rows","start","count","checks","part"],Xk⟩
noncomputable def nH:Df:=⟨"unwrapped_grains",st 43,["grains","missing","size","level"],["grains","missing","size","level","shapes","counts","rows","gaps","data","blocks","block","shape","missing_here","mended"],TU⟩
noncomputable def vG:Df:=⟨"mended_block",st 44,["row","missing","checks","block"],["row","missing","checks","block"],Jy⟩
noncomputable def zE:Df:=⟨"_law_whole",st 46,["_law_x"],["_law_x"],Zr⟩
noncomputable def WD:Df:=⟨"_law_cell",st 47,["_law_script","_law_k"],["_law_script","_law_k"],Xj⟩
noncomputable def WC:Df:=⟨"_law_mixed",st 48,["_law_cell_here","_law_k"],["_law_cell_here","_law_k","_law_once"],Xi⟩
noncomputable def WB:Df:=⟨"_law_row",st 49,["_law_script","_law_many"],["_law_script","_law_many","_law_k","_law_row_here"],Xh⟩
noncomputable def WA:Df:=⟨"_law_shape",st 50,["_law_script"],["_law_script","_law_d","_law_size","_law_room","_law_many","_law_level","_law_checks","_law_counts"],Fo⟩
noncomputable def Wz:Df:=⟨"_law_spots",st 51,["_law_counts"],["_law_counts","_law_spots_here","_law_k","_law_number"],Zq⟩
noncomputable def Wy:Df:=⟨"_law_places",st 53,["_law_script","_law_many","_law_some","_law_turn"],["_law_script","_law_many","_law_some","_law_turn","_law_left","_law_places_here","_law_k","_law_d"],Xg⟩
noncomputable def nJ:Df:=⟨"_law_refused",st 54,["_law_grains","_law_missing","_law_size","_law_level","_law_block"],["_law_grains","_law_missing","_law_size","_law_level","_law_block","_law_handed","_law_fits","e","_law_others"],TR⟩
noncomputable def K9:Df:=⟨"law",st 55,["_law_script"],["_law_script","_law_size","_law_level","_law_counts","_law_checks","_law_data","_law_grains","_law_spots_here","_law_d","_law_number","_law_bad","_law_missing","_law_told","_law_turn","_law_many","_law_spotted","_law_places_here","_law_k","_law_at","_law_some"],Kf⟩
noncomputable def p:Pg:=⟨[df0,df1,df2,df3,df4,df5,df6,df7,df8,df9,WQ,WO,ug,WN,WM,WL,WK,WJ,WI,WH,WG,WE,nH,vG,zE,WD,WC,WB,WA,Wz,Wy,nJ,K9],Ae,eQ,gl,1000⟩
noncomputable def JP:List Str:=["_law_refused"]
theorem ok:wc (Df.QU p JP) p.N5:=by
 refine⟨?x0,?x1,?x2,?x3,?x4,?x5,?x6,?x7,?x8,?x9,?x10,?x11,?x12,?S1,?SY,?SX,?x16,?x17,?x18,?x19,?x20,?x21,?x22,?x23,?x24,?x25,?x26,?x27,?x28,?x29,?x30,?x31,?x32,trivial⟩
 case x0|x2|x3|x5|x6|x7|x10|x11|S1|x17|x18|x20|x25|x26|x27=>exact .inl (Df.N0 (n:=60) (by decide +kernel) rfl (λ_ _ _ _ _ _ us hl=>@Gd (λus=>NE _ ⟨us,[]⟩=pure (ZH _ us)) us hl (λ_ _=>rfl)))
 case x1|x4|x8|x9|SX|x24|x28|x29|x32=>exact .inl (Df.N0 (n:=60) (by decide +kernel) rfl (λ_ _ _ _ _ _ us hl=>@Lo (λus=>NE _ ⟨us,[]⟩=pure (ZH _ us)) us hl (λ_=>rfl)))
 case x12|SY|x16|x19|x21=>exact .inl (Df.N0 (n:=60) (by decide +kernel) rfl (λ_ _ _ _ _ _ us hl=>@Lk (λus=>NE _ ⟨us,[]⟩=pure (ZH _ us)) us hl (λ_ _ _=>rfl)))
 case x22|x23|x30=>exact .inl (Df.N0 (n:=60) (by decide +kernel) rfl (λ_ _ _ _ _ _ us hl=>@Js (λus=>NE _ ⟨us,[]⟩=pure (ZH _ us)) us hl (λ_ _ _ _=>rfl)))
 case x31=>exact .inr ⟨(λ_ _ _ _ _ _ us hl=>@UY (λus=>NE _ ⟨us,[]⟩=pure (ZH _ us)) us hl (λ_ _ _ _ _=>rfl)),.head _⟩
end K24
end
section
namespace K24
open PySem PySem.Spec PyProof.Rows L2 Pc Pc.Fx
variable {env:En}
section
variable {P:Program}{w:Ξ}{K:Frag}{mg:Str->Option Value}{base:Heap}
structure TZ (K:Frag)(mg:Str->Option Value)(cS cM fI:Addr)(NV:io)(stI:Stmt):Prop where
 k:uV K mg "SquareError" "block" "NoMend.__init__" cM cS fI NV stI
 m:mg "NoMend" = θ (.ref cM)
 mB:pY K cM=ζ
 mD:kS K cM=ζ
 mm:dQ K cM cM=ζ
theorem sO {T:Tb}{e:Ex}{r:kE}{l:List (Pc.D×Rt)}{k:Nat}(h:aR T (.cons e r) env=.ok l)(hr:∀l,aR T r env=.ok l->l.length=k):l.length=k+1:=by
 rw[aR] at h;obtain⟨q,_,h⟩:=Rs.Ma h;obtain⟨l1,h1,h⟩:=Rs.Ma h;cases h;exact dg (· + 1) (hr _ h1)
theorem GZ {T:Tb}(l:List (Pc.D×Rt))(h:aR T .nil env=.ok l):l.length=0:=by
 rw[aR] at h;cases h;rfl
theorem DD {T:Tb}(env:En)(l:List (Pc.D×Rt))(h:aR T F7 env=.ok l):l.length=4 :=
 sO h λ_ h=>sO h λ_ h=>sO h λ_ h=>sO h GZ
variable {n:Nat}{cS cM fI f:Addr}{fd NV:io}{stI:Stmt}
theorem Kc (I:p.In K mg)(hH:vX w K)(ih:mZ p P w K mg base n)(N:TZ K mg cS cM fI NV stI)(F:L2.sf K "mended_row" "mended_row" (st 32) f fd):fT P w K mg base (nS ζ "block" P w) (fY 0 n) f fd ug.ps (BY K 3 cM λds=>tH (T n) (E1 6 9 11 14 19) (aD ds 7)):=by
 have S:bQ ug.N ug.ps (aB (st 32)):=iG (p:=p) (d:=ug) (n:=60) (by decide +kernel);have R:=EH (fq:=ζ) (d:=ug) (m:=60) (rb:=E1 6 9 11 14 19) (y:="NoMend") (P:=P) (w:=w) (base:=base) (cG ok) I hH ih S F rfl rfl N.m N.k (by decide);exact⟨R.len,λA outer s H args us vs Q E hr=>R.run A outer s H args us vs Q E hr.zero⟩
theorem Dz (I:p.In K mg)(hH:vX w K)(ih:mZ p P w K mg base n)(N:TZ K mg cS cM fI NV stI)(F:L2.sf K "mended_block" "mended_block" (st 44) f fd):fT P w K mg base (nS ε "block" P w) (fY 1 n) f fd vG.ps (BY K 4 cM (gM n)):=by
 obtain⟨f',OX,F',m'⟩:=I.fn 12 ug rfl;have S:bQ vG.N vG.ps (aB (st 44)):=iG (p:=p) (d:=vG) (n:=60) (by decide +kernel);exact DI F S rfl (Kc I hH ih N F') F'.kp (F'.binds (cG ok ug (Κ (i:=12) rfl)).bd) m' rfl rfl N.m N.mB N.k N.mD N.mm (by decide) (by decide) ⟨.inl rfl,by decide,by decide⟩ ⟨.inl rfl,by decide,by decide⟩ ⟨.inl rfl,by decide,by decide⟩ ⟨.inl rfl,by decide,by decide⟩
noncomputable def fB:Stmt->List Stmt
 |.For _ _ b _ _=>b
 |_=>[]
theorem IU (I:p.In K mg)(hH:vX w K)(ih:mZ p P w K mg base n)(N:TZ K mg cS cM fI NV stI)(F:L2.sf K "unwrapped_grains" "unwrapped_grains" (st 43) f fd):fT P w K mg base (nS ε "block" P w) (fY 2 n) f fd nH.ps (BY K 4 cM λds=>Kv (kD (T n) (gM n) zk (aD ds 14))):=by
 obtain⟨f',OX,F',m'⟩:=I.fn 23 vG rfl;have S:bQ nH.N nH.ps (aB (st 43)):=iG (p:=p) (d:=nH) (n:=60) (by decide +kernel);refine tw F S (λA r=>⟨r.hd,by have:=r.dp;omega⟩) (λvs H Q E h=>rK h) λMe A outer s H vs Q E hr hs=>?_
 have Cx:nE (cB (nS ε "block" P w) P w K mg base nH.N "unwrapped_grains" (aB (st 43)) f Me A outer s H E).MH (p.sc nH) (T n):=vt (p:=p) (CX:=nS ε "block" P w) (nm:="unwrapped_grains") (E:=E) (cG ok) I hH ih S (hr.room _);have Vh:PS (cB (nS ε "block" P w) P w K mg base nH.N "unwrapped_grains" (aB (st 43)) f Me A outer s H E) ((fB ((aV (st 43)).getD 6 (.Pass ⟨0,0,0,0⟩))).getD 1 (.Pass ⟨0,0,0,0⟩)) (r9 (λσ H Q=>tF K (T n) F7 σ H λvs H1=>BY K 4 cM (gM n) vs H1 Q (λC o H'=>∃n,o=θ n/\E C (θ n) H')) (jZ 13)) :=
  pQ S.nd rfl (.inl rfl) (BZ (Dz I hH ih N F') (hr.deeper _) rfl m' F'.kp (F'.binds (cG ok vG (Κ (i:=23) rfl)).bd) B8 (PA.MH (bY (cQ 60 Cx.c) rfl)))
 refine⟨tX K (T n) (gM n) (λk H'=>E (.ref cM) (θ k) H') zk,?_,?_⟩
 .have O7:=λ{s:Stmt}{c:Pc.St}(h:Pc.cS 60 (p.sc nH) s=θ c)=>PS.MH ((xJ Cx 60).1 _ _ h)
  exact pX (O7 rfl) (pX (O7 rfl) (pX (O7 rfl) (pX (O7 rfl) (pX (O7 rfl) (pX (O7 rfl) (KP A_ rfl (PI.MH (Cb Cx.c (cQ 60 Cx.c) rfl)) (PG.MH (wF Cx.c rfl)) (pX (O7 rfl) (Hg Vh DD (λk H' h=>⟨k,rfl,h⟩) (pX (O7 rfl) (pX (O7 rfl) Fu)))) (sZ rfl) (pX (O7 rfl) Fu)))))))
 obtain⟨ds,G,hlen,rs,k⟩:=hs;dsimp only at k;obtain⟨F0,re,hF⟩:=entry (N:=nH.N) rs (show ds.length<=14 by omega);refine⟨λa=>H a≠η,λa=>H a=η\/a∈G,_,F0,re,λj a ha=>.inr (hF j a ha),λa h=>.inl (wp.mp h),?_⟩;show eV _ _ _ _ _ _ _ _ (kD (T n) (gM n) zk (aD ds 14));cases hq:kD (T n) (gM n) zk (aD ds 14) with
 |rs j=>rw[hq] at k;exact λH' ev=>k H' (fH ev)
 |fl f=>
  rw[hq] at k;cases f with
  |rt d fr=>
   intro v H' G' rp ev z fz;exact k v H' G' (fH ev) rp z λhf=>let ⟨a,b⟩:=fz hf;⟨a,λx hx=>⟨wp.mp (b x hx).1,(b x hx).2⟩⟩
  |nx e=>exact λσ' H' F' af=>k .Mh H' [] (fH af.ev) .Mh (λ_ h=>(nomatch h)) λ_=>⟨bc,λ_ h=>(nomatch h)⟩
  |bk e=>exact k.elim
  |ct e=>exact k.elim
  |bad=>exact k.elim
end
end K24
end
section
namespace K24
open PySem Pc Pc.Sm Pc.Gr Pc.Lw Pc.Vw Fl64 Md
noncomputable def Bh:List D:=[.lst (.int 1::ξ 15 (.int 0)),.lst [],.int 15,.int 0]
noncomputable def isOk:Rs (D×Bool)->Bool
 |.ok _=>ζ
 |_=>ε
theorem EV:∀{x:Rs (D×Bool)},isOk x=ζ->∃r,x=.ok r
 |.ok r,_=>⟨r,rfl⟩
theorem UR:allB 8 (λn=>!isOk (Pc.run fns gl 1000 n 22 Bh))=ζ:=by kernel_rfl
theorem JO:isOk (Pc.run fns gl 1000 10 22 Bh)=ζ:=by kernel_rfl
variable {r:D×Bool}
theorem low {n:Nat}(h:Pc.run fns gl 1000 n 22 Bh=.ok r):8<=n:=by
 refine þ λz=>?_
 have:=aS UR n (by omega);rw[h] at this;cases this
theorem ym (T0:Tb)(env:En):ev T0 Ai env=(T0.cl 22 Bh).bind λr=>.ok (r.1,if r.2 then .mv [] else .sh []):=rfl
variable {ds:List D}{x:D}
theorem BS (h:wD ds=θ x):x=.bl ζ/\∃a b k sp M,vZ a b k sp M/\ds=[.lst (gD sp),.lst (gD M),.int (15+4*(a:Int)),.int (b:Int),.int (k:Int)]:=by
 unfold wD at h;split at h
 .rename_i hc;cases h;exact⟨rfl,hc⟩
 .cases h
theorem asked {n:Nat}(h:Pc.run fns gl 1000 (n+1) 31 ds=.ok r)(hl:ds.length=5):8<=n/\r.1=.bl ζ/\∃a b k sp M,vZ a b k sp M/\ds=[.lst (gD sp),.lst (gD M),.int (15+4*(a:Int)),.int (b:Int),.int (k:Int)]:=by
 rw[aW (F:=⟨5,9,TR⟩) rfl hl] at h;obtain⟨d0,d1,d2,d3,d4,rfl⟩:∃d0 d1 d2 d3 d4,ds=[d0,d1,d2,d3,d4]:=by
  match ds,hl with
  |[d0,d1,d2,d3,d4],_=>exact⟨d0,d1,d2,d3,d4,rfl⟩
 generalize VW:aD [d0,d1,d2,d3,d4] 9=en at h;have h:Pc.ret (aE (T n) (.cons (.expr Ai) (.cons (.ret (.app wD (.cons LN (L8 LO LL LM LK)))) .nil)) en)=.ok r:=h;rw[aE,bH,ym] at h;cases q:(T n).cl 22 Bh with
 |ok x=>
  rw[q,aA,bC,cL,aE,bH,ev] at h;refine⟨low q,?_⟩;obtain⟨l,v0,v1⟩:∃l,aR (T n) (.cons LN (L8 LO LL LM LK)) en=.ok l/\l.map (·.1)=[d0,d1,d2,d3,d4]:=by
   subst VW;exact⟨_,rfl,rfl⟩
  rw[v0,aA,v1] at h;cases q2:wD [d0,d1,d2,d3,d4] with
  |some y=>
   rw[q2] at h;obtain⟨rfl,hc⟩:=BS q2;cases h;exact⟨rfl,hc⟩
  |none=>
   rw[q2] at h;cases h
 |bad=>rw[q] at h;cases h
variable {M sp:List Nat}{a b k:Nat}
theorem h31 (h:vZ a b k sp M):∃fr,(T 11).cl 31 [.lst (gD sp),.lst (gD M),iI a,.int (b:Int),.int (k:Int)]=.ok (.bl ζ,fr):=by
 rw[mj,aW (F:=⟨5,9,TR⟩) rfl rfl];generalize VW:aD [.lst (gD sp),.lst (gD M),iI a,.int (b:Int),.int (k:Int)] 9=en;obtain⟨r,hr⟩:=EV JO;have q1:bH (T 10) (.expr Ai) en=.nx en:=by
  rw[bH,ym,mj,hr,aA,bC]
 obtain⟨l,v0,v1⟩:∃l,aR (T 10) (.cons LN (L8 LO LL LM LK)) en=.ok l/\l.map (·.1)=[.lst (gD sp),.lst (gD M),iI a,.int (b:Int),.int (k:Int)]:=by
  subst VW;exact⟨_,rfl,rfl⟩
 have e:wD [.lst (gD sp),.lst (gD M),iI a,.int (b:Int),.int (k:Int)]=θ (.bl ζ):=if_pos ⟨a,b,k,sp,M,h,rfl⟩;refine⟨ζ,?_⟩;show Pc.ret (aE (T 10) (.cons (.expr Ai) (.cons (.ret (.app wD (.cons LN (L8 LO LL LM LK)))) .nil)) en)=_;rw[aE,q1,cL,aE,bH,ev,v0,aA,v1,e];rfl
theorem yT {T0:Tb}{env:En}{a b:Ex}{y:D}(h:ev T0 a env=.ok (x,.mv []))(h':ev T0 b env=.ok (y,.mv [])):ev T0 (.lst (.cons a (.cons b .nil))) env=.ok (.lst [x,y],.mv []):=by
 rw[ev,aR,h,aA,aR,h',aA,aR,aA,aA,aA];rfl
noncomputable def w0:aU:=.cons (.asg (.nm 5) (.lst (L6 (.blt .list (L5 LN)) (.blt .list (L5 LO)))) ε) (.cons (.asg (.nm 6) (.cst (.bl ε)) ε) .nil)
noncomputable def WZ:kE:=.cons (.ix LP LA) (L7 (.ix LP Lz) LL LM)
noncomputable def wE:Ex:=.and LQ (.cmp .Eq LP (.lst (L6 LN LO)))
noncomputable abbrev LR (a b k:Nat)(sp M:List Nat)(r:List (Option (D×Bool))):List (Option (D×Bool)):=θ (.lst (gD sp),ε)::θ (.lst (gD M),ε)::θ (iI a,ε)::θ (.int (b:Int),ε)::θ (.int (k:Int),ε)::θ (.lst [.lst (gD sp),.lst (gD M)],ζ)::r
theorem KZ (n:Nat)(a b k:Nat)(sp M:List Nat):∃e,aE (T n) w0 (aD [.lst (gD sp),.lst (gD M),iI a,.int (b:Int),.int (k:Int)] 9)=.nx e/\Tv e (LR a b k sp M [θ (.bl ε,ζ),η,η]):=by
 have V:Tv (aD [.lst (gD sp),.lst (gD M),iI a,.int (b:Int),.int (k:Int)] 9) [θ (.lst (gD sp),ε),θ (.lst (gD M),ε),θ (iI a,ε),θ (.int (b:Int),ε),θ (.int (k:Int),ε),η,η,η,η]:=Tv.start _ 9;obtain⟨e1,q1,V1⟩:=V.asg (T:=T n) (i:=5) (show (5:Nat)<9 by decide) (yT (vm (aC.Ml (k:=.list) (V.var (i:=0) rfl) (z:=.lst (gD sp)) rfl) (eJ _)) (vm (aC.Ml (k:=.list) (V.var (i:=1) rfl) (z:=.lst (gD M)) rfl) (eJ _)));obtain⟨e2,q2,V2⟩:=V1.asg (T:=T n) (i:=6) (e:=.cst (.bl ε)) (d:=.bl ε) (show (6:Nat)<9 by decide) (by rw[ev]);refine⟨e2,?_,V2⟩;unfold w0;rw[aE,q1,cL,aE,q2,cL,aE]
variable {e:En}
theorem HF (n:Nat){r:List (Option (D×Bool))}(V:Tv e (LR a b k sp M r)):∃l,aR (T n) WZ e=.ok l/\l.map (·.1)=[.lst (gD sp),.lst (gD M),iI a,.int (b:Int)]:=by
 obtain⟨R1,y1⟩:=aC.ix (V.var (T:=T n) (i:=5) rfl) (aC.cst (.int 0)) (z:=.lst (gD sp)) rfl;obtain⟨R2,y2⟩:=aC.ix (V.var (T:=T n) (i:=5) rfl) (aC.cst (.int 1)) (z:=.lst (gD M)) rfl;obtain⟨R3,y3⟩:=V.var (T:=T n) (i:=2) rfl;obtain⟨R4,y4⟩:=V.var (T:=T n) (i:=3) rfl;refine⟨[(_,R1),(_,R2),(_,R3),(_,R4)],?_,rfl⟩;unfold WZ;rw[aR,y1,aA,aR,y2,aA,aR,y3,aA,aR,y4,aA,aR,aA,aA,aA,aA]
theorem eq2 (a b:List Nat):D.Mr 40 (.lst [.lst (gD a),.lst (gD b)]) (.lst [.lst (gD a),.lst (gD b)])=θ ζ:=by
 have e:∀a:List Nat,D.Mr 39 (.lst (gD a)) (.lst (gD a))=θ ζ:=λa=>by rw[rZ,xG 37];simp
 show (if (2:Nat)=2 then jW (D.Mr 39) [.lst (gD a),.lst (gD b)] [.lst (gD a),.lst (gD b)] else θ ε)=θ ζ;rw[if_pos rfl,jW,e,jW,e,jW];rfl
theorem Kx (n:Nat){v7 v8:Option (D×Bool)}(V:Tv e (LR a b k sp M [θ (.bl ζ,ζ),v7,v8])):aC (T n) wE e (.bl ζ) :=
 aC.and (k:=ζ) (V.var (i:=6) rfl) (λ_=>aC.cmp (op:=.Eq) (V.var (i:=5) rfl) (aC.RQ (V.var (i:=0) rfl) (V.var (i:=1) rfl)) (eq2 sp M)) (λh=>by cases h)
end K24
end
section
namespace K24
open PySem PySem.Spec PyProof.Rows L2 Pc Pc.Vw Pc.Gr Fl64
variable {F:Nat->List Addr}{env:En}
section
variable {P:Program}{w:Ξ}{K:Frag}{mg:Str->Option Value}{base:Heap}
def RPd (A:Ρ):Prop:=A.depth+1<recursionLimit
theorem whole {f:Addr}{fd:io}(F:L2.sf K "_law_whole" "_law_whole" (st 46) f fd) (S:bQ ["_law_x"] ["_law_x"] (aB (st 46))) (hi:mg "isinstance" = η) (h1:mg "int" = η) (h2:mg "bool" = η) :
  fT P w K mg base tU RPd f fd ["_law_x"] (λvs H Q E=>∃n:Int,vs=[.int n]/\Q (.bl ζ) H):=by
 refine Ik F S (λA h=>Nat.lt_of_succ_lt h) (λvs H Q E ⟨n,e,_⟩=>by rw[e];rfl) λMe A outer s H vs Q E hr hs=>?_
 obtain⟨n,rfl,hQ⟩:=hs;refine⟨_,lG (wW (pC (gH mM rfl hi Os (aM (pv 0) (aM (nR (v:=.ty "int") rfl h1 (by rfl) rfl) cY))) (rJ (wJ (gH mM rfl hi Os (aM (pv 0) (aM (nR (v:=.ty "bool") rfl h2 (by rfl) rfl) cY))))))),?_⟩;exact⟨.int n,rfl,.int n,"int",.int n,[],rfl,by decide,rfl,.int n,ζ,rfl,.int n,rfl,.int n,"bool",.int n,[],rfl,by decide,rfl,.int n,ε,rfl,hQ⟩
structure Kk (K:Frag)(mg:Str->Option Value)(cS cM fI:Addr)(NV:io)(stI:Stmt)(cs:List Addr):Prop where
 k:uV K mg "SquareError" "block" "NoMend.__init__" cM cS fI NV stI
 m:mg "NoMend" = θ (.ref cM)
 sB:pY K cS=ζ
 mB:pY K cM=ζ
 sm:dQ K cM cS=ζ
 mm:dQ K cM cM=ζ
 o:wc (λq:Str×Addr=>(li K dL q.1=θ (θ (.ref q.2))/\kS K q.2=ζ)/\dQ K cM q.2=ε) (ZH ["NoText","TooLong","NoInverse","NoLabel","NoMarks","NoSquare","NoSign","NoPicture"] cs)
 l:cs.length=8
theorem UW {cs:List Addr}(h:cs.length=8):∃a b c d e f g i,cs=[a,b,c,d,e,f,g,i]:=by
 match cs,h with
 |[a,b,c,d,e,f,g,i],_=>exact⟨a,b,c,d,e,f,g,i,rfl⟩
theorem vL {C:Addr}(q:pY K C=ζ):kS K C=ζ:=by
 unfold pY at q;rw[ai] at q;exact q.1
def tsR (K:Frag)(cM c1 c2 c3 c4 c5 c6 c7 c8 a:Addr)(k:Nat):TS:=IL (r9 (G8 (D8 K a cM) (cK (qd 7) (cK (HK (cK (tC (.ref c1)) (cK (tC (.ref c2)) (cK (tC (.ref c3)) (cK (tC (.ref c4)) (cK (tC (.ref c5)) (cK (tC (.ref c6)) (cK (tC (.ref c7)) (cK (tC (.ref c8)) mO))))))))) mO))) (jZ 8))
 (IL (r9 (xp (G8 (D8 K a cM) (cK (qd 7) (cK (tC (.ref cM)) mO))) (xp (G8 (D8 K a cM) (cK (qd 7) (cK (tC (.ty "ValueError")) mO))) (FU (qd 8)))) (jZ 6))
 (Ls (tB (qd 6)) (r9 (xp (λσ H Q=>cK (C8 7 a k) mO σ H λvs H1=>∃n:Int,vs=[.int n]/\Q (.bl ζ) H1) (JK (C8 7 a k) (qd 4))) (jZ 6)) (λD σ H=>D.nx σ H)))
theorem uo {P:Addr->Prop}{σ:L2.St}{H:Hp}{i:Nat}{x:Option V}(re:RE K P env σ H F)(hi:∀d t,env[i]?≠θ (θ (d,t))):RE K P env (σ.set i x) H F :=
 ⟨by rw[aq];exact re.len,λj d t e=>by
  obtain⟨v,hv,r⟩:=re.val j d t e;exact⟨v,by rw[ο (λ(z:i=j)=>hi d t (by rw[z];exact e))];exact hv,r⟩,re.Oz,re.one,re.wr,re.pl⟩
theorem vQ {P Z:Addr->Prop}{σ:L2.St}{H:Hp}{i:Nat}{d:Pc.D}{v:V}(re:RE K P env σ H F)(hz:∀i,∀a∈F i,Z a)(zp:∀a,¬ P a->Z a)(hi:i<env.length)(hv:Rep K H d v []):∃F',After K P Z env F H (put env i d .own) (σ.set i (θ v)) H F' :=
 oK (D:=⟨λσ' H'=>∃F',After K P Z env F H (put env i d .own) σ' H' F',λ_ _=>True,λ_ _=>True,λ_ _=>True⟩) (mv:=ε) (p:=(d,.mv [])) re hz zp (aG.refl _) hv bI.nil (by
  show post K P Z env F H _ (if i<env.length then .nx (put env i d .own) else .bad);rw[if_pos hi];exact λσ' H' F' af=>⟨F',af⟩)
theorem Gm {n k:Nat}{C:Addr}{f:List Pc.D->Option ((Pc.D×Bool) ⊕ Nat)}{ds:List Pc.D}{vs:List L2.V}{G:List Addr}{H:Hp}{Q:VK}{E:XK}(hl:ds.length=n)(rs:aF K H ds vs G)(hf:f ds=θ (.inr k))(h:∀H',aG H H'->E (.ref C) (θ k) H'):BY K n C f vs H Q E :=
 ⟨ds,G,hl,rs,by rw[hf];exact h⟩
theorem JS {vs:List (Option (Pc.D×Bool))}(h:Tv env vs)(i:Nat)(hv:∀d b,vs[i]?≠θ (θ (d,b))):Tv (env.set i η) vs :=
 ⟨by rw[aq];exact h.len,h.tm.set mR i,λj d b e=>by rw[ο (λ(z:i=j)=>hv d b (by rw[z];exact e))];exact h.at' j d b e⟩
theorem Ll {P Z:Addr->Prop}{σ:L2.St}{H:Hp}(re:RE K P env σ H F)(hz:∀i,∀a∈F i,Z a)(i:Nat):∃F',RE K P (env.set i η) σ H F'/\∀i,∀a∈F' i,Z a:=by
 refine⟨_,re.forget (env':=env.set i η) (aq ..) (λj d t e=>?_),λj a ha=>?_⟩
 .by_cases hj:i=j
  .subst hj;rw[ň] at e;simp at e
  .rwa [ο hj] at e
 .split at ha
  .exact hz j a ha
  .cases ha
variable {n:Nat}{cS cM fI f:Addr}{fd NV:io}{stI:Stmt}{cs:List Addr}{h:Heap}
theorem vU (KX:K.In h)(G:h.Ns dL mg)(I:p.In K mg)(hH:vX w K)(ih:mZ p P w K mg base n)(hh:Kk K mg cS cM fI NV stI cs)(F:L2.sf K "_law_refused" "_law_refused" (st 54) f fd)
  (hi:mg "isinstance" = η) (hv:mg "ValueError" = η) (h1:mg "int" = η) (h2:mg "bool" = η):nN P w K mg base tU (n+1) f fd nJ.ps (Dr K 5 (p.run (n+1) 31)):=by
 obtain⟨c1,c2,c3,c4,c5,c6,c7,c8,rfl⟩:=UW hh.l;obtain⟨⟨o1,n1⟩,⟨o2,n2⟩,⟨o3,n3⟩,⟨o4,n4⟩,⟨o5,n5⟩,⟨o6,n6⟩,⟨o7,n7⟩,⟨o8,n8⟩,_⟩:=hh.o;obtain⟨f',OX,F',m'⟩:=I.fn 22 nH rfl;obtain⟨fW,fdW,FW,mW⟩:=I.fn 24 zE rfl;have B':=F'.binds (cG ok nH (Κ (i:=22) rfl)).bd;have BW:=FW.binds (cG ok zE (Κ (i:=24) rfl)).bd;have SW:bQ zE.N zE.ps (aB (st 46)):=iG (p:=p) (d:=zE) (n:=60) (by decide +kernel);have S:bQ nJ.N nJ.ps (aB (st 54)):=iG (p:=p) (d:=nJ) (n:=60) (by decide +kernel);have FWk:=whole (P:=P) (w:=w) (base:=base) FW SW hi h1 h2;have EP:FX K cM:=C7 hh.k.cls;have N:TZ K mg cS cM fI NV stI:=⟨hh.k,hh.m,hh.mB,vL hh.mB,hh.mm⟩;refine (tw (RP:=gQ (n+1)) F S (λA r=>⟨r.hd,r.depth⟩) (λvs H Q E h=>sU h) λMe A outer s H vs Q E hr hs=>?_).plain;obtain⟨ds,G0,hl,rs,r,Mz,kQ⟩:=hs;obtain⟨g8,hr1,a,b,k,sp,M,RC,rfl⟩:=asked (n:=n) Mz hl;obtain⟨m,rfl⟩:∃m,n=m+5:=⟨n-5,by omega⟩;have C:nE (cB tU P w K mg base nJ.N "_law_refused" (aB (st 54)) f Me A outer s H E).MH.MH (p.sc nJ) (T (m+5)):=vt (p:=p) (CX:=tU) (nm:="_law_refused") (E:=E) (cG ok) I hH ih S (hr.deeper _);have MS:hU (cB tU P w K mg base nJ.N "_law_refused" (aB (st 54)) f Me A outer s H E).MH ((aV (st 54)).drop 2)
   (λD σ H1=>∃(Pr Z:Addr->Prop) (env:En) (F0:Nat->List Addr),RE K Pr env σ H1 F0/\(∀i,∀a∈F0 i,Z a)/\(∀a,¬ Pr a->Z a)/\Tv env (LR a b k sp M [θ (.bl ε,ζ),η,η])/\∀v H' G',Rep K H' (.bl ζ) v G'->jV Pr H1 H'->D.rt v H'):=by
  intro pins s1 σ H1 D Iv ⟨Pr,Z,env0,F00,re0,hz0,zp,V0,hD⟩;obtain⟨F0,re,hz⟩:=Ll re0 hz0 7;have V:=JS V0 7 λd b z=>by cases z
  have e7:∀d t,(env0.set 7 η)[7]?≠θ (θ (d,t)):=λd t z=>by
   rw[ň] at z;simp at z
  generalize env0.set 7 η=env at re V e7;refine ww (Θ (Q:=L2.SP _ pins { D with nx:=λσ' H'=>∃(env':En) (F':Nat->List Addr),RE K Pr env' σ' H' F'/\Tv env' (LR a b k sp M [θ (.bl ζ,ζ),η,θ (.bl ε,ζ)])/\jV Pr H1 H' }) (C9 (fq:=ε) (x:="block") (i:=7) (ts:=tsR K cM c1 c2 c3 c4 c5 c6 c7 c8) (W:=λC' m H'=>C'=.ref cM/\m=k/\aG H1 H') rfl rfl Iv.ok S.nd rfl rfl rfl hh.k.hS hh.sB
   (λa' o dx od C' k' H' hW hc OQ QJ NU=>?su) (λC' k' H' hW=>?w) (by decide)
   (zW (Q:=λ_ _=>False) Iv (qH (IU I hH ih N F') (fY.of hr (by decide) _) rfl m' F'.kp B' .nil Iv (bY (cQ 60 C.c) (cs:=WZ) rfl) ?h) λ_ _ q=>q.elim)) (λfl s2 q=>?_) λ_ _ z=>z)
  case h=>
   obtain⟨l,y1,y2⟩:=HF (m+5) V;refine⟨Pr,env,F0,re,l,y1,λvs H2 G2 ar=>?_⟩;show BY _ 4 cM _ (vs ++ []) H2 _ _;rw[aw];exact Gm (by rw[y2];rfl) ar.Mp (by rw[y2];exact Lj m RC) λH' sm=>⟨k,rfl,rfl,rfl,ar.same.trans sm⟩
  case su=>
   have hc:o.cls=.ref cM:=hc.trans hW.1;have ea:∀{p p':No},PE (iW (pZ (cB tU P w K mg base nJ.N "_law_refused" (aB (st 54)) f Me A outer s H E).MH dx od) a' o) (.Attribute (.Name "e" p) "block" p') (C8 7 a' k'):=λ{p p'}=>IF (X:=(cB tU P w K mg base nJ.N "_law_refused" (aB (st 54)) f Me A outer s H E).MH) hh.k.cls hh.k.nx hc OQ QJ NU (pv 7)
   exact eN (pQ (i:=8) S.nd rfl (.inl rfl) (gH (kM EP hc) rfl hi Os (aM (pv 7) (aM (vq (aM (fD rfl (eo KX G o1.1) rfl) (aM (fD rfl (eo KX G o2.1) rfl) (aM (fD rfl (eo KX G o3.1) rfl) (aM (fD rfl (eo KX G o4.1) rfl) (aM (fD rfl (eo KX G o5.1) rfl) (aM (fD rfl (eo KX G o6.1) rfl) (aM (fD rfl (eo KX G o7.1) rfl) (aM (fD rfl (eo KX G o8.1) rfl) cY))))))))) cY))))
    (eN (pQ (i:=6) S.nd rfl (.inl rfl) (pC (gH (kM EP hc) rfl hi Os (aM (pv 7) (aM (fD rfl hh.m rfl) cY))) (pC (gH (kM EP hc) rfl hi Os (aM (pv 7) (aM (nR (v:=.ty "ValueError") rfl hv (by rfl) rfl) cY))) (rJ (wJ (pv 8))))))
    (lG (Bu (IK (pv 6)) (lG (pQ (i:=6) S.nd rfl (.inl rfl) (pC (C1 (X:=iW (pZ (cB tU P w K mg base nJ.N "_law_refused" (aB (st 54)) f Me A outer s H E).MH dx od) a' o) (y:="_law_whole") FWk (show A.depth+1+1<_ by have:=hr.dp;omega) rfl mW FW.kp BW (aM ea cY)) (rJ (HI (HQ ea (pv 4))))))) nX)))
  case w=>
   obtain⟨rfl,rfl,sm⟩:=hW;refine⟨⟨cM,rfl,vL hh.mB,hh.sm⟩,λa'=>?_⟩;have ln:σ.length=9:=by rw[<-re.len];exact V.len
   obtain⟨v4,e4,r4⟩:=(let ⟨t,e,_⟩:=V.at' 4 _ _ rfl;re.val 4 _ t e);obtain⟨rfl,_⟩:=r4.int_inv;have g7:(σ.set 7 (θ (L2.V.ref a')))[7]? = θ (θ (L2.V.ref a')):=ω (by omega);refine⟨.ref a',g7,(show (8:Nat)<=sizeLine by decide),λq hp=>.inr (.inr ⟨q,[c1,c2,c3,c4,c5,c6,c7,c8],rfl,aZ,?_,?_⟩)⟩
   .intro D hD;simp only[dm,cx,or_false] at hD;rcases hD with rfl|rfl|rfl|rfl|rfl|rfl|rfl|rfl
    .exact o1.2
    .exact o2.2
    .exact o3.2
    .exact o4.2
    .exact o5.2
    .exact o6.2
    .exact o7.2
    .exact o8.2
   .have e:(([c1,c2,c3,c4,c5,c6,c7,c8].map (dQ K cM)).any id)=ε:=by
     simp only[bo,è,jc,List.any_nil,n1,n2,n3,n4,n5,n6,n7,n8];rfl
    rw[e];have s8:((σ.set 7 (θ (L2.V.ref a'))).set 8 (θ (.bl ε)))[7]? = θ (θ (L2.V.ref a')):=by rw[ο (by decide)];exact g7
    have t8:((σ.set 7 (θ (L2.V.ref a'))).set 8 (θ (.bl ε)))[8]? = θ (θ (.bl ε)):=ω (by rw[aq];omega);have s6:(((σ.set 7 (θ (L2.V.ref a'))).set 8 (θ (.bl ε))).set 6 (θ (.bl ζ)))[7]? = θ (θ (L2.V.ref a')):=by rw[ο (by decide)];exact s8
    have t6:(((σ.set 7 (θ (L2.V.ref a'))).set 8 (θ (.bl ε))).set 6 (θ (.bl ζ)))[6]? = θ (θ (.bl ζ)):=ω (by rw[aq,aq];omega);have u4:(((σ.set 7 (θ (L2.V.ref a'))).set 8 (θ (.bl ε))).set 6 (θ (.bl ζ)))[4]? = θ (θ (.int k')):=by rw[ο (by decide),ο (by decide),ο (by decide)];exact e4
    refine⟨.ref a',s8,.inl ⟨cM,rfl,vL hh.mB,ζ,dg L2.V.bl hh.mm,?_⟩⟩;refine⟨.ref a',s8,.inr (.inl ⟨rfl,ζ,rfl,?_⟩)⟩;refine⟨.bl ε,t8,ε,rfl,?_⟩;refine⟨.bl ζ,t6,ζ,rfl,?_⟩;refine⟨s6,k',rfl,ζ,rfl,?_⟩;have XX:=sm.trans (aG.new (o:=.tup [.ref c1,.ref c2,.ref c3,.ref c4,.ref c5,.ref c6,.ref c7,.ref c8]) hp);obtain⟨F1,a1⟩:=vQ (i:=8) (d:=.bl ε) (v:=.bl ε) (uo (i:=7) (x:=θ (L2.V.ref a')) (re.same XX) e7) hz zp (by rw[V.len];exact (by decide:(8:Nat)<9)) (.bl _);obtain⟨F2,a2⟩:=vQ (i:=6) (d:=.bl ζ) (v:=.bl ζ) a1.re a1.z zp (by rw[jJ,V.len];exact (by decide:(6:Nat)<9)) (.bl _);obtain⟨F3,a3⟩:=vQ (i:=6) (d:=.bl ζ) (v:=.bl ((k':Int)==k')) a2.re a2.z zp (by rw[jJ,jJ,V.len];exact (by decide:(6:Nat)<9)) (by rw[gu];exact .bl _);have V1:=((V.set 8 (.bl ε) .own ζ (aI _) λ_=>rfl).set 6 (.bl ζ) .own ζ (aI _) λ_=>rfl).set 6 (.bl ζ) .own ζ (aI _) λ_=>rfl
    have ee:put (put (put env 8 (.bl ε) .own) 6 (.bl ζ) .own) 6 (.bl ζ) .own=((env.set 8 (θ (.bl ε,.own))).set 6 (θ (.bl ζ,.own))).set 6 (θ (.bl ζ,.own)):=by
     rw[bN V.tm,bN (V.tm.set (aI _) 8),bN ((V.tm.set (aI _) 8).set (aI _) 6)]
    have r3:=a3.re;rw[ee] at r3;refine⟨s6,.int k',u4,k',k',rfl,rfl,?_⟩;refine⟨_,F3,uo (i:=7) (x:=η) r3 (λd t z=>?_),V1,jV.of_same re.pl XX⟩;rw[ο (by decide),ο (by decide),ο (by decide)] at z;exact e7 d t z
  cases fl with
  |next=>
   obtain⟨σ',H',J,env',F1,O9,V',ev'⟩:=q;obtain⟨R,hE⟩:=Kx (m+5) V';exact lG (wW (cQ 60 C.c _ wE rfl).1) pins s2 _ H' D J ⟨Pr,env',F1,O9,_,hE,λv H2 G2 sm rp rt=>hD v H2 G2 rp (ev'.trans (jV.of_same O9.pl sm))⟩
  |ret u=>exact q
  |brk=>exact q
  |cont=>exact q
 refine⟨_,hU.MH (vk C MS 60 ((aV (st 54)).take 2) w0 rfl),?_⟩;obtain⟨F0,re,hF⟩:=entry (N:=nJ.N) rs (show (5:Nat)<=9 by decide);obtain⟨e0,q0,V0⟩:=KZ (m+5) a b k sp M;refine⟨λa=>H a≠η,λa=>H a=η\/a∈G0,_,F0,re,λj a ha=>.inr (hF j a ha),λa h=>.inl (wp.mp h),?_⟩;show post _ _ _ _ _ _ _ (aE (T (m+5)) w0 (aD _ 9));rw[q0];intro σ1 H1 F1 af;refine⟨_,_,e0,F1,af.re,af.z,λa h=>.inl (wp.mp h),V0,λv H' G' rp ev=>?_⟩;have:=rp.flat rfl;subst this;refine kQ v H' [] (fH (af.ev.trans ev)) (by rw[hr1];exact rp) (λ_ z=>(nomatch z)) λ_=>⟨bc,λ_ z=>(nomatch z)⟩
end
end K24
end
section
namespace K24
open PySem Pc Pc.Sm Pc.Gr Pc.Lw Pc.Vw Fl64 Md
structure oQ (a b:Nat)(dt:List Nat)(wl ml:Nat->List Nat)(sp M:List Nat):Prop where
 gr:Gr sp
 len:sp.length=rm a
 at':∀j,j<nb a->∀k,k<(CT a).getD j 0->(k∈wl j↔(row a b dt j).getD k 0≠sp.getD (pos a j k) 0)
 mm:∀j,j<nb a->∀k,k<(CT a).getD j 0->(pos a j k∈M↔k∈ml j)
noncomputable def up1 (f:Nat->List Nat)(j:Nat)(l:List Nat):Nat->List Nat:=λi=>if i=j then l else f i
theorem jC (f:Nat->List Nat)(j:Nat)(l:List Nat):up1 f j l j=l:=if_pos rfl
variable {j:Nat}
theorem la {f:Nat->List Nat}{i:Nat}{l:List Nat}(h:i≠j):up1 f j l i=f i:=if_neg h
theorem pN (f:Nat->List Nat)(j:Nat):up1 f j (f j)=f:=funext λi=>by unfold up1;split<;>simp_all
theorem wY (f:Nat->List Nat)(j:Nat)(l r:List Nat):up1 (up1 f j l) j r=up1 f j r:=funext λi=>by unfold up1;split<;>rfl
variable {k:Nat}{m:List Nat}
section
variable {a b:Nat}{dt:List Nat}{wl ml:Nat->List Nat}{sp M:List Nat}
theorem EK (ha:a<5)(hj:j<nb a)(hk:k<(CT a).getD j 0):(wrap a b dt).getD (pos a j k) 0=(row a b dt j).getD k 0:=by
 have h:=(mE ha hj hk).1;unfold wrap;rw[ι,π,sw h];show wv a _ _=_;rw[CZ ha _ hj hk];congr 1;unfold rows;rw[ι,π,sw hj];rfl
theorem A6:(wrap a b dt).length=rm a:=by unfold wrap;simp
theorem oQ.new (ha:a<5)(hg:Gr (wrap a b dt)):oQ a b dt (λ_=>[]) (λ_=>[]) (wrap a b dt) [] :=
 ⟨hg,A6,λj hj k hk=>⟨λh=>(nomatch h),λh=>absurd (EK ha hj hk).symm h⟩,λj hj k hk=>⟨λh=>(nomatch h),λh=>(nomatch h)⟩⟩
theorem oQ.step (ha:a<5)(s:oQ a b dt wl ml sp M){z:Nat}(hj:j<nb a)(hk:k<(CT a).getD j 0)(hz:z<64)(Oh:(row a b dt j).getD k 0≠z):oQ a b dt (up1 wl j (wl j ++ [k])) ml (sp.set (pos a j k) z) M:=by
 have pl:pos a j k<sp.length:=by rw[s.len];exact (mE ha hj hk).1
 refine⟨DL s.gr hz,by rw[aq,s.len],λi hi q hq=>?_,s.mm⟩;by_cases h:pos a i q=pos a j k
 .obtain⟨rfl,rfl⟩:=sy ha hi hq hj hk h;rw[jC,Ab pl];exact⟨λ_=>Oh,λ_=>ig.mpr (.inr (jm.mpr rfl))⟩
 .rw[yH h];by_cases e:i=j
  .subst e;rw[jC,ig,jm];exact⟨λx=>x.elim (s.at' i hi q hq).mp λx=>absurd (dg _ x) h,λx=>.inl ((s.at' i hi q hq).mpr x)⟩
  .rw[la e];exact s.at' i hi q hq
theorem oQ.miss (ha:a<5)(s:oQ a b dt wl ml sp M)(hj:j<nb a){ks:List Nat}(hk:∀k∈ks,k<(CT a).getD j 0):oQ a b dt wl (up1 ml j (ml j++ks)) sp (M++ks.map (pos a j)):=by
 refine⟨s.gr,s.len,s.at',λi hi q hq=>?_⟩;rw[ig,s.mm i hi q hq];by_cases e:i=j
 .subst e;rw[jC,ig];refine⟨λx=>x.imp id λx=>?_,λx=>x.imp id λx=>List.mem_map_of_mem x⟩;obtain⟨k,h1,h2⟩:=Δ.mp x;obtain⟨_,rfl⟩:=sy ha hi (hk k h1) hi hq h2;exact h1
 .rw[la e];refine⟨λx=>x.elim id λx=>?_,.inl⟩;obtain⟨k,h1,h2⟩:=Δ.mp x;exact absurd (sy ha hj (hk k h1) hi hq h2).1.symm e
structure Bl (n:Nat)(w m:List Nat):Prop where
 wa:w.Pairwise (· < ·)
 wl:∀k∈w,k<n
 ma:m.Pairwise (· < ·)
 ml:∀k∈m,k<n
 di:∀k∈w,k∉m
theorem Ag (hk:k<(CT a).getD j 0):(jT a sp j).getD k 0=sp.getD (pos a j k) 0:=by
 unfold jT;rw[ι,π,sw hk];rfl
theorem kA:(jT a sp j).length=(CT a).getD j 0:=by unfold jT;rw[aj,bq]
theorem BM (s:oQ a b dt wl ml sp M)(hj:j<nb a)(B:Bl ((CT a).getD j 0) (wl j) (ml j)):ku a M j=ml j:=by
 refine wd ((mz _).filter _) B.ma λp=>?_
 rw[ku,ie,pi,u8];exact⟨λ⟨h1,h2⟩=>(s.mm j hj p h1).mp h2,λh=>⟨B.ml p h,(s.mm j hj p (B.ml p h)).mpr h⟩⟩
theorem XR (s:oQ a b dt wl ml sp M)(hj:j<nb a)(B:Bl ((CT a).getD j 0) (wl j) m):wl j=bE (jT a sp j) (row a b dt j) m:=by
 refine wd B.wa ((mz _).filter _) λp=>?_
 rw[bE,ie,pi,kA];simp only[ai,fk,bne_iff_ne,ne_eq];constructor
 .intro h;have h1:=B.wl p h;refine⟨h1,?_,by rw[Ag h1];exact (s.at' j hj p h1).mp h⟩;cases z:m.contains p with
  |false=>rfl
  |true=>exact absurd (u8.mp z) (B.di p h)
 .rintro⟨h1,h2,h3⟩;rw[Ag h1] at h3;exact (s.at' j hj p h1).mpr h3
theorem good (ha:a<5)(hb:b<4)(hl:dt.length=(DU a b).sum)(hd:Gr dt)(s:oQ a b dt wl ml sp M)(hj:j<nb a)(B:Bl ((CT a).getD j 0) (wl j) m)(le:2*(wl j).length+m.length<=C a b):K16.Case (C a b) (row a b dt j) (jT a sp j) (wl j) m:=by
 have pl:=iQ ha hb hl hj;obtain⟨r1,r2,r3⟩:=j4 (a:=a) (b:=b) hd j;have lr:(row a b dt j).length=(CT a).getD j 0:=by rw[r3,pl.2,(jQ ha hb hj).1]
 have Qw:=(jQ ha hb hj).2;exact⟨(fact ha hb).2.2.2.2.1,r1,mG s.gr,by rw[kA,lr],by omega,r2,B.ma.imp λh=>by omega,λp hp=>by rw[lr];exact B.ml p hp,XR s hj B,le⟩
theorem B2 (ha:a<5)(hb:b<4){W:List Nat}(K:K16.Case (C a b) (row a b dt j) (jT a sp j) W m):rC (jT a sp j) m (C a b)=ε :=
 (jK K.gs (by rw[K.len];exact K.U1) (by have:=K.c26;omega) K.nd (λp hp=>by rw[K.len];exact K.lt p hp) ⟨K.gr,K.len.symm,K.code,by rw[<-K.wr];exact K.le⟩).2
theorem xW (g y mi:List Nat)(p:Nat):(bE g y (p::mi)).length<=(bE g y mi).length/\(p∈bE g y mi->(bE g y (p::mi)).length<(bE g y mi).length):=by
 have e:bE g y (p::mi)=(bE g y mi).filter λq=>!(q==p):=by
  unfold bE;rw[â];refine ï λq _=>?_
  rw[dk];cases q==p<;>simp
 rw[e];exact⟨il _ _,λh=>List.length_filter_lt_length_iff_exists.mpr ⟨p,h,by simp⟩⟩
theorem EY (ha:a<5)(hb:b<4)(hl:dt.length=(DU a b).sum)(hd:Gr dt)(s:oQ a b dt wl ml sp M){p0:Nat}(hj:j<nb a)(B:Bl ((CT a).getD j 0) (wl j) [p0])(le:2*(wl j).length=C a b):rC (jT a sp j) [p0] (C a b)=ζ:=by
 cases hf:rC (jT a sp j) [p0] (C a b) with
 |true=>rfl
 |false=>
  exfalso;obtain⟨n1,n2,n3,n4⟩:=uQ (mG s.gr) hf;obtain⟨f1,f2,f3,f4,f5,f6,_⟩:=fact ha hb;have pl:=iQ ha hb hl hj;obtain⟨r1,r2,r3⟩:=j4 (a:=a) (b:=b) hd j;have lr:(row a b dt j).length=(CT a).getD j 0:=by rw[r3,pl.2,(jQ ha hb hj).1]
  have Qw:=(jQ ha hb hj).2;have W:=XR s hj B;obtain⟨k0,hk⟩:∃k0,k0∈wl j:=by
   cases h:wl j with
   |nil=>rw[h] at le;simp at le;omega
   |cons x r=>exact⟨x,ag⟩
  have nd:[k0,p0].Nodup:=by
   have:=B.di k0 hk;simp at this ⊢;exact this
  have lt:∀p∈[k0,p0],p<(jT a sp j).length:=λp hp=>by
   rw[kA];simp at hp;rcases hp with rfl|rfl
   .exact B.wl _ hk
   .exact B.ml _ (jm.mpr rfl)
  have m1:=(xW (jT a sp j) (cA (jT a sp j) [p0] (C a b)) [p0] k0).1;have m2:=(xW (jT a sp j) (row a b dt j) [p0] k0).2 (by rw[<-W];exact hk);rw[<-W] at m2;simp only[br,jf] at n4;have e1:=(jK (mG s.gr) (by rw[kA];omega) (by omega) nd lt (y:=cA (jT a sp j) [p0] (C a b)) ⟨n1,n2,n3,by simp only[br,jf];omega⟩).1;have e2:=(jK (mG s.gr) (by rw[kA];omega) (by omega) nd lt (y:=row a b dt j) ⟨r1,by rw[kA,lr],r2,by simp only[br,jf];omega⟩).1;rw[<-e1,e2,<-W] at n4;omega
end
theorem ix8 (j:Int):∃a:Nat,a<5/\Jj (.lst [.int 23,.int 31,.int 23,.int 15,.int 27,.int 23,.int 31,.int 19]) (.int (j%8))=θ (iI a):=by
 have h:j%8=0\/j%8=1\/j%8=2\/j%8=3\/j%8=4\/j%8=5\/j%8=6\/j%8=7:=by omega
 rcases h with h|h|h|h|h|h|h|h<;>rw[h]
 .exact⟨2,by omega,rfl⟩
 .exact⟨4,by omega,rfl⟩
 .exact⟨2,by omega,rfl⟩
 .exact⟨0,by omega,rfl⟩
 .exact⟨3,by omega,rfl⟩
 .exact⟨2,by omega,rfl⟩
 .exact⟨4,by omega,rfl⟩
 .exact⟨1,by omega,rfl⟩
noncomputable def s0:St:=(.asg (.nm 1) (.call 26 (L6 (.call 25 (L6 LN LA)) Lz)) ε)
noncomputable def s1:St:=(.asg (.nm 2) (.ix (.lst (.cons LF (.cons LD (.cons LF (.cons LG (L8 (LJ 27) LF LD (LJ 19))))))) (.bin .Mod LO LH)) ε)
noncomputable def s2:St:=match Fo with
 |.cons _ (.cons _ (.cons s _))=>s
 |_=>.pass
noncomputable def s3:St:=match Fo with
 |.cons _ (.cons _ (.cons _ (.cons s _)))=>s
 |_=>.pass
noncomputable def s4:St:=(.asg (.nm 5) (.bin .Mod (.bin .FloorDiv LO LH) LI) ε)
noncomputable def s5:aU:=match Fo with
 |.cons _ (.cons _ (.cons _ (.cons _ (.cons _ r))))=>r
 |_=>.nil
theorem Ht:Fo=.cons s0 (.cons s1 (.cons s2 (.cons s3 (.cons s4 s5)))):=rfl
noncomputable def lv (a b:Nat):Nat:=if a<3 then b else b%2
variable {b:Nat}
theorem Fs {a:Nat}(hb:b<4):lv a b<4/\(a<3\/lv a b<2):=by
 unfold lv;split<;>omega
noncomputable abbrev XZ (a b:Nat):D:=.tup [iI a,.int (b:Int),.lst (gD (CT a)),.int (C a b:Int)]
noncomputable abbrev sX (X:List D):Slot:=θ (.lst X,.sh [])
variable {a n:Nat}
theorem tail (X:List D)(d:Int)(ha:a<5)(hb:b<4):Pc.ret (aE (T n) s5 [sX X,sI d,θ (iI a,.own),sN (rm a),sN (nb a),sN b,η,η])=.ok (XZ a (lv a b),ζ):=by
 rcases n5 ha with rfl|rfl|rfl|rfl|rfl<;>rcases n4 hb with rfl|rfl|rfl|rfl<;>kernel_rfl
theorem mid (X:List D)(d:Int)(ha:a<5):bH (T n) s2 [sX X,sI d,θ (iI a,.own),η,η,η,η,η]=.nx [sX X,sI d,θ (iI a,.own),sN (rm a),η,η,η,η]/\bH (T n) s3 [sX X,sI d,θ (iI a,.own),sN (rm a),η,η,η,η]=.nx [sX X,sI d,θ (iI a,.own),sN (rm a),sN (nb a),η,η,η]:=by
 rcases n5 ha with rfl|rfl|rfl|rfl|rfl<;>exact⟨by kernel_rfl,by kernel_rfl⟩
theorem h28 (m:Nat)(ns:List Int):∃a b:Nat,a<5/\b<4/\(a<3\/b<2)/\(T (m+2)).cl 28 [.lst (ns.map D.int)]=.ok (XZ a b,ζ):=by
 obtain⟨v,hv⟩:=K0 m ns 0;obtain⟨d,_,hd⟩:=Jk m v 1;obtain⟨a,ha,hx⟩:=ix8 d;obtain⟨b,hb,Ng⟩:∃b:Nat,b<4/\d / 8%4=(b:Int):=⟨(d / 8%4).toNat,by omega,by omega⟩;refine⟨a,lv a b,ha,(Fs hb).1,(Fs (a:=a) hb).2,?_⟩;rw[mj];rw[aW (F:=⟨1,8,Fo⟩) rfl rfl];show Pc.ret (aE (T (m+1)) Fo (aD [.lst (ns.map D.int)] 8))=_;have OK:aD [.lst (ns.map D.int)] 8=[θ (.lst (ns.map D.int),.sh []),η,η,η,η,η,η,η]:=rfl;rw[OK,Ht];have tn:=mR;have V0:Tv [θ (.lst (ns.map D.int),.sh []),η,η,η,η,η,η,η] [θ (.lst (ns.map D.int),ε),η,η,η,η,η,η,η]:=Tv.start [.lst (ns.map D.int)] 8;have t0:=yi (D.lst (ns.map D.int));have q0:bH (T (m+1)) s0 [θ (.lst (ns.map D.int),.sh []),η,η,η,η,η,η,η]=.nx [θ (.lst (ns.map D.int),.sh []),sI d,η,η,η,η,η,η]:=sD (d:=.int d) (i:=1) V0.tm (by simp) (bV (aC.of (bV (V0.var (i:=0) rfl) (aC.cst _) hv)) (aC.cst _) hd);generalize ns.map D.int=X at *;have q1:bH (T (m+1)) s1 [sX X,sI d,η,η,η,η,η,η]=.nx [sX X,sI d,θ (iI a,.own),η,η,η,η,η]:=sD (d:=iI a) (i:=2) (.cons t0 (.cons (aI _) (.cons tn (.cons tn (.cons tn (.cons tn (.cons tn (.cons tn .nil)))))))) (by simp) (U3 (aC.ix ⟨_,rfl⟩ (aC.bin (z:=.int (d%8)) ⟨_,rfl⟩ (aC.cst _) rfl) hx) rfl);have q4:bH (T (m+1)) s4 [sX X,sI d,θ (iI a,.own),sN (rm a),sN (nb a),η,η,η]=.nx [sX X,sI d,θ (iI a,.own),sN (rm a),sN (nb a),sN b,η,η]:=by
  show _=Fl.nx [sX X,sI d,θ (iI a,.own),sN (rm a),sN (nb a),θ (.int (b:Int),.own),η,η];rw[<-Ng];rfl
 exact K16.sq q0 (K16.sq q1 (K16.sq (mid X d ha).1 (K16.sq (mid X d ha).2 (K16.sq q4 (tail X d ha hb)))))
variable {e:En}{s:St}{x:Nat}
section
variable {T0:Tb}{env:En}{vs:List (Option (D×Bool))}
theorem tK {e':En}{r:aU}(h:bH T0 s env=.nx e)(h':aE T0 r e=.nx e'):aE T0 (.cons s r) env=.nx e':=by
 rw[aE,h,cL,h']
theorem nz {c:Ex}{k:Bool}{p q:aU}(h:aC T0 c env (.bl k))(hp:k=ζ->aE T0 p env=.nx e)(hq:k=ε->aE T0 q env=.nx e):bH T0 (.ite c p q) env=.nx e:=by
 rw[ze h];cases k with
 |true=>exact hp rfl
 |false=>exact hq rfl
theorem AW {y z:Nat}{a e:Ex}{xs ys rest zs:List D}{d:D}{n k:Int}{jj:Nat}{R R':Rt}(ht:Tame env)(Pq:y≠x)(U7:z≠x)(hx:env[x]? = θ (θ (.lst xs,.own)))(hy:env[y]? = θ (θ (.lst ys,.own)))(hz:env[z]? = θ (θ (.lst zs,.own)))(ha:ev T0 a env=.ok (.int n,R))(he:ev T0 e env=.ok (d,R'))(hp:pI xs [d]=θ (.int k,rest))(lx:rest.length<=lim)(ly:(ys ++ [D.int (jj:Int)]).length<=lim)(lz:zs.length<=lim)
  (hj:ou 20 (.tup [.int n,.int k]) zs=θ jj):bH T0 (.Nl y z x a (.cons e .nil)) env=.nx ((env.set x (θ (.lst rest,.own))).set y (θ (.lst (ys ++ [D.int (jj:Int)]),.own))):=by
 have ox:ownAt env x=θ (.lst xs):=by unfold ownAt;rw[hx]
 have Sn:aR T0 (.cons e .nil) env=.ok [(d,R')]:=by rw[aR,he,aA,aR,aA]
 have m1:bW x η env (.lst xs) rest []=.nx (env.set x (θ (.lst rest,.own))):=by
  unfold bW;show (if (decide ([]:List Nat).Nodup&&dD env [] && !([]:List Nat).contains x&&decide (rest.length<=lim))=ζ then Fl.nx ((kill [x] env).set x (θ (.lst rest,.own))) else .bad)=_;rw[if_pos (by rw[cu lx];rfl),gO ht]
 have Ue:Tame (env.set x (θ (.lst rest,.own))):=ht.set (aI _) x;have oy:ownAt (env.set x (θ (.lst rest,.own))) y=θ (.lst ys):=by unfold ownAt;rw[ο (bw Pq),hy]
 generalize hw:ys ++ [D.int (jj:Int)]=ws at ly;have m2:bW y η (env.set x (θ (.lst rest,.own))) (.lst ys) ws []=.nx ((env.set x (θ (.lst rest,.own))).set y (θ (.lst ws,.own))):=by
  unfold bW;show (if (decide ([]:List Nat).Nodup&&dD (env.set x (θ (.lst rest,.own))) [] && !([]:List Nat).contains y&&decide (ws.length<=lim))=ζ then Fl.nx ((kill [y] (env.set x (θ (.lst rest,.own)))).set y (θ (.lst ws,.own))) else .bad)=_;rw[if_pos (by rw[cu ly];rfl),gO Ue]
 have RX:pH (env.set x (θ (.lst rest,.own))) z (.int n) (.int k)=θ jj:=by
  unfold pH;rw[ο (bw U7),hz];dsimp only;rw[if_pos lz,hj]
 rw[bH,if_neg Pq,ox];dsimp only[D.Mv];rw[ha,bC,Sn,bC,JM,hp];dsimp only;rw[m1];dsimp only[Fl.andThen];rw[RX];dsimp only;rw[oy];dsimp only[D.Mv];rw[hw];exact m2
theorem Tv.Nl (h:Tv env vs){x y z:Nat}(Pq:y≠x)(U7:z≠x){xs ys:List Nat}{zs:List D}(hx:vs[x]? = θ (θ (.lst (gD xs),ζ)))(hy:vs[y]? = θ (θ (.lst (gD ys),ζ)))(hz:vs[z]? = θ (θ (.lst zs,ζ))){a e:Ex}{n i jj:Nat}(ha:aC T0 a env (.int (n:Int)))(he:aC T0 e env (.int (i:Int)))(hi:i<xs.length)(lx:xs.length<=1000)(ly:ys.length<1000)(lz:zs.length<=lim)(hj:ou 20 (.tup [.int (n:Int),.int ((xs.getD i 0:Nat):Int)]) zs=θ jj) :
  ∃env',bH T0 (.Nl y z x a (.cons e .nil)) env=.nx env'/\Tv env' ((vs.set x (θ (.lst (gD (xs.eraseIdx i)),ζ))).set y (θ (.lst (gD (ys ++ [jj])),ζ))):=by
 obtain⟨R,ha⟩:=ha;obtain⟨R',he⟩:=he;have ga:gD (ys ++ [jj])=gD ys ++ [D.int (jj:Int)]:=iY _ _;have:=AW h.tm Pq U7 (h.own hx) (h.own hy) (h.own hz) ha he (FD hi lx) (by rw[cD];exact j7 (bp (Đ ..) lx)) (by rw[<-ga,cD];exact j7 (by simp;omega)) lz hj;rw[<-ga] at this;exact⟨_,this,(h.set x _ .own ζ (aI _) λ_=>rfl).set y _ .own ζ (aI _) λ_=>rfl⟩
end
theorem wI (ha:a<5)(hj:j<nb a)(hk:k<(CT a).getD j 0):yI .Mq (.lst (zX (SP a))) [.tup [.int (j:Int),.int (k:Int)]]=θ (.int (pos a j k:Int)):=by
 have h:=aS (aS (aS U6 a ha) j hj) k hk;split at h
 .rename_i i e;rw[e,az h]
 .cases h
theorem KC (ha:a<5)(hj:j<nb a)(hk:k<(CT a).getD j 0):ou 20 (.tup [.int (j:Int),.int (k:Int)]) (zX (SP a))=θ (pos a j k)/\(zX (SP a)).length<=lim:=by
 have h:=wI ha hj hk;have h:(if (zX (SP a)).length<=lim then (ou 20 (.tup [.int (j:Int),.int (k:Int)]) (zX (SP a))).map λ(j:Nat)=>D.int (j:Int) else η)=θ (.int (pos a j k:Int)):=h;split at h
 .rename_i hl;obtain⟨i,e1,e2⟩:=ae.mp h;refine⟨?_,hl⟩;rw[e1];congr 1;cases e2;rename_i e;omega
 .cases h
noncomputable abbrev bt (v:Ex)(c:Nat)(n:Ex):Ex:=.cmp .Eq (.bin .BitAnd (.bin .RShift (.bin .FloorDiv v (.cst (.int (c:Int)))) n) Lz) Lz
noncomputable def Ji (d c x:Nat):Bool:=Go (((d / c:Nat):Int) / 2 ^ x) 1==1
variable {d:Nat}{env:En}
theorem E8 {T0:Tb}{v n:Ex}{c:Nat}(hc:0<c)(OT:c<1073741824)(h:aC T0 v env (.int (d:Int)))(h':aC T0 n env (.int (x:Int))):aC T0 (bt v c n) env (.bl (Ji d c x)):=by
 have e1:aC T0 (.bin .FloorDiv v (.cst (.int (c:Int)))) env (.int ((d / c:Nat):Int)):=aC.bin h (aC.cst _) (by
  rw[iJ];show ((if 0<(c:Int)/\(c:Int)<1073741824 then θ ((d:Int) / (c:Int)) else η).map D.int)=_;rw[if_pos (by omega),ŝ];rfl)
 have e2:=aC.bin (op:=.RShift) (z:=.int (((d / c:Nat):Int) / 2 ^ x)) e1 h' (by
  rw[iJ];show (if (0:Int)<=(x:Int) then θ _ else η).map D.int=_;rw[if_pos (by omega)];rfl)
 have e3:=aC.bin (op:=.BitAnd) (z:=.int (Go (((d / c:Nat):Int) / 2 ^ x) 1)) e2 (aC.cst (.int 1)) rfl;exact aC.cmp e3 (aC.cst (.int 1)) rfl
noncomputable abbrev LV (ns:List Int)(a b:Nat)(dt:List Nat)(d:Nat)(bd:List Nat)(sp:List Nat)(v9:Option (D×Bool))(M:List Nat)(td:List D)(r:List (Option (D×Bool))):List (Option (D×Bool)):=θ (.lst (ns.map D.int),ε)::θ (iI a,ζ)::θ (.int (b:Int),ζ)::θ (.lst (gD (CT a)),ζ)::θ (.int (C a b:Int),ζ)::θ (.lst (gD dt),ζ)::θ (.lst (gD sp),ζ)::θ (.lst (zX (SP a)),ζ)::θ (.int (d:Int),ζ)::v9::θ (.lst (gD bd),ζ)::θ (.lst (gD M),ζ)::θ (.lst td,ζ)::r
noncomputable abbrev iN (n:Nat):Option (D×Bool):=θ (.int (n:Int),ζ)
noncomputable def S1:St:=.asg (.nm 13) (.bin .Add LB (.bin .Mult (LJ 41) L1)) ε
noncomputable def SY:St:=.asg (.nm 14) LA ε
noncomputable def SX:St:=.ite (.cmp .NotIn L1 LW) (.cons (.asg (.nm 14) (.bin .Mod (.bin .FloorDiv (.call 26 (L6 (.call 25 (L6 LN LZ)) LZ)) (LJ 5)) (.bin .Add (.bin .FloorDiv LK Ly) Lz)) ε) .nil)
 (.cons (.ite (bt LU 4096 L1) (.cons (.asg (.nm 14) (.bin .FloorDiv LK Ly) ε) .nil) .nil) .nil)
noncomputable def xT:St:=.mut 12 .none .append (L5 (.tup (L6 L3 LA)))
noncomputable def xS:St:=.asg (.nm 15) (.and (.cmp .In L1 LW) (.cmp .Gt L3 LA)) ε
noncomputable def xP:St:=.asg (.nm 16) (.call 30 (L8 LN (.ix LM L1) (.bin .Add L3 (.blt .int (L5 L4))) (.bin .Add LZ Lz))) ε
noncomputable def xI:St:=.ite L4 (.cons (.Nl 11 7 16 L1 (L5 LA)) .nil) .nil
noncomputable def fBd:aU:=.cons (.asg (.nm 18) (.Pn .Mq LS (L5 (.tup (L6 L1 (.var 17))))) ε)
 (.cons (.MD 6 .none (.var 18) (.bin .BitXor (.ix LQ (.var 18)) (.bin .Add Lz (.bin .Mod (.bin .FloorDiv (.call 26 (L6 (.call 25 (L6 LN (.var 17))) LZ)) (LJ 17)) (LJ 63))))) .nil)
noncomputable def xF:St:=.Mg (.nm 17) (.seq (.var 16)) fBd
noncomputable def yP:St:=.asg (.nm 19) (.call 30 (L8 LN (.ix LM L1) (.bin .Add LK Lz) (.bin .Add LZ Lz))) ε
noncomputable def yM:St:=.mut 11 .none .extend (L5 (.comp 1 [9,7] (.nm 0) (.seq (.var 19)) .none (.Pn .Mq LL (L5 (.tup (L6 LO LN))))))
noncomputable def xE:St:=.ite (.and (.cmp .In L1 LW) (.not L4)) (.cons yP (.cons yM .nil)) .nil
noncomputable def lB:aU:=.cons S1 (.cons SY (.cons SX (.cons xT (.cons xS (.cons xP (.cons xI (.cons xF (.cons xE .nil))))))))
variable {T0:Tb}{tn:Nat}
section
variable {ns:List Int}{a b:Nat}{dt:List Nat}{d:Nat}{bd sp M:List Nat}{td:List D}{wl ml:Nat->List Nat}{e:En}{j:Nat}{Nr Oa N9 N8 M8 M7 Nm:Option (D×Bool)}
theorem JF {op:Z2}{a b:Ex}{x:D}(h:aC T0 (.cmp op a b) env x):ev T0 (.cmp op a b) env=.ok (x,.mv []):=by
 obtain⟨R,h⟩:=h;rw[ev] at h ⊢;obtain⟨p,h1,h⟩:=Rs.Ma h;obtain⟨q,h2,h⟩:=Rs.Ma h;obtain⟨k,h3,h⟩:=Rs.Ma h;rw[h1,aA,h2,aA,h3,aA];cases h;rfl
theorem Lc {a b:Ex}{k w:Bool}(h:ev T0 a env=.ok (.bl k,.mv []))(h':k=ζ->ev T0 b env=.ok (.bl w,.mv [])):ev T0 (.and a b) env=.ok (.bl (k&&w),.mv []):=by
 rw[ev,h,aA];cases k with
 |true=>exact h' rfl
 |false=>rfl
theorem Jx (l:List Nat)(p:Nat):uv .NotIn (.int (p:Int)) (.lst (gD l))=θ (!l.contains p):=by
 show (inD (.int (p:Int)) (.lst (gD l))).map (!·)=_;rw[oo];rfl
theorem Hm (m:Nat)(hb:a<5/\b<4)(V:Tv e (LV ns a b dt d bd sp (iN j) M td [Nr,Oa,N9,N8,M8,M7,Nm])):∃e1 e2 e3 tn MM,bH (T (m+2)) S1 e=.nx e1/\bH (T (m+2)) SY e1=.nx e2/\bH (T (m+2)) SX e2=.nx e3/\Tv e3 (LV ns a b dt d bd sp (iN j) M td [iN tn,iN MM,N9,N8,M8,M7,Nm])/\2*MM<=C a b/\(bd.contains j=ζ->MM=0\/2*MM=C a b):=by
 obtain⟨hc,ec⟩:∃h,C a b=2*h:=⟨_,rfl⟩;obtain⟨e1,q1,V1⟩:=V.asg (T:=T (m+2)) (i:=13) (d:=.int ((3+41*j:Nat):Int)) (show (13:Nat)<20 by decide) (nK (lu (K16.lit 3) (aC.bin (op:=.Mult) (K16.lit 41) (V.var (i:=9) rfl) (z:=.int ((41*j:Nat):Int)) (by
  rw[iJ,K16.qf (by decide)];rfl))) rfl)
 generalize 3+41*j=tn at V1;obtain⟨e2,q2,V2⟩:=V1.asg (T:=T (m+2)) (i:=14) (e:=.cst (.int 0)) (d:=.int ((0:Nat):Int)) (show (14:Nat)<20 by decide) (by rw[ev];rfl);have V2:Tv e2 (LV ns a b dt d bd sp (iN j) M td [iN tn,iN 0,N9,N8,M8,M7,Nm]):=V2;have h4:=K16.rV (T:=T (m+2)) 2 (by decide) (by decide) (V2.var (i:=4) rfl);have W0:aC (T (m+2)) (.cmp .NotIn L1 LW) e2 (.bl (!bd.contains j)):=aC.cmp (V2.var (i:=9) rfl) (V2.var (i:=10) rfl) (Jx bd j);cases hk:bd.contains j with
 |false=>
  obtain⟨v,hv⟩:=K0 (m+1) ns tn;obtain⟨dd,d0,hd⟩:=Jk (m+1) v (tn:Int);obtain⟨dr,rfl⟩:∃dr:Nat,dd=(dr:Int):=⟨dd.toNat,by omega⟩;obtain⟨e3,q3,V3⟩:=V2.asg (T:=T (m+2)) (i:=14) (show (14:Nat)<20 by decide) (nK (vH (b:=C a b / 2+1) (by omega) (K16.rV 5 (by decide) (by decide) (aC.of (bV (aC.of (bV (V2.var (i:=0) rfl) (V2.var (i:=13) rfl) hv)) (V2.var (i:=13) rfl) hd))) (lu h4 (K16.lit 1))) rfl);have Mx:dr / 5%(C a b / 2+1)<C a b / 2+1:=jx _ (by omega);generalize dr / 5%(C a b / 2+1)=MM at V3 Mx;refine⟨e1,e2,e3,tn,MM,q1,q2,nz W0 (λ_=>Pc.Nw.dY q3) (λh=>by rw[hk] at h;cases h),V3,by omega,λh=>by cases h⟩
 |true=>
  have Sv:=E8 (T0:=T (m+2)) (c:=4096) (by decide) (by decide) (V2.var (i:=8) rfl) (V2.var (i:=9) rfl);generalize Ji _ _ _=k at Sv;obtain⟨e3,q3,V3⟩:=V2.asg (T:=T (m+2)) (i:=14) (show (14:Nat)<20 by decide) (nK h4 rfl);cases k with
  |true=>exact⟨e1,e2,e3,tn,C a b / 2,q1,q2,nz W0 (λh=>by rw[hk] at h;cases h) (λ_=>Pc.Nw.dY (nz Sv (λ_=>Pc.Nw.dY q3) (λh=>by cases h))),V3,by omega,λ_=>.inr (by omega)⟩
  |false=>exact⟨e1,e2,e2,tn,0,q1,q2,nz W0 (λh=>by rw[hk] at h;cases h) (λ_=>Pc.Nw.dY (nz Sv (λh=>by cases h) (λ_=>Pc.Nw.iH))),V2,by omega,λ_=>.inl rfl⟩
theorem HS (m:Nat)(hb:a<5/\b<4)(hj:j<nb a)(tn MM:Nat)(hm:2*MM<=C a b)(lt:td.length<900)(lM:M.length<=900)(s:oQ a b dt wl ml sp M)(m0:ml j=[])
  (V:Tv e (LV ns a b dt d bd sp (iN j) M td [iN tn,iN MM,N9,N8,M8,M7,Nm])):∃e1 e2 e3 e4 ps M' k0,bH (T (m+3)) xT e=.nx e1/\bH (T (m+3)) xS e1=.nx e2/\bH (T (m+3)) xP e2=.nx e3/\bH (T (m+3)) xI e3=.nx e4 /\
   Tv e4 (LV ns a b dt d bd sp (iN j) M' (td ++ [bD (MM,0)]) [iN tn,iN MM,θ (.bl (bd.contains j&&decide (0<MM)),ζ),θ (.lst (gD ps),ζ),M8,M7,Nm])/\oQ a b dt wl (up1 ml j k0) sp M'/\Bl ((CT a).getD j 0) ps k0/\ps.length=MM/\k0.length=(if (bd.contains j&&decide (0<MM))=ζ then 1 else 0)/\M'.length<=M.length+k0.length:=by
 obtain⟨f1,f2,f3,f4,f5,f6,_⟩:=fact hb.1 hb.2;have Qw:=jQ hb.1 hb.2 hj;have cl:C a b<(CT a).getD j 0:=by
  have:(CT a).getD j 0∈CT a:=by
   rw[ι,υ (by omega)];exact iq _
  exact (f4 _ this).2
 obtain⟨e1,q1,V1⟩:=V.app (T:=T (m+3)) (x:=12) rfl (Kr (Ay (V.var (i:=14) rfl) rfl) (show ev (T (m+3)) LA e=.ok (.int ((0:Nat):Int),.mv []) by rw[ev];rfl)) (by omega);obtain⟨e2,q2,V2⟩:=V1.asg (T:=T (m+3)) (i:=15) (e:=.and (.cmp .In L1 LW) (.cmp .Gt L3 LA)) (show (15:Nat)<20 by decide) (Lc (k:=bd.contains j) (w:=decide (0<MM)) (JF (aC.cmp (V1.var (i:=9) rfl) (V1.var (i:=10) rfl) (oo bd j))) (λ_=>JF (aC.cmp (op:=.Gt) (V1.var (i:=14) rfl) (aC.cst (.int 0)) (by
  show θ (decide ((0:Int)<(MM:Int)))=_;exact dg θ (decide_eq_decide.mpr (by omega))))))
 generalize NT:(bd.contains j&&decide (0<MM))=sq at V2;have V2:Tv e2 (LV ns a b dt d bd sp (iN j) M (td ++ [bD (MM,0)]) [iN tn,iN MM,θ (.bl sq,ζ),N8,M8,M7,Nm]):=V2;obtain⟨ps,pa,pl,Qm,QK⟩:=YT (m+1) ns ((CT a).getD j 0) (MM+(if sq=ζ then 1 else 0)) (tn+1) (by split<;>omega) (by omega);obtain⟨e3,q3,V3⟩:=V2.asg (T:=T (m+3)) (i:=16) (show (16:Nat)<20 by decide) (wH (V2.var (i:=0) rfl) (aC.ix (V2.var (i:=3) rfl) (V2.var (i:=9) rfl) (nO (by omega))) (lu (V2.var (i:=14) rfl) (aC.Ml (k:=.int) (V2.var (i:=15) rfl) (z:=.int ((if sq=ζ then 1 else 0:Nat):Int)) (by cases sq<;>rfl))) (lu (V2.var (i:=13) rfl) (K16.lit 1)) QK);have V3:Tv e3 (LV ns a b dt d bd sp (iN j) M (td ++ [bD (MM,0)]) [iN tn,iN MM,θ (.bl sq,ζ),θ (.lst (gD ps),ζ),M8,M7,Nm]):=V3;cases sq with
 |false=>
  refine⟨e1,e2,e3,e3,ps,M,[],q1,q2,q3,nz (V3.var (i:=15) rfl) (λh=>by cases h) (λ_=>Pc.Nw.iH),V3,?_,⟨pa,Qm,.nil,λ_ h=>(nomatch h),λ_ _ h=>(nomatch h)⟩,by simpa using pl,rfl,by omega⟩;rw[<-m0,pN];exact s
 |true=>
  cases ps with
  |nil=>simp at pl
  |cons p0 r=>
   have UL:=Qm p0 ag;obtain⟨i1,i2⟩:=KC hb.1 hj UL;obtain⟨e4,q4,V4⟩:=Tv.Nl (T0:=T (m+3)) V3 (x:=16) (y:=11) (z:=7) (by decide) (by decide) (xs:=p0::r) (ys:=M) (zs:=zX (SP a)) rfl rfl rfl (a:=.var 9) (n:=j) (e:=.cst (.int 0)) (i:=0) (jj:=pos a j p0) (V3.var (i:=9) rfl) (aC.cst _) (by simp) (by have:=pl;simp at this ⊢;omega) (by omega) i2 i1;obtain⟨pa1,pa2⟩:=wT.mp pa;refine⟨e1,e2,e3,e4,r,M ++ [pos a j p0],[p0],q1,q2,q3,nz (V3.var (i:=15) rfl) (λ_=>Pc.Nw.dY q4) (λh=>by cases h),V4,?_,⟨pa2,λk hk=>Qm k (aa _ hk),ju ..,λk hk=>by rw[jm.mp hk];exact UL,λk hk h=>by
    have:=pa1 k hk;rw[jm.mp h] at this;omega⟩,by simpa using pl,rfl,by simp⟩
   have:=s.miss hb.1 hj (ks:=[p0]) (λk hk=>by rw[jm.mp hk];exact UL)
   rwa [m0] at this
theorem Dp {T:Tb}{e:En}(h:aE T (.cons s .nil) env=.nx e):bH T s env=.nx e:=by
 rw[aE] at h;cases q:bH T s env<;>rw[q] at h
 .rw[cL,aE] at h;exact h
 all_goals cases h
theorem DT (m:Nat)(hb:a<5/\b<4)(hj:j<nb a){ps k0:List Nat}(B:Bl ((CT a).getD j 0) ps k0)(s:oQ a b dt wl ml sp M)(w0:wl j=[])(V:Tv e (LV ns a b dt d bd sp (iN j) M td [iN tn,Oa,N9,θ (.lst (gD ps),ζ),M8,M7,Nm])) :
  ∃e' Ob Pj Ph,bH (T (m+2)) xF e=.nx e'/\oQ a b dt (up1 wl j ps) ml Ob M/\Tv e' (LV ns a b dt d bd Ob (iN j) M td [iN tn,Oa,N9,θ (.lst (gD ps),ε),Pj,Ph,Nm]):=by
 have Rq:rm a<=133:=by rcases n5 hb.1 with rfl|rfl|rfl|rfl|rfl<;>decide
 have key:Wp (T (m+2)) (.cons xF .nil) e λf=>∃e' Ob Pj Ph,f=.nx e'/\oQ a b dt (up1 wl j ps) ml Ob M/\Tv e' (LV ns a b dt d bd Ob (iN j) M td [iN tn,Oa,N9,θ (.lst (gD ps),ε),Pj,Ph,Nm]) :=
  V.sS rfl (λr us=>∃q sp M8 M7,q++r=ps/\oQ a b dt (up1 wl j q) ml sp M/\us=LV ns a b dt d bd sp (iN j) M td [iN tn,Oa,N9,θ (.lst (gD ps),ε),M8,M7,Nm]) ⟨[],sp,M8,M7,rfl,by rw[<-w0,pN];exact s,rfl⟩ (λg r us e ⟨q,sp,M8,M7,hq,s,hu⟩ _=>by
   subst hu;have pk:=B.wl g (by rw[<-hq];simp);have nk:g∉q:=λh=>by
    have:=B.wa;rw[<-hq] at this;have:=(List.pairwise_append.mp this).2.2 g h g ag;omega
   obtain⟨v,hv⟩:=K0 (m+1) ns g;obtain⟨dd,d0,hd⟩:=Jk (m+1) v (tn:Int);obtain⟨dr,rfl⟩:=ę d0;have pl:pos a j g<sp.length:=by rw[s.len];exact (mE hb.1 hj pk).1
   have h63:dr / 17%63<63:=jx _ (by decide);have eqr:(row a b dt j).getD g 0=sp.getD (pos a j g) 0:=þ λz=>nk (by
    have:=(s.at' j hj _ pk).mpr z
    rwa [jC] at this)
   have s1:=s.step hb.1 hj pk (z:=sp.getD (pos a j g) 0^^^(1+dr / 17%63)) (aP (cX s.gr _) (by omega)) (by rw[eqr];exact (Iy (by omega)).symm);rw[jC,wY] at s1;exact⟨rfl,λe V=>V.sA (JH (V.var rfl) (aC.Qf (V.var rfl) (V.var rfl)) (wI hb.1 hj pk) rfl) λe V=>V.OE rfl (V.var rfl) pl (by rw[s.len];omega) (pW (aC.ix (V.var rfl) (V.var rfl) (nO pl)) (lu (K16.lit 1) (vH (b:=63) (by decide) (K16.rV 17 (by decide) (by decide) (aC.of (bV (aC.of (bV (V.var rfl) (V.var rfl) hv)) (V.var rfl) hd))) (K16.lit 63)))) λe V=>V.nil ⟨q ++ [g],_,_,_,by rw[<-hq];simp,s1,rfl⟩⟩)
  λe us ⟨q,sp,M8,M7,hq,s,hu⟩ V=>by
   subst hu;rw[aw] at hq;exact⟨e,sp,M8,M7,by rw[aE],hq ▸ s,V⟩
 obtain⟨e',Ob,x,y,h,z⟩:=key;exact⟨e',Ob,x,y,Dp h,z⟩
theorem Ks (m:Nat)(hb:a<5/\b<4)(hj:j<nb a){sq:Bool}(lM:M.length<=900)(s:oQ a b dt wl ml sp M)(V:Tv e (LV ns a b dt d bd sp (iN j) M td [iN tn,Oa,θ (.bl sq,ζ),N8,M8,M7,Nm])) :
  ∃e' M' ms Rf,bH (T (m+3)) xE e=.nx e'/\oQ a b dt wl (up1 ml j (ml j++ms)) sp M'/\Tv e' (LV ns a b dt d bd sp (iN j) M' td [iN tn,Oa,θ (.bl sq,ζ),N8,M8,M7,Rf])/\ms.Pairwise (· < ·)/\(∀k∈ms,k<(CT a).getD j 0)/\ms.length=(if (bd.contains j && !sq)=ζ then C a b+1 else 0)/\M'.length<=M.length+ms.length:=by
 obtain⟨f1,f2,f3,f4,f5,f6,_⟩:=fact hb.1 hb.2;have Qw:=jQ hb.1 hb.2 hj;have cl:C a b<(CT a).getD j 0:=by
  have:(CT a).getD j 0∈CT a:=by
   rw[ι,υ (by omega)];exact iq _
  exact (f4 _ this).2
 have cE:aC (T (m+3)) (.and (.cmp .In L1 LW) (.not L4)) e (.bl (bd.contains j && !sq)):=aC.and (k:=bd.contains j) (aC.cmp (V.var (i:=9) rfl) (V.var (i:=10) rfl) (oo bd j)) (λh=>by
  rw[h,iy];exact aC.not (V.var (i:=15) rfl)) (λh=>by rw[h];rfl)
 cases hk:(bd.contains j && !sq) with
 |false=>
  refine⟨e,M,[],Nm,nz cE (λh=>by rw[hk] at h;cases h) (λ_=>Pc.Nw.iH),?_,V,.nil,λ_ h=>(nomatch h),rfl,by omega⟩;rw[aw,pN];exact s
 |true=>
  obtain⟨ps,pa,pl,Qm,QK⟩:=YT (m+1) ns ((CT a).getD j 0) (C a b+1) (tn+1) (by omega) (by omega);obtain⟨e1,q1,V1⟩:=V.asg (T:=T (m+3)) (i:=19) (show (19:Nat)<20 by decide) (wH (V.var (i:=0) rfl) (aC.ix (V.var (i:=3) rfl) (V.var (i:=9) rfl) (nO (by omega))) (lu (V.var (i:=4) rfl) (K16.lit 1)) (lu (V.var (i:=13) rfl) (K16.lit 1)) QK);have V1:Tv e1 (LV ns a b dt d bd sp (iN j) M td [iN tn,Oa,θ (.bl sq,ζ),N8,M8,M7,θ (.lst (gD ps),ζ)]):=V1;obtain⟨R,hit⟩:=wO (V1.var (T:=T (m+3)) (i:=19) rfl);have c2:=V1.vw.map (f:=pos a j) (pick:=[9,7]) (e:=.Pn .Mq LL (L5 (.tup (L6 LO LN)))) hit (by omega) λk hkm W w=>aC.of (JH (w.var rfl) (aC.Qf (w.var rfl) (w.var rfl)) (wI hb.1 hj (Qm k hkm)) rfl)
  obtain⟨e2,q2,V2⟩:=V1.ext (T:=T (m+3)) (x:=11) rfl c2 (sJ _) (by rw[cD,cD,aj];omega);rw[<-iY] at V2;exact⟨e2,_,ps,_,nz cE (λ_=>tK q1 (Pc.Nw.dY q2)) (λh=>by rw[hk] at h;cases h),s.miss hb.1 hj Qm,V2,pa,Qm,pl,by simp⟩
def Bk (a b:Nat)(bd w mm:List Nat)(i:Nat):Prop:=Bl ((CT a).getD i 0) w mm/\2*w.length<=C a b/\(bd.contains i=ε->mm=[])/\(bd.contains i=ζ->(∃p0,mm=[p0]/\2*w.length=C a b)\/C a b<mm.length)
structure JI (ns:List Int)(a b:Nat)(dt:List Nat)(d:Nat)(bd:List Nat)(j:Nat)(wl ml:Nat->List Nat)(sp M:List Nat)(e:En):Prop where
 s:oQ a b dt wl ml sp M
 z:∀i,j<=i->wl i=[]/\ml i=[]
 k:∀i,i<j->Bk a b bd (wl i) (ml i) i
 l:M.length<=(C a b+1)*j
 v:∃v9 Nr Oa N9 N8 M8 M7 Nm,Tv e (LV ns a b dt d bd sp v9 M ((ρ j).map λi=>bD ((wl i).length,0)) [Nr,Oa,N9,N8,M8,M7,Nm])
theorem turn (m:Nat)(hb:a<5/\b<4)(hj:j<nb a)(J:JI ns a b dt d bd j wl ml sp M e):∃e1 e2 T7 RM Ob M',bP [] (.nm 9) (.int (j:Int)) e=θ e1/\aE (T (m+3)) lB e1=.nx e2/\JI ns a b dt d bd (j+1) T7 RM Ob M' e2:=by
 obtain⟨s,z,kk,lM,v9,Nr,Oa,N9,N8,M8,M7,Nm,V⟩:=J;obtain⟨f1,f2,f3,f4,f5,f6,_⟩:=fact hb.1 hb.2;have U0:M.length<=120:=bp lM (bp (ŷ (show C a b+1<=27 by omega) (show j<=3 by omega)) (by decide));obtain⟨e1,b1,V1⟩:=V.SN (i:=9) (show (9:Nat)<20 by decide) (j:Int);have V1:Tv e1 (LV ns a b dt d bd sp (iN j) M ((ρ j).map λi=>bD ((wl i).length,0)) [Nr,Oa,N9,N8,M8,M7,Nm]):=V1;obtain⟨g1,g2,g3,tn,MM,p1,p2,p3,V2,hm,Wb⟩:=Hm (m+1) hb V1;obtain⟨g4,g5,g6,g7,ps,M1,k0,p4,p5,p6,p7,V3,s3,B,lps,lk,lM1⟩:=HS m hb hj tn MM hm (by simp;omega) (by omega) s (z j (au _)).2 V2;obtain⟨g8,Ob,Pj,Ph,p8,s4,V4⟩:=DT (m+1) hb hj B s3 (z j (au _)).1 V3;have k1:k0.length<=1:=by rw[lk];split<;>omega
 obtain⟨g9,M2,mm,Rf,p9,s5,V5,ma,RM,Of,lM2⟩:=Ks m hb hj (by omega) s4 V4;rw[jC,wY] at s5;have YB:mm.length=0\/k0.length=0:=by
  rw[Of,lk];cases bd.contains j<;>cases decide (0<MM)<;>simp
 have hBl:Bl ((CT a).getD j 0) ps (k0++mm)/\((k0=[]/\mm=[])\/mm=[]\/k0=[]):=by
  rcases YB with h|h
  .have:=jd h;subst this;rw[aw];exact⟨B,.inr (.inl rfl)⟩
  .have:=jd h;subst this;refine⟨⟨B.wa,B.wl,ma,RM,λk hk h=>?_⟩,.inr (.inr rfl)⟩;have:mm.length≠0:=by
    cases mm with
    |nil=>cases h
    |cons _ _=>simp
   rw[Of] at this;have hc:(bd.contains j && !(bd.contains j&&decide (0<MM)))=ζ:=by
    cases hq:(bd.contains j && !(bd.contains j&&decide (0<MM))) with
    |true=>rfl
    |false=>rw[hq] at this;simp at this
   rw[ai] at hc;rw[hc.1,iy,fk,decide_eq_false_iff_not] at hc;have:ps.length=0:=by omega
   rw[jd this] at hk;cases hk
 refine⟨e1,g9,up1 wl j ps,up1 ml j (k0++mm),Ob,M2,b1,tK p1 (tK p2 (tK p3 (tK p4 (tK p5 (tK p6 (tK p7 (tK p8 (tK p9 Pc.Nw.iH)))))))),s5,λi hi=>?_,λi hi=>?_,?_,?_⟩
 .rw[la (by omega),la (by omega)];exact z i (by omega)
 .by_cases Sl:i=j
  .subst Sl;rw[jC,jC];refine⟨hBl.1,by omega,λh=>?_,λh=>?_⟩
   .rw[h] at lk Of;simp at lk Of;rw[lk,Of];rfl
   .rw[h,iy] at lk Of;rcases Wb h with h0|h0
    .rw[cm (by omega)] at Of;simp at Of;exact .inr (by rw[ba,Of];omega)
    .have hp:0<MM:=by omega
     rw[cu hp] at lk Of;simp at lk Of;obtain⟨p0,rfl⟩:=List.length_eq_one_iff.mp lk;subst Of;exact .inl ⟨p0,rfl,by omega⟩
  .rw[la Sl,la Sl];exact kk i (by omega)
 .have:k0.length+mm.length<=C a b+1:=by
   rcases YB with h|h
   .rw[h,lk];split<;>omega
   .rw[h,Of];split<;>omega
  rw[h!];omega
 .have et:(ρ j).map (λi=>bD ((wl i).length,0)) ++ [bD (MM,0)]=(ρ (j+1)).map λi=>bD ((up1 wl j ps i).length,0):=by
   rw[Æ,gj];congr 1
   .refine du λi hi=>?_
    rw[la (by have:=pi.mp hi;omega)]
   .show _=[bD ((up1 wl j ps j).length,0)];rw[jC,lps]
  rw[<-et];exact⟨_,_,_,_,_,_,_,_,V5⟩
end
theorem BO:∀l:List Nat,(gI l).sum=((l.sum:Nat):Int)
 |[]=>rfl
 |x::l=>by
  show (x:Int)+(gI l).sum=_;rw[BO l,ą];omega
theorem Up (l:List Nat):lK .sum [.lst (gD l)]=θ (.int (l.sum:Nat)):=by
 show (wV 0 (gD l)).map D.int=_;rw[rZ,sum_ints,BO,f?];rfl
noncomputable def eK:Ex:=.bin .Sub (.blt .sum (L5 LM)) (.bin .Mult LK (L9 LM))
section
variable {a b:Nat}{dt:List Nat}{T0:Tb}{env:En}{vs:List (Option (D×Bool))}
theorem Ln (ha:a<5)(hb:b<4)(V:Tv env vs)(h5:vs[3]? = θ (θ (.lst (gD (CT a)),ζ)))(h6:vs[4]? = θ (θ (.int (C a b:Int),ζ))):aC T0 eK env (.int ((DU a b).sum:Nat)):=by
 obtain⟨f1,f2,f3,f4,f5,f6,f7,f8,f9,_⟩:=fact ha hb;have l5:=V.vw.len (T:=T0) (i:=3) (l:=CT a) (by rw[π,h5];rfl);rw[f1] at l5;refine aC.bin (op:=.Sub) (aC.Ml (k:=.sum) (V.var (i:=3) h5) (Up (CT a))) (aC.bin (op:=.Mult) (V.var (i:=4) h6) l5 (z:=.int ((C a b*nb a:Nat):Int)) ?_) ?_
 .rw[iJ,K16.qf (uR (by omega) (by omega))];show θ (D.int _)=_;rw[Int.natCast_mul]
 .show θ (D.int (((CT a).sum:Int)-((C a b*nb a:Nat):Int)))=_;rw[f9];congr 2;omega
theorem Tv.Xw (h:Tv env vs){i j k l:Nat}(hi:i<vs.length)(hj:j<vs.length)(hk:k<vs.length)(hl:l<vs.length){e:Ex}{x y z w:D}(he:ev T0 e env=.ok (.tup [x,y,z,w],.mv [])):∃env',bH T0 (.asg (.tp [i,j,k,l]) e ε) env=.nx env'/\Tv env' ((((vs.set i (θ (x,ζ))).set j (θ (y,ζ))).set k (θ (z,ζ))).set l (θ (w,ζ))):=by
 have s:=λ{env:En}{vs:List (Option (D×Bool))}(h:Tv env vs) (i:Nat) (d:D)=>h.set i d .own ζ (aI _) λ_=>rfl
 refine⟨_,?_,s (s (s (s h i x) j y) k z) l w⟩;have e0:=h.len;rw[bH,he,bC];show BN (bindM (λ_=>Tg.own) [i,j,k,l] [x,y,z,w] env)=_;have t1:=h.tm.set (aI x) i;have t2:=t1.set (aI y) j;have t3:=t2.set (aI z) k;simp only[bindM];rw[if_pos (by omega),bN h.tm,if_pos (by rw[aq];omega),bN t1,if_pos (by rw[aq,aq];omega),bN t2,if_pos (by rw[aq,aq,aq];omega),bN t3];rfl
end
noncomputable def z1:St:=.asg (.tp [1,2,3,4]) (.call 28 (L5 LN)) ε
noncomputable def z2:St:=.asg (.nm 5) (.call 27 (.cons LN (.cons eK .nil))) ε
noncomputable def z3:St:=.asg (.nm 6) (.call 21 (L7 (.blt .list (L5 LP)) LO LL)) ε
noncomputable def z4:St:=.asg (.nm 7) (.call 29 (L5 LM)) ε
noncomputable def z5:St:=.asg (.nm 8) (.call 26 (L6 (.call 25 (L6 LN Lz)) Ly)) ε
noncomputable def z6:St:=.asg (.nm 10) (.comp 1 [8] (.nm 0) (.Mo (L9 LM)) (.some (bt LO 8 LN)) LN) ε
noncomputable def z7:St:=.ite (.cmp .Eq LW (.lst .nil)) (.cons (.asg (.nm 10) (.lst (L5 (.bin .Mod LU (L9 LM)))) ε) .nil) .nil
noncomputable def z8:St:=.asg (.nm 11) (.lst .nil) ε
noncomputable def z9:St:=.asg (.nm 12) (.lst .nil) ε
noncomputable def T4:St:=.Mg (.nm 9) (.Mo (L9 LM)) lB
noncomputable def XM:St:=.ite (.not (.call 31 (.cons LQ (L8 (.blt .sorted (L5 LY)) LO LL (.ix LW LA))))) (.cons (.ret (.cst (.bl ε))) .nil) .nil
noncomputable def eZ:Ex:=.cmp .Eq (.call 22 (L8 (.blt .list (L5 LQ)) (.lst .nil) LO LL)) (.tup (L6 LP LX))
variable {dt:List Nat}
theorem EW (hd:Gr dt):Gr (wrap a b dt):=λx hx=>by
 obtain⟨p,_,rfl⟩:=Δ.mp hx;unfold wv;refine cX (λy hy=>?_) _;generalize ((SP a).getD p (0,0)).1=i at hy;rw[ι] at hy;unfold rows at hy;rw[π] at hy;cases q:(ρ (nb a))[i]? with
 |none=>rw[q] at hy;cases hy
 |some j=>
  rw[q] at hy;exact (j4 hd j).1 y hy
variable {ns:List Int}{sp:List Nat}
theorem UB {bd r:List Nat}{wl ml:Nat->List Nat}{M:List Nat}(ha:a<5)(hb:b<4)(hl:dt.length=(DU a b).sum)(hd:Gr dt)(Sy:a<3\/b<2)(Ww:bd=k::r)(pw:bd.Pairwise (· < ·))(lt:∀i∈bd,i<nb a)(J:JI ns a b dt d bd (nb a) wl ml sp M e):vZ a b k sp (jR M):=by
 obtain⟨s,_,kk,lM,_⟩:=J;have s':oQ a b dt wl ml sp (jR M):=⟨s.gr,s.len,s.at',λj hj q hq=>by rw[(gC M).mem_iff];exact s.mm j hj q hq⟩;have hk:k<nb a:=lt k (by rw[Ww];exact ag);obtain⟨f1,f2,f3,f4,f5,f6,_⟩:=fact ha hb;have U0:M.length<=120:=bp lM (bp (ŷ (show C a b+1<=27 by omega) f2) (by decide));refine⟨ha,hb,hk,s.len,s.gr,by rw[(gC M).length_eq];omega,λj hj=>?_,?_⟩
 .obtain⟨B,h2,h3,_⟩:=kk j (by omega);have hn:bd.contains j=ε:=by
   cases z:bd.contains j with
   |false=>rfl
   |true=>
    have:=u8.mp z;rw[Ww] at this pw;rcases dm.mp this with h|h
    .omega
    .have:=(wT.mp pw).1 j h;omega
  have e0:=h3 hn;rw[BM s' (by omega) B,e0];rw[e0] at B;exact⟨dh _,B2 ha hb (good ha hb hl hd s' (by omega) B (by simpa using h2))⟩
 .obtain⟨B,h2,_,h4⟩:=kk k hk;rw[BM s' hk B];rcases h4 (u8.mpr (by rw[Ww];exact ag)) with ⟨p0,e0,h5⟩|h5
  .rw[e0] at B ⊢;exact .inr (EY ha hb hl hd s' hk B h5)
  .exact .inl h5
theorem xM (a j:Nat):ku a [] j=[]:=by
 unfold ku;rw[List.filter_eq_nil_iff];intro x _;simp
theorem eqP:∀l:List (Nat×Nat),D.Mr 39 (.lst (l.map bD)) (.lst (l.map bD))=θ ζ:=λl=>by
 show (if _=_ then jW (D.Mr 38) (l.map bD) (l.map bD) else θ ε)=_;rw[if_pos rfl]
 induction l with
 |nil=>rfl
 |cons p l ih=>
  have e:D.Mr 38 (bD p) (bD p)=θ ζ:=by
   show (if 2=2 then jW (D.Mr 37) [.int (p.1:Int),.int (p.2:Int)] [.int (p.1:Int),.int (p.2:Int)] else _)=_;rw[if_pos rfl,jW,show D.Mr 37 (.int (p.1:Int)) (.int (p.1:Int))=θ ζ from dg θ (gu _),jW,show D.Mr 37 (.int (p.2:Int)) (.int (p.2:Int))=θ ζ from dg θ (gu _),jW];rfl
  rw[bo,jW,e,ih];rfl
theorem eqZ (dt:List Nat)(l:List (Nat×Nat)):D.Mr 40 (.tup [.lst (gD dt),.lst (l.map bD)]) (.tup [.lst (gD dt),.lst (l.map bD)])=θ ζ:=by
 have e:D.Mr 39 (.lst (gD dt)) (.lst (gD dt))=θ ζ:=by rw[rZ,xG 37];simp
 show (if (2:Nat)=2 then jW (D.Mr 39) [.lst (gD dt),.lst (l.map bD)] [.lst (gD dt),.lst (l.map bD)] else θ ε)=θ ζ;rw[if_pos rfl,jW,e,jW,eqP,jW];rfl
noncomputable abbrev n8:List (Option (D×Bool)):=[η,η,η,η,η,η,η]
theorem head (ns:List Int)(hn:ns.length<=63):∃a b dt d e,a<5/\b<4/\(a<3\/b<2)/\Gr dt/\dt.length=(DU a b).sum/\aE (T 11) (.cons z1 (.cons z2 (.cons z3 (.cons z4 (.cons z5 .nil))))) (aD [.lst (ns.map D.int)] 20)=.nx e /\
  Tv e (θ (.lst (ns.map D.int),ε)::θ (iI a,ζ)::θ (.int (b:Int),ζ)::θ (.lst (gD (CT a)),ζ)::θ (.int (C a b:Int),ζ)::θ (.lst (gD dt),ζ)::θ (.lst (gD (wrap a b dt)),ζ)::θ (.lst (zX (SP a)),ζ)::θ (.int ((d:Nat):Int),ζ)::η::η::η::η::n8):=by
 have V:Tv (aD [.lst (ns.map D.int)] 20) (θ (.lst (ns.map D.int),ε)::η::η::η::η::η::η::η::η::η::η::η::η::n8):=Tv.start _ 20;obtain⟨a,b,ha,hb,Sy,Wk⟩:=h28 9 ns;obtain⟨e1,q1,V1⟩:=Tv.Xw (T0:=T 11) V (i:=1) (j:=2) (k:=3) (l:=4) (show (1:Nat)<20 by decide) (show (2:Nat)<20 by decide) (show (3:Nat)<20 by decide) (show (4:Nat)<20 by decide) (oV (V.var (i:=0) rfl) Wk);obtain⟨f1,f2,f3,f4,f5,f6,f7,f8,_⟩:=fact ha hb;obtain⟨gs,gg,lg,Wl⟩:=h27 9 ns hn (DU a b).sum f7 (by omega);obtain⟨e2,q2,V2⟩:=V1.asg (T:=T 11) (i:=5) (show (5:Nat)<20 by decide) (bV (V1.var (i:=0) rfl) (Ln ha hb V1 rfl rfl) Wl);obtain⟨e3,q3,V3⟩:=V2.asg (T:=T 11) (i:=6) (show (6:Nat)<20 by decide) (we (aC.Ml (k:=.list) (V2.var (i:=5) rfl) (z:=.lst (gD gs)) rfl) (V2.var (i:=1) rfl) (V2.var (i:=2) rfl) (h21 6 ha hb lg gg));obtain⟨e4,q4,V4⟩:=V3.asg (T:=T 11) (i:=7) (show (7:Nat)<20 by decide) (oV (V3.var (i:=3) rfl) (up (r29 a ha) 11 (by omega)));obtain⟨v,hv⟩:=K0 10 ns 1;obtain⟨d,d0,hd⟩:=Jk 10 v 2;obtain⟨dr,rfl⟩:∃dr:Nat,d=(dr:Int):=⟨d.toNat,by omega⟩;obtain⟨e5,q5,V5⟩:=V4.asg (T:=T 11) (i:=8) (show (8:Nat)<20 by decide) (bV (aC.of (bV (V4.var (i:=0) rfl) (aC.cst _) hv)) (aC.cst _) hd);exact⟨a,b,gs,dr,e5,ha,hb,Sy,gg,lg,tK q1 (tK q2 (tK q3 (tK q4 (Pc.Nw.dY q5)))),V5⟩
theorem W6 (ha:a<5)(hb:b<4)(V:Tv e (θ (.lst (ns.map D.int),ε)::θ (iI a,ζ)::θ (.int (b:Int),ζ)::θ (.lst (gD (CT a)),ζ)::θ (.int (C a b:Int),ζ)::θ (.lst (gD dt),ζ)::θ (.lst (gD sp),ζ)::θ (.lst (zX (SP a)),ζ)::θ (.int ((d:Nat):Int),ζ)::η::η::η::η::n8)) :
  ∃e' k r,(k::r).Pairwise (· < ·)/\(∀i∈k::r,i<nb a)/\aE (T 11) (.cons z6 (.cons z7 (.cons z8 (.cons z9 .nil)))) e=.nx e'/\Tv e' (LV ns a b dt d (k::r) sp η [] [] n8):=by
 obtain⟨f1,f2,f3,f4,f5,f6,_⟩:=fact ha hb;have l3:=V.vw.len (T:=T 11) (i:=3) (l:=CT a) rfl;rw[f1] at l3;have hit:=uY (T:=T 11) l3 (by omega);have c6:=V.vw.NW (pick:=[8]) (c:=bt LO 8 LN) (l:=ρ (nb a)) (k:=Ji d 8) hit (by rw[bq];omega) λx hx W w=>E8 (by decide) (by decide) (w.var rfl) (w.var rfl)
 have pw:((ρ (nb a)).filter (Ji d 8)).Pairwise (· < ·):=(mz _).filter _;have lt:∀i∈(ρ (nb a)).filter (Ji d 8),i<nb a:=λi hi=>pi.mp (ie.mp hi).1
 obtain⟨e1,q1,V1⟩:=V.asg (T:=T 11) (i:=10) (show (10:Nat)<20 by decide) c6;generalize (ρ (nb a)).filter (Ji d 8)=b0 at V1 pw lt;have V1:Tv e1 (θ (.lst (ns.map D.int),ε)::θ (iI a,ζ)::θ (.int (b:Int),ζ)::θ (.lst (gD (CT a)),ζ)::θ (.int (C a b:Int),ζ)::θ (.lst (gD dt),ζ)::θ (.lst (gD sp),ζ)::θ (.lst (zX (SP a)),ζ)::θ (.int ((d:Nat):Int),ζ)::η::θ (.lst (gD b0),ζ)::η::η::n8):=V1;have c7:aC (T 11) (.cmp .Eq LW (.lst .nil)) e1 (.bl (b0.isEmpty)):=aC.cmp (op:=.Eq) (V1.var (i:=10) rfl) (y:=.lst []) ⟨_,by rw[ev,aR,aA];rfl⟩ (by cases b0<;>rfl);have Yq:=V1.vw.len (T:=T 11) (i:=3) (l:=CT a) rfl;rw[f1] at Yq;obtain⟨e2,k,r,q2,V2,pw2,lt2⟩:∃e2 k r,bH (T 11) z7 e1=.nx e2/\Tv e2 (θ (.lst (ns.map D.int),ε)::θ (iI a,ζ)::θ (.int (b:Int),ζ)::θ (.lst (gD (CT a)),ζ)::θ (.int (C a b:Int),ζ)::θ (.lst (gD dt),ζ)::θ (.lst (gD sp),ζ)::θ (.lst (zX (SP a)),ζ)::θ (.int ((d:Nat):Int),ζ)::η::θ (.lst (gD (k::r)),ζ)::η::η::n8)/\(k::r).Pairwise (· < ·)/\∀i∈k::r,i<nb a:=by
  cases b0 with
  |cons k r=>exact⟨e1,k,r,nz c7 (λh=>by cases h) (λ_=>Pc.Nw.iH),V1,pw,lt⟩
  |nil=>
   have hm:=nK (vH (T:=T 11) (b:=nb a) f3 (V1.var (i:=8) rfl) Yq) rfl;obtain⟨e2,q2,V2⟩:=V1.asg (T:=T 11) (i:=10) (e:=.lst (L5 (.bin .Mod LU (L9 LM)))) (d:=.lst (gD [d%nb a])) (show (10:Nat)<20 by decide) (by rw[ev,aR,hm,aA,aR,aA,aA];rfl);exact⟨e2,d%nb a,[],nz c7 (λ_=>Pc.Nw.dY q2) (λh=>by cases h),V2,ju ..,λi hi=>by rw[jm.mp hi];exact jx _ f3⟩
 obtain⟨e3,q3,V3⟩:=V2.asg (T:=T 11) (i:=11) (e:=.lst .nil) (d:=.lst (gD [])) (show (11:Nat)<20 by decide) (by rw[ev,aR,aA];rfl);obtain⟨e4,q4,V4⟩:=V3.asg (T:=T 11) (i:=12) (e:=.lst .nil) (d:=.lst []) (show (12:Nat)<20 by decide) (by rw[ev,aR,aA];rfl);exact⟨e4,k,r,pw2,lt2,tK q1 (tK q2 (tK q3 (Pc.Nw.dY q4))),V4⟩
theorem UZ (ns:List Int)(hn:ns.length<=63):∃fr,Pc.run fns gl 1000 12 32 [.lst (ns.map D.int)]=.ok (.bl ζ,fr):=by
 obtain⟨a,b,dt,d,e,ha,hb,Sy,gd,ld,q1,V⟩:=head ns hn;obtain⟨e2,k,r,pw,lt,q2,V2⟩:=W6 ha hb V;obtain⟨f1,f2,f3,f4,f5,f6,f7,f8,f9,Y0,f11⟩:=fact ha hb;have l3:=V2.vw.len (T:=T 11) (i:=3) (l:=CT a) rfl;rw[f1] at l3;have hit:=uY (T:=T 11) l3 (by omega);obtain⟨e3,q3,wl,ml,sp,M,J⟩:=Dq (t:=.nm 9) (R:=[]) (b:=aE (T 11) lB) (λj env=>∃wl ml sp M,JI ns a b dt d (k::r) j wl ml sp M env) ((ρ (nb a)).map λ(j:Nat)=>D.int (j:Int)) 0 e2 ⟨λ_=>[],λ_=>[],wrap a b dt,[],oQ.new ha (EW gd),λ_ _=>⟨rfl,rfl⟩,λi hi=>(nomatch hi),dh _,_,_,_,_,_,_,_,_,V2⟩ (λj x e1 NB ⟨wl,ml,sp,M,J⟩=>by
  rw[gn] at J ⊢;obtain⟨hj,rfl⟩:=xl NB;obtain⟨g1,g2,T7,RM,Ob,M',b1,b2,J'⟩:=turn 8 ⟨ha,hb⟩ hj J;exact⟨g1,g2,b1,.inl b2,T7,RM,Ob,M',J'⟩)
 rw[gn,aj,bq] at J;have q3:=yu hit q3;have RC:=UB ha hb ld gd Sy rfl pw lt J;obtain⟨s,z,kk,lM,v9,Nr,Oa,N9,N8,M8,M7,Nm,V3⟩:=J;have U0:M.length<64:=by
  have:=f11 Sy;rw[d!] at lM;omega
 obtain⟨Wt,Wi⟩:=h31 RC;have c11:aC (T 11) (.call 31 (.cons LQ (L8 (.blt .sorted (L5 LY)) LO LL (.ix LW LA)))) e3 (.bl ζ):=by
  obtain⟨R1,y1⟩:=V3.var (T:=T 11) (i:=6) rfl;obtain⟨R2,y2⟩:=aC.sorted (V3.var (T:=T 11) (i:=11) rfl) U0;obtain⟨R3,y3⟩:=V3.var (T:=T 11) (i:=1) rfl;obtain⟨R4,y4⟩:=V3.var (T:=T 11) (i:=2) rfl;obtain⟨R5,y5⟩:=aC.ix (V3.var (T:=T 11) (i:=10) rfl) (aC.cst (.int 0)) (nO (gs:=k::r) (i:=0) (Nat.succ_pos _));refine⟨if Wt then .mv [] else .sh (aO [R1,R2,R3,R4,R5]),?_⟩;rw[ev,aR,y1,aA,aR,y2,aA,aR,y3,aA,aR,y4,aA,aR,y5,aA,aR,aA,aA,aA,aA,aA,aA];show ((T 11).cl 31 [.lst (gD sp),.lst (gD (jR M)),iI a,.int (b:Int),.int (k:Int)]).bind _=_;rw[Wi,aA];rfl
 have q4:bH (T 11) XM e3=.nx e3:=nz (k:=ε) (aC.not (k:=ζ) c11) (λh=>by cases h) (λ_=>Pc.Nw.iH);have SA:=h22 3 (M:=[]) (w:=wl) ha hb ld gd s.len λj hj=>by
  obtain⟨B,h2,_⟩:=kk j hj;rw[xM];exact good ha hb ld gd s hj ⟨B.wa,B.wl,.nil,λ_ h=>(nomatch h),λ_ _ h=>(nomatch h)⟩ (by simpa using h2)
 have em:(ρ (nb a)).map (λj=>bD ((wl j).length,(ku a [] j).length))=((ρ (nb a)).map λj=>((wl j).length,0)).map bD:=by
  rw[bh];refine du λj _=>?_
  rw[xM];rfl
 have et:(ρ (nb a)).map (λi=>bD ((wl i).length,0))=((ρ (nb a)).map λj=>((wl j).length,0)).map bD:=by rw[bh];rfl
 rw[em] at SA;rw[et] at V3;obtain⟨fr,q5⟩:=IA (T:=T 11) (env:=e3) (e:=eZ) (d:=.bl ζ) (aC.cmp (op:=.Eq) (aC.of (wH (aC.Ml (k:=.list) (V3.var (i:=6) rfl) (z:=.lst (gD sp)) rfl) ⟨_,by rw[ev,aR,aA];rfl⟩ (V3.var (i:=1) rfl) (V3.var (i:=2) rfl) SA)) (aC.Qf (V3.var (i:=5) rfl) (V3.var (i:=12) rfl)) (eqZ dt _));refine⟨fr,?_⟩;rw[aW (F:=⟨1,20,Kf⟩) rfl rfl];have e0:Kf=aU.app (.cons z1 (.cons z2 (.cons z3 (.cons z4 (.cons z5 .nil))))) (aU.app (.cons z6 (.cons z7 (.cons z8 (.cons z9 .nil)))) (.cons T4 (.cons XM (.cons (.ret eZ) .nil)))):=rfl;show Pc.ret (aE (T 11) Kf (aD [.lst (ns.map D.int)] 20))=_;rw[e0,pK,q1,cL,pK,q2,cL];exact K16.sq q3 (K16.sq q4 q5)
end K24
end
section
namespace K24
open PySem PySem.Spec PyProof.Rows L2 Pc
noncomputable def stI:Stmt:=match st 15 with
 |.ClassDef _ _ _ b ..=>b.getD 0 (.Pass ⟨0,0,0,0⟩)
 |s=>s
theorem KL:Fd stI "SquareError" "block" :=
 ⟨⟨_,_,_,_,_,_,_,_,_,_,_,_,_,_,_,_,rfl,rfl,by decide,by decide⟩,iG (p:=p) (d:=⟨"__init__",stI,["self","block"],["self","block"],.nil⟩) (n:=60) (by decide +kernel),rfl,rfl,rfl,by decide,by decide⟩
theorem bdI (kV doc pm:Value)(an:Option Addr)(Me ct:Value)(us:List Value)(hl:us.length=2):NE (wf "__init__" "NoMend.__init__" (dW stI) (aV stI) (aB stI) .none kV doc pm an Me ct) ⟨us,[]⟩=pure ([("self" : Str),"block"].zip us) :=
 @Gd (λus=>NE _ ⟨us,[]⟩=pure (ZH _ us)) us hl (λ_ _=>rfl)
theorem nxI:GE (.type "ValueError") "block" = pure η:=by rw[k?,Œ];kernel_rfl
theorem UK (ns:List Int)(hl:ns.length<=63):∃fr,p.run 12 32 [.lst (ns.map D.int)]=.ok (.bl ζ,fr):=UZ ns hl
section
variable {P:Program}{w:Ξ}{K:Frag}{mg:Str->Option Value}{base h:Heap}
theorem foreign (KX:K.In h)(G:h.Ns dL mg)(I:p.In K mg)(hH:vX w K)(hh:∃cS cM fI fd cs,Kk K mg cS cM fI fd stI cs):sj p JP P w K mg base:=by
 obtain⟨cS,cM,fI,NV,cs,hh⟩:=hh;intro n i d hd hn ih f fd F;have hi:i=31:=by
  have q:Fl64.allB 33 (λj=>!JP.contains ((p.N5.map (·.nm)).getD j "") || decide (j=31))=ζ:=by kernel_rfl
  have h:=Fl64.aS q i (χ.mp hd).1;rw[ι,π,hd] at h;have h:(!JP.contains d.nm || decide (i=31))=ζ:=h;rw[u8.mpr hn] at h;exact az h
 subst hi;cases hd;exact vU KX G I hH ih hh F (I.blt "isinstance" (by decide)) (I.blt "ValueError" (by decide)) (I.blt "int" (by decide)) (I.blt "bool" (by decide))
end
end K24
open K24 (st)
open PySem PySem.W PyProof.Rows
theorem PySem.Challenge.cw_patchsquare_k24_first_block_refused_holds : PySem.Challenge.rw_patchsquare_k24_first_block_refused.Holds := by
 refine holds_law (by decide +kernel) λUs=>?_
 refine holds_open (q:=K24.Q) (loose:=["ROOMS","BLOCK_COUNTS"]) (XP:=XL K24.Q []) (YP:=Hook.says K24.H) K24.left (Hook.of K24.H) (Hook.keeps K24.H) (λs e=>xl_of s (Ĭ.mp e).1) XL.keeps (by rfl) (by rfl) (by rfl) (λs e=>recFacts_of (Ĭ.mp e).2) (by rfl) Us (by decide +kernel) ⟨rfl,rfl,rfl,rfl,rfl,by decide +kernel⟩ ?hw ?hc
 case hw=>w_witness2
 refine Pc.JU (l:=sK) K24.p K24.JP 12 32 "_law_script" K24.K9 rfl rfl (λw h Y=>PySem.W.kIn_of Y) rfl rfl rfl ⟨rfl,by decide,by decide⟩ K24.ok ?st ?nl ?hh ?hf K24.UK
 case nl=>intro w;rfl
 case hh=>intro w;exact Pc.FL
 case hf=>
  intro w mg h base KX G I;have F:L2.sf (K24.K w.params) "__init__" "NoMend.__init__" K24.stI 151 _:=⟨⟨_,_,_,_,_,_,_,_,_,rfl,rfl,rfl⟩,rfl⟩;exact K24.foreign KX G I (Pc.FL) ⟨43,154,151,_,[56,68,80,92,104,116,135,173],⟨eo KX G rfl,by kernel_rfl,rfl,by kernel_rfl,by kernel_rfl,by kernel_rfl,F,rfl,F.binds K24.bdI,K24.KL,K24.nxI⟩,eo KX G rfl,by kernel_rfl,by kernel_rfl,by kernel_rfl,by kernel_rfl,⟨⟨⟨rfl,rfl⟩,rfl⟩,⟨⟨rfl,rfl⟩,rfl⟩,⟨⟨rfl,rfl⟩,rfl⟩,⟨⟨rfl,rfl⟩,rfl⟩,⟨⟨rfl,rfl⟩,rfl⟩,⟨⟨rfl,rfl⟩,rfl⟩,⟨⟨rfl,rfl⟩,rfl⟩,⟨⟨rfl,rfl⟩,rfl⟩,trivial⟩,rfl⟩
 case st=>
  intro w;refine⟨⟨?d0,?d1,?d2,?d3,?d4,?d5,?d6,?d7,?d8,?d9,?d10,?d11,?d12,?d13,?d14,?d15,?d16,?d17,?d18,?d19,?d20,?d21,?d22,?d23,?d24,?d25,?d26,?d27,?d28,?d29,?d30,?d31,?d32,trivial⟩,Pc.Ed ⟨?Wr,?Wq,?Wo,?Wn,trivial⟩,⟨?e0,?e1,?e2,?e3,?e4,?e5,?e6,?e7,?e8,?e9,?PB,?Q7,?Qa,?e13,trivial⟩⟩
  case d0|d1|d2|d3|d4|d5|d6|d7|d8|d9|d10|d11|d12|d13|d14|d15|d16|d17|d18|d19|d20|d21|d22|d23|d24|d25|d26|d27|d28|d29|d30|d31|d32=>refine' Pc.Ii ?a ?l ?c ?k;(case a=>rfl);(case l=>rfl);(case c=>rfl);(case k=>rfl)
  case Wr=>refine' Pc.gl_int (i:=64) ?ga0;(case ga0=>rfl)
  case Wq=>refine' Pc.gl_int (i:=67) ?ga1;(case ga1=>rfl)
  case Wo=>refine' Pc.A7 (kvs:=[(.inl 15,θ 16),(.inl 19,θ 37),(.inl 23,θ 64),(.inl 27,θ 96),(.inl 31,θ 133)]) ?ga2 ?gl2 ?gc2 ?gv2 ?gr2;(case ga2=>rfl);(case gl2=>rfl);(case gc2=>exact⟨rfl,rfl,rfl⟩);(case gv2=>exact (.cons rfl rfl rfl (.cons rfl rfl rfl (.cons rfl rfl rfl (.cons rfl rfl rfl (.cons rfl rfl rfl .nil))))));(case gr2=>decide)
  case Wn=>refine' Pc.A7 (kvs:=[(.inl 15,θ 1),(.inl 19,θ 1),(.inl 23,θ 2),(.inl 27,θ 2),(.inl 31,θ 3)]) ?ga3 ?gl3 ?gc3 ?gv3 ?gr3;(case ga3=>rfl);(case gl3=>rfl);(case gc3=>exact⟨rfl,rfl,rfl⟩);(case gv3=>exact (.cons rfl rfl rfl (.cons rfl rfl rfl (.cons rfl rfl rfl (.cons rfl rfl rfl (.cons rfl rfl rfl .nil))))));(case gr3=>decide)
  case e0|e1|e2|e3|e4|e5|e6|e7|e8|e9|PB|Q7|Qa|e13=>dsimp only;rfl
end
