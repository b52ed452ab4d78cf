import PyProof.Rows.All
import Wide.All
import OpenK.AllK
import Lean
import PySem.Challenge.RW_patchsquare_k40_written_at
set_option bootstrap.genMatcherCode false
set_option genSizeOf false
set_option genSizeOfSpec false
set_option genInjectivity false
set_option compiler.extract_closed false
set_option Elab.async false
set_option linter.all false
set_option maxRecDepth 100000
set_option maxHeartbeats 0
open Array renaming getElem?_eq_some_iff->Da,getElem?_toList->XF,length_toList->et,toList->Ø
open Bool renaming and_eq_true->ai,and_eq_true_iff->Zv,and_self->X4,eq_false_iff->Yl,eq_iff_iff->ja,false->γ,false_eq_true->cx,false_ne_true->bo,false_or->Ù,not_eq_true->í,not_eq_true'->en,not_false->XS,or_eq_true->eh,or_eq_true_iff->ZE,or_true->Y9,true->δ,true_and->X3
open Classical renaming byContradiction->š,not_not->Xm
open Decidable renaming byContradiction->ş
open Except renaming ok->ĝ
open False renaming elim->Χ
open ForInStep renaming yield->Xx
open Int renaming ediv_le_self->ü,ediv_nonneg->Ë,fdiv_eq_ediv_of_nonneg->YO,natCast_ediv->Yv,natCast_mul->Ò,natCast_nonneg->ij,toNat_natCast->cu,toNat_of_nonneg->Z5,zero_add->Ě
open List renaming all_cons->g7,all_eq_true->cq,all_nil->Ym,any_cons->iu,any_eq_true->é,append_assoc->gy,append_nil->bh,contains_cons->dk,contains_iff_mem->jp,contains_nil->iq,drop_eq_getElem_cons->gg,drop_length->i4,drop_of_length_le->fi,drop_take->Ð,drop_zero->Í,ext_getElem->i0,ext_getElem?->ã,filterMap_cons->gm,find?_cons->Go,flatten_cons->cg,flatten_nil->ò,foldl->ZR,foldl_cons->Yw,getD->ł,getD_cons_succ->ZD,getD_eq_getElem?_getD->ο,getElem?_append_left->Ψ,getElem?_append_right->am,getElem?_eq_getElem->ω,getElem?_eq_none->XH,getElem?_eq_none_iff->YT,getElem?_eq_some_iff->χ,getElem?_map->τ,getElem?_mapIdx->ii,getElem?_replicate->u8,getElem?_set_ne->Θ,getElem?_set_self->Β,getElem?_toArray->Xa,getElem?_zipIdx->Zr,getElem_mem->c7,isEmpty_iff->Xz,length->XO,length_append->aw,length_cons->av,length_drop->bp,length_eq_zero_iff->XA,length_map->aj,length_mapIdx->Z4,length_nil->du,length_range->fv,length_range'->ig,length_replicate->dg,length_set->ba,length_singleton->jb,length_take->cn,length_take_le->ZK,length_zip->Yz,length_zipIdx->ZU,lookup_append->gu,lookup_cons->cy,map_append->dq,map_congr_left->gj,map_cons->a9,map_drop->Ā,map_id->ip,map_map->gc,map_nil->g9,map_replicate->Z6,map_set->Za,mem_append->i9,mem_append_left->au,mem_append_right->ak,mem_cons->c9,mem_cons_of_mem->ae,mem_cons_self->ah,mem_filter->Xg,mem_filterMap->W0,mem_iff_getElem->XQ,mem_map->gt,mem_of_getElem->bc,mem_of_getElem?->Ι,mem_of_mem_drop->dm,mem_of_mem_take->cv,mem_or_eq_of_mem_set->il,mem_range->Tk,mem_range'_1->å,mem_replicate->Xs,mem_singleton->gr,nil_append->Yx,nil_sublist->Yq,nodup_append->el,nodup_cons->li,nodup_nil->bu,not_mem_nil->br,of_mem_zip->fm,range->bv,range'->W2,range'_succ->ó,range_eq_range'->Zu,range_succ_eq_map->i7,replicate->π,replicate_succ->bq,size_toArray->aq,sublist_append_right->YR,sublist_nil->ì,sum_append->YB,sum_cons->X2,take_of_length_le->cw,take_succ_cons->ZJ,take_zero->Ñ,zip->XT,zip_cons_cons->X5
open List.Pairwise renaming nil->YL
open List.Sublist renaming append->Ĩ,refl->YS
open Nat renaming add_comm->fh,add_le_add->ā,add_le_add_left->Z2,add_sub_cancel->Yg,add_sub_cancel_left->iz,add_zero->Ğ,ble->Xw,div_add_mod->YI,div_le_div_right->XW,eq_or_lt_of_le->æ,exists_eq_add_of_le->iy,le_antisymm->Ê,le_of_ble_eq_true->ay,le_of_eq->i6,le_of_lt->gx,le_of_not_lt->dw,le_of_succ_le->Yp,le_refl->ao,le_succ->YA,le_succ_of_le->ê,le_trans->a8,lt_irrefl->c8,lt_of_le_of_lt->gq,lt_of_lt_of_le->ax,lt_of_not_le->Ä,lt_succ_of_lt->fu,lt_succ_self->g6,min_eq_left->dn,min_eq_right->dh,min_le_right->gb,mod_lt->i5,mod_two_eq_zero_or_one->f9,mul_add->ZG,mul_assoc->ď,mul_comm->ĕ,mul_div_cancel_left->Zb,mul_le_mul->Û,mul_le_mul_left->g8,mul_le_mul_right->ZI,mul_mod_right->ô,mul_one->ZH,mul_zero->ġ,ne_of_gt->Ze,ne_of_lt->az,not_lt_zero->i8,one_mul->ĭ,pow_succ->Zo,pow_zero->ģ,shiftRight_eq_div_pow->ik,strongRecOn->YJ,sub_add_cancel->ä,sub_le->Ņ,sub_self->Zp,sub_zero->ğ,succ_ne_self->þ,xor_lt_two_pow->Yf,zero_add->fg,zero_le->cf,zero_mul->Ģ
open Nat.succ renaming inj->gw
open Ne renaming symm->cj
open Option renaming bind_eq_some_iff->ag,bind_some->ZV,getD_none->ZQ,isSome_map->ZB,isSome_some->Zq,map_eq_some_iff->aa,map_some->cm,none->ε,some->ζ
open Option.some renaming inj->c6,injEq->cz
open Or renaming inr->ĉ
open Prod.mk renaming injEq->fq
open PyProof renaming noPylong_small->YQ
open PyProof.Rows renaming AllBare->WY,Call_->ľ,Constant_none->ŉ,IntsAre->On,IsTup->õ,boot_isinstance->wf,boot_list->Ĝ,callWith_builtin1->Ĥ,callWith_kw->Ī,callWith_type1->de,call_isinstance_of->Þ,drecsOf->Ŕ,envOfC->im,expectedOf->Ö,isTrue_plain->ŗ,lt_int->ĥ,plainGoodD->Õ,plainGoodE->Ô,subscriptTail->Ŏ,subscriptTail_builtinR->Xc,wpAny_notIn_heap->Ė
open PySem renaming Addr->ι,Around->Ρ,BindsTo->à,Builtin->XC,CmpOp->Ya,DictEntry->AT,Drawn->Y0,Env->Yo,FuncData->sK,GenState->Xn,Heap->Υ,IsPart->ĸ,Keyword->á,Model->ZM,NameKind->FS,Obj->na,Operator->FM,OsState->WX,OwnTail->PP,Paired->X9,Params->Yr,PassesOwn->XI,Pos->W3,Program->Ε,Result->Yu,Scope->Db,Sem->Ŗ,Shared->θ,Stmt->xL,Str->ul,Tok->XY,Value->η,Walks->ZT,World->Ξ,argsOk->Ł,assign->Yb,assignEach->Os,atKey->Zi,attributeBase->Zz,backTo->Fa,behindInMarks->At,binaryOp->IR,bindArgs->UF,bindC->ZP,bindL->Y2,bltViewBooted->Zw,bootBuiltins->Op,builtinLookup_eq_fast->î,builtinsNs->Zc,cLine->W8,call->ZA,call_isinstance->dL,call_list_seq->ŏ,call_meets->Zh,call_range_1->ŝ,call_range_2->Ş,callerA->Yj,cellsFrom->io,checkBuiltinCall->WZ,closureFor->Ü,codeAny->Pi,codeAny_builtin->SL,codeAny_call_builtin->AC,codeAny_call_function->Xh,codeAny_func->YE,codeAny_handlers_suite_as->Zt,codeAny_handlers_test->ï,codeAny_mono->Xb,compEnvC->ŀ,compareOp->wp,evalPart_none->ō,execs->ZN,foldedSetIterable->IN,getItem->Ś,hashStr->ă,holding->Yi,importedModules->SB,inplaceOp->ZO,intBits_le_64->ŋ,intText?->û,interactive->ø,isInstance->Ý,isTrue->Z8,isinstance_false_int->ý,isinstance_false_list->ë,isinstance_false_none->X1,isinstance_false_str->Ye,isinstance_false_tuple->XU,letOwnedTupleGo->XX,lookupAlong->Â,lookupAlong_cons->Ġ,mainGlobals->bn,mem_of_lookup->bw,methodCallPos->œ,model->Α,name_of_addr->ř,newFunctionEnv->Zk,noteFrame->ZW,onTheHeap->Z1,pinGoodD->Ĳ,plainId_quiet->T0,pushCells->XM,pushCells_keeps->Y5,pyIter->Yc,rangeSize_one->ő,rawInt->YN,recursionLimit->wS,refuseLoop_ref->ņ,relabel->Č,richCompare->WP,rule->ö,seqIndex_neg->â,seqIndex_of->ù,seqItems?->Yk,setFlight->Z3,setItem->Ř,sizeLine->Ζ,sizeLine_eq->wE,sliceBounds->Xq,slicePicked->À,sliceRange_one->ĺ,slot_dict_getitem->ċ,slot_list_getitem->ć,spliced->Z9,standAt->Ą,starEach->Δ,storeName->ē,strIterType->ť,subscripted->ţ,swappedStores->Ŋ,swapsWith->W7,swapsWithSole->Zx,sysModules->Ch,treeTable->ZL,truthy->ķ,tupleKind->Xi,tupleKind_room_in1->W6,typeIs_bool->ZX,typeIs_int->Zg,typeIs_str->Zf,typeLookup->Ps,typeLookup_eq->Œ,typeLookup_type->Ĭ,typeOf->Ļ,unbindBehindTheSuite->Á,updateSeq->ZZ,valueAt->KB,wpAny->υ,wpAny_Assign_Name->YD,wpAny_Call_Name_kw->lw,wpAny_Compare1->Ķ,wpAny_Expr_any->Zd,wpAny_Name->Yt,wpAny_Try_except->YX,wpAny_assign_Name->ą,wpAny_bind->ν,wpAny_call->UV,wpAny_comprehension_free->ZC,wpAny_eqBool_int->Ē,wpAny_execs_cons->ww,wpAny_execs_nil->Ix,wpAny_field->Y4,wpAny_getItem_of->ė,wpAny_handleBy_cons->Ï,wpAny_holding->KE,wpAny_in_heap->Ő,wpAny_isSubtype_exc->lf,wpAny_isTrue_Compare1->ç,wpAny_letGo->W9,wpAny_letOwnedTupleGo_enum->Zj,wpAny_loadName_cell->É,wpAny_loadName_local->Xo,wpAny_loadPart'->Ħ,wpAny_loadPart_at->Η,wpAny_mono->Λ,wpAny_mroOf_exc->ī,wpAny_newFunctionEnv_cells->WF,wpAny_newObj_type->XE,wpAny_of_eq->ÿ,wpAny_passesOwn->SC,wpAny_pure->Ν,wpAny_pyIter_enum->XD,wpAny_pyIter_list->Xd,wpAny_pyIter_zip->ę,wpAny_seqItems->WV,wpAny_setField->Zn,wpAny_standAt->Xl,wpAny_truthy_bool->rc,wpAny_tryCatch->GE,wpAny_updateSeq->W5
open PySem.Around renaming frames_deeper->Y8,under_plainId->EQ
open PySem.AutoListH renaming list___mul___list_int_3->Ŝ
open PySem.AutoSeq1 renaming list_extend_list_list_0->Ť,sub_tuple_tuple->Ţ
open PySem.Bind renaming checkArgs->XR
open PySem.Builtin renaming bitAnd->W1,bitOr->ñ,bitXor->Xj,iter->wl
open PySem.Builtin.Builtins renaming bindParams->GT
open PySem.Builtin.Dict renaming pendingCount->ĩ
open PySem.Builtin.List renaming listTooLong->Re
open PySem.Builtin.ObjectAttr renaming newKeyGuard->ð,storeInDict->XB
open PySem.Builtin.Range renaming rangeFitsLong->Ę,rangeSize->Γ,small->Yy
open PySem.Builtin.Str renaming glued->ń,occurrences->xz,strSliceIndices->X7,tooLong->Ľ
open PySem.Builtin.Tuple renaming tupleCompareSizes->Ĕ
open PySem.Calls renaming Constant_str->X0,Name_function_global->Xp,evalArgs_plain->XJ,loadGlobal_global->Y1,spliced_cons->KM,spliced_nil->W4
open PySem.Challenge renaming pw_patchsquare_k40_written_at->μ,rw_patchsquare_k40_written_at->lm
open PySem.Code renaming quiet_builtin->X8
open PySem.Data renaming dict->Į
open PySem.EntryCells renaming newEntry->YZ
open PySem.F renaming attrBase_ValueError->Φ,entry_bexc_ga->Ď,entry_max_loop->YG,entry_min_loop->YH,excBase_ValueError->ie,plainAttrs_str->YW,plain_max_loop->No,plain_min_loop->NE,slot_dict_len->Y3,slot_gs_get->Zm,slot_int_rmul->Ċ,slot_str_index->YU,store_ValueError->Ã,typeOf_object_class->XV
open PySem.Heap renaming FlyingW->sw,HeldW->Z0,MadeExcOf->Î,SameBut->Yh,get?_none_of_le->Xe,get?_push_of_some->ξ,get?_push_size->Τ,get?_some_iff->X6,get?_update_ne->ZF,get?_update_other->Κ,get?_update_self->f8,lt_size->ρ,push->Ŀ,size_push->Tl
open PySem.Heap.DictOf renaming new->ļ
open PySem.Heap.IsSliceOf renaming new->Ć
open PySem.Heap.Ns1 renaming of_empty->Ŧ
open PySem.IsL renaming update->ś
open PySem.IsRange renaming new->Ì
open PySem.Manifest renaming signature?->Y6
open PySem.NameKind renaming cell->Ev,free->bi
open PySem.Obj renaming data_mapFields->Xt,isFreed_of_fields->XN,mapFields->Xf,mapSeq->Yd
open PySem.Paired renaming length->Xv,snoc->Ú
open PySem.PassesOwn renaming leaving->Š,never->Zs
open PySem.SeqAt renaming EqAt->Zy
open PySem.SeqAt.EqAt renaming int_int->Ō,int_str->Ň,str_int->ň
open PySem.Str renaming join->YV,length->Ĺ,ofString->wP
open PySem.Value renaming bool->WW,builtin->wn,int->Ω,isInt->Ă,isStrOf->Ç,none->zn,ref->Μ,str->Xy,type->GM
open PySem.W renaming Frag->ψ,KasT->ú,OpenLaw->ZS,SharedT->Z7,WalkO->è,boot_drawn->Ys,boot_heap->Do,boot_toks->YM,callWith_K->dz,cellsFrom_some->gv,clsGoodW->ı,codeIn->Xk,codeRec_of->ic,excIn->Uf,fnOf->wT,funFrames_hide->YY,gensDone->į,hideAll->KF,hideAll_get->gh,isNs_of_in->h9,kas_ask->ZY,keepIn->Ο,laidKept->İ,methodObj->XZ,mg_of->ir,namesBound->Ó,nsIn->pi,nsMap_none_of_in->gn,nsOkIn->XG,of_hideAll->h8,openGood->ĵ,openSeen->Ĵ,staticsOk->đ,tail_of_in->Zl,topFrom->ŕ,topStub->YC,wideGood->ĳ
open PySem.W.Fast renaming tw3399658132070893891->YK,tw821141287760084731->Xu
open PySem.W.Hook renaming obs->Å,val->Æ
open PySem.W.KIN renaming call_text->Ń
open PySem.W.KasFin renaming intro->č
open PySem.W.Looks renaming now->ě
open PySem.W.R renaming mapR->Đ
open PySem.W.RowW renaming records->Y7
open PySem.W.WData renaming int->ħ
open PySem.W.WShape renaming has->Ĉ
open PySem.Walks renaming list->YF
open Sum renaming inl->kw,inr->Yn
open Sum.inl renaming inj->È
open True renaming intro->Xr
abbrev bg:=@of_decide_eq_true
abbrev bj:=@decide_eq_false
abbrev bt:=@decide_eq_true
abbrev bz:=@decide_eq_true_eq
abbrev df:=@if_true
abbrev dy:=@if_false
abbrev eo:=@beq_iff_eq
abbrev fk:=@congrArg
abbrev fw:=@or_false
abbrev iw:=@beq_self_eq_true
section
namespace L2
open PySem PySem.Spec PyProof.Rows
noncomputable def dF(s:xL):Arguments:=match s with
 |.FunctionDef _ a _ _ _ _ _ _ _ _=>a
 |_=>{posonlyargs:=[],args:=[],vararg:=ε,kwonlyargs:=[],kw_defaults:=[],kwarg:=ε,defaults:=[]}
noncomputable def aV(s:xL):List xL:=match s with
 |.FunctionDef _ _ b _ _ _ _ _ _ _=>b
 |_=>[]
noncomputable def aB(s:xL):Db:=match s with
 |.FunctionDef _ _ _ _ _ _ sc _ _ _=>sc
 |_=>{kind:=.function,names:=[],isGenerator:=γ,isCoroutine:=γ}
end L2
end
section
namespace Pc.Hd
open PySem PySem.W L2
noncomputable def sv(x:String)(t:XY):η:=.str (wP x) t
noncomputable def kv(P:Yr)(x:String)(t:XY)(v:η):AT:=⟨PyData.keyHash P (wP x),sv x t,v⟩
noncomputable def zI:xL->Str
 |.FunctionDef n ..=>n
 |_=>wP ""
noncomputable def fo(a:ι)(s:xL)(m c:η):ι×na:=(a,⟨.type "function",ε,.func {name:=zI s,qualname:=zI s,params:=dF s,body:=.stmts (aV s),scope:=aB s,globals:=bn,closure:=[],defaults:=.none,kwdefaults:=.none,pyModule:=m,code:=c},#[]⟩)
noncomputable def co(a:ι)(vs:Array η):ι×na:=(a,⟨.type "code",ε,.fields vs,#[]⟩)
noncomputable def tu(a:ι)(vs:Array η):ι×na:=(a,⟨.type "tuple",ε,.seq vs 0,#[]⟩)
noncomputable def di(a:ι)(es:Array AT)(n:Nat):ι×na:=(a,⟨.type "dict",ε,.dict es n,#[]⟩)
noncomputable def cq(a:ι)(n q:String)(t1 t2 t3:XY)(l k:Int)(r s:ι)(x y:η)(u:ι)(c:Int)(v:XY):ι×na:=co a #[sv n t1,sv q t2,sv "/claim/cut.py" t3,.int l 0,.int k 0,.int 0 0,.int 0 0,.int 3 0,.ref r,.bool δ,.int 181 0,.ref s,.none,x,y,.ref u,.int c 0,.int l 0,sv "/claim/cut.py" v]
noncomputable def ec(a:ι)(n:String)(m u:ι)(t v:XY):ι×na:=(a,{cls:=.type "type",data:=.cls {name:=wP n,bases:=[.ref 43],mro:=[.ref a,.ref 43,.type "ValueError",.type "Exception",.type "BaseException",.type "object"],ns:=m,qualname:=wP n},slots:=#[ζ (.ref u),ε,ζ (sv n t),ζ (sv n v),ζ (.builtin "ValueError.__new__"),ζ (.bool δ)]})
noncomputable def mt(s:xL)(i:Nat):xL:=match s with
 |.ClassDef _ _ _ b ..=>b.getD i (.Pass ⟨0,0,0,0⟩)
 |s=>s
noncomputable def fm(a:ι)(s:xL)(n q:String)(m c:η):ι×na:=(a,⟨.type "function",ε,.func {name:=wP n,qualname:=wP q,params:=dF s,body:=.stmts (aV s),scope:=aB s,globals:=bn,closure:=[],defaults:=.none,kwdefaults:=.none,pyModule:=m,code:=c},#[]⟩)
noncomputable def kd(P:Yr)(a:ι)(t1 t2 t3:XY)(l:Int)(t4 t5:XY)(r:ι)(t6:XY):ι×na:=di a #[kv P "__module__" t1 (sv "patchsquare.errors" t2),kv P "__firstlineno__" t3 (.int l t4),kv P "__static_attributes__" t5 (.ref r),kv P "__doc__" t6 .none] 2
end Pc.Hd
end
section
namespace K40
open PySem PySem.Spec PyProof.Rows L2
noncomputable abbrev st(i:Nat):xL:=μ.main.body.getD i (.Pass ⟨0,0,0,0⟩)
end K40
namespace K40
open PySem PySem.W Pc.Hd
noncomputable def K(P:Yr):Frag:=[(2,{cls:=zn,data:=Į #[]}),
 di 3 #[kv P "__name__" 165 (sv "law_patchsquare_k40_written_at" 773),kv P "__doc__" 166 .none,kv P "__package__" 167 .none,kv P "__loader__" 168 (.builtin "__main__.__loader__#opaque"),kv P "__spec__" 169 .none,kv P "__annotations__" 170 (.ref 6),kv P "__builtins__" 171 (.ref 4),kv P "__file__" 173 (sv "/claim/cut.py" 172),kv P "__cached__" 174 .none,kv P "ROOMS" 204 (.ref 15),kv P "BLOCK_COUNTS" 220 (.ref 16),kv P "block_shapes" 235 (.ref 23),kv P "data_room" 241 (.ref 28),kv P "dealt_rows" 247 (.ref 33),kv P "SquareError" 267 (.ref 43),kv P "TooLong" 283 (.ref 56),kv P "NoSign" 308 (.ref 75),kv P "bits_of" 316 (.ref 82),kv P "number_of" 325 (.ref 89),kv P "MASKS" 329 (.int 8 328),kv P "LABEL_CELLS" 331 (.int 16 330),kv P "WEIGHTS" 333 (.int 4 332),kv P "label_bits" 339 (.ref 94),kv P "shared_ones" 347 (.ref 101),kv P "DARK" 351 (.int 1 350),kv P "LIGHT" 353 (.int 0 352),kv P "MARK_SIDE" 355 (.int 5 354),kv P "UPPER_LEFT" 359 (.ref 102),kv P "UPPER_RIGHT" 363 (.ref 103),kv P "LOWER" 367 (.ref 104),kv P "LABEL_LINE" 369 (.int 5 368),kv P "LABEL_HALF" 371 (.int 8 370),kv P "STRIP_ROWS" 373 (.int 3 372),kv P "mark_cells" 384 (.ref 111),kv P "mark_cell" 394 (.ref 118),kv P "mark_depth" 403 (.ref 125),kv P "ruler_cells" 413 (.ref 132),kv P "label_places" 419 (.ref 137),kv P "data_places" 425 (.ref 142),kv P "taken_places" 437 (.ref 149),kv P "strip_places" 450 (.ref 156),kv P "END" 454 (.int 0 453),kv P "FIGURES" 456 (.int 1 455),kv P "CAPITALS" 458 (.int 2 457),kv P "ANY" 460 (.int 3 459),kv P "KIND_SIGNS" 465 (.ref 157),kv P "SIGN_BITS" 470 (.ref 158),kv P "KIND_BITS" 472 (.int 2 471),kv P "COUNT_BITS" 474 (.int 6 473),kv P "MOST_SIGNS" 476 (.int 64 475),kv P "FIGURE_BITS" 481 (.ref 159),kv P "MOST_FIGURES" 483 (.int 3 482),kv P "piece_length" 492 (.ref 166),kv P "piece_bits" 502 (.ref 173),kv P "figures_bits" 512 (.ref 180),kv P "signs_bits" 522 (.ref 187),kv P "cut_text" 536 (.ref 194),kv P "refuse_strange_signs" 545 (.ref 201),kv P "best_cuts" 557 (.ref 208),kv P "cuts_of_kind" 570 (.ref 215),kv P "GRAIN_BITS" 574 (.int 6 573),kv P "FILLING" 577 (.ref 216),kv P "text_grains" 585 (.ref 223),kv P "bare_grains" 594 (.ref 230),kv P "grains_of_bits" 600 (.ref 235),kv P "bits_of_grains" 609 (.ref 242),kv P "filled_grains" 615 (.ref 247),kv P "turns_over" 626 (.ref 254),kv P "laid_square" 634 (.ref 259),kv P "floor_cells" 646 (.ref 266),kv P "laid_cells" 652 (.ref 271),kv P "masked_cell" 661 (.ref 278),kv P "GRAINS" 665 (.int 64 664),kv P "FOLD" 667 (.int 67 666),kv P "times_of" 678 (.ref 285),kv P "power_of" 689 (.ref 292),kv P "row_product" 704 (.ref 299),kv P "row_with_noughts" 713 (.ref 306),kv P "code_noughts" 721 (.ref 311),kv P "checks_for" 735 (.ref 318),kv P "wrapped_grains" 751 (.ref 325),kv P "written_at" 763 (.ref 332),kv P "wrapped_text" 772 (.ref 339),kv P "_law_mix" 783 (.ref 346),kv P "_law_salt" 789 (.ref 351),kv P "_law_size" 796 (.ref 358),kv P "_law_all" 803 (.ref 365),kv P "_law_known" 810 (.ref 372),kv P "_law_signs" 822 (.ref 379),kv P "_law_text" 834 (.ref 386),kv P "_law_most" 842 (.ref 393),kv P "_law_case" 848 (.ref 398),kv P "_law_whole" 855 (.ref 405),kv P "_law_told" 867 (.ref 412),kv P "_law_refused" 879 (.ref 419),kv P "_law_right" 885 (.ref 424),kv P "law" 902 (.ref 431)] 97,
 di 6 #[] 0,
 di 15 #[{hash:=15,key:=Ω 15 189,val:=Ω 16 190},{hash:=19,key:=Ω 19 191,val:=Ω 37 192},{hash:=23,key:=Ω 23 193,val:=Ω 64 194},{hash:=27,key:=Ω 27 195,val:=Ω 96 196},{hash:=31,key:=Ω 31 197,val:=Ω 133 198}] 5,
 di 16 #[{hash:=15,key:=Ω 15 205,val:=Ω 1 206},{hash:=19,key:=Ω 19 207,val:=Ω 1 208},{hash:=23,key:=Ω 23 209,val:=Ω 2 210},{hash:=27,key:=Ω 27 211,val:=Ω 2 212},{hash:=31,key:=Ω 31 213,val:=Ω 3 214}] 5,
 cq 22 "block_shapes" "block_shapes" 221 222 223 4 2 17 18 (.ref 19) (.ref 20) 21 233 234,
 fo 23 (st 3) (sv "patchsquare.blocks" 187) (.ref 22),
 cq 27 "data_room" "data_room" 236 237 238 14 2 24 25 .none .none 26 239 240,
 fo 28 (st 4) (sv "patchsquare.blocks" 187) (.ref 27),
 cq 32 "dealt_rows" "dealt_rows" 242 243 244 16 1 29 30 .none .none 31 245 246,
 fo 33 (st 5) (sv "patchsquare.blocks" 187) (.ref 32),
 tu 34 #[(.type "ValueError")],
 tu 41 #[],
 di 42 #[kv P "__module__" 257 (sv "patchsquare.errors" 248),kv P "__firstlineno__" 261 (.int 24 260),kv P "__static_attributes__" 262 (.ref 41),kv P "__weakref__" 264 (.ref 44),kv P "__doc__" 265 .none] 3,
 (43,{cls:=GM "type",data:=Data.cls {name:=wP "SquareError",bases:=[GM "ValueError"],mro:=[Μ 43,GM "ValueError",GM "Exception",GM "BaseException",GM "object"],ns:=42,qualname:=wP "SquareError",subclasses:=[Μ 56,Μ 75]},slots:=#[ζ (Μ 34),ε,ζ (Xy (wP "SquareError") 250),ζ (Xy (wP "SquareError") 258),ζ (wn "ValueError.__new__"),ζ (WW δ)]}),
 (44,{cls:=GM "getset_descriptor",data:=Data.fields #[Xy (wP "__weakref__") 263,Μ 43,wn "ExceptionGroup.__weakref__",zn]}),
 tu 47 #[(.ref 43)],
 tu 54 #[],
 kd P 55 275 248 279 26 278 280 54 281,
 ec 56 "TooLong" 55 47 268 276,
 tu 59 #[(.ref 43)],
 cq 71 "__init__" "NoSign.__init__" 296 297 298 30 2 66 67 (.ref 68) (.ref 69) 70 301 302,
 fm 72 (mt (st 9) 0) "__init__" "NoSign.__init__" (sv "patchsquare.errors" 248) (.ref 71),
 tu 73 #[(sv "place" 304)],
 di 74 #[kv P "__module__" 291 (sv "patchsquare.errors" 248),kv P "__firstlineno__" 295 (.int 28 294),kv P "__init__" 303 (.ref 72),kv P "__static_attributes__" 305 (.ref 73),kv P "__doc__" 306 .none] 2,
 ec 75 "NoSign" 74 59 284 292,
 cq 81 "bits_of" "bits_of" 311 312 313 34 2 78 79 .none .none 80 314 315,
 fo 82 (st 11) (sv "patchsquare.bits" 309) (.ref 81),
 cq 88 "number_of" "number_of" 317 318 319 36 1 83 84 (.ref 85) (.ref 86) 87 323 324,
 fo 89 (st 12) (sv "patchsquare.bits" 309) (.ref 88),
 cq 93 "label_bits" "label_bits" 334 335 336 45 2 90 91 .none .none 92 337 338,
 fo 94 (st 17) (sv "patchsquare.labels" 326) (.ref 93),
 cq 100 "shared_ones" "shared_ones" 340 341 342 48 2 95 96 (.ref 97) (.ref 98) 99 345 346,
 fo 101 (st 18) (sv "patchsquare.labels" 326) (.ref 100),
 tu 102 #[(.int 1 356),(.int 0 357),(.int 1 358)],
 tu 103 #[(.int 1 360),(.int 1 361),(.int 0 362)],
 tu 104 #[(.int 0 364),(.int 1 365),(.int 0 366)],
 cq 110 "mark_cells" "mark_cells" 374 375 376 60 1 105 106 (.ref 107) (.ref 108) 109 382 383,
 fo 111 (st 29) (sv "patchsquare.floor" 348) (.ref 110),
 cq 117 "mark_cell" "mark_cell" 385 386 387 67 3 112 113 (.ref 114) (.ref 115) 116 392 393,
 fo 118 (st 30) (sv "patchsquare.floor" 348) (.ref 117),
 cq 124 "mark_depth" "mark_depth" 395 396 397 74 2 119 120 (.ref 121) (.ref 122) 123 401 402,
 fo 125 (st 31) (sv "patchsquare.floor" 348) (.ref 124),
 cq 131 "ruler_cells" "ruler_cells" 404 405 406 77 1 126 127 (.ref 128) (.ref 129) 130 411 412,
 fo 132 (st 32) (sv "patchsquare.floor" 348) (.ref 131),
 cq 136 "label_places" "label_places" 414 415 416 84 1 133 134 .none .none 135 417 418,
 fo 137 (st 33) (sv "patchsquare.floor" 348) (.ref 136),
 cq 141 "data_places" "data_places" 420 421 422 88 1 138 139 .none .none 140 423 424,
 fo 142 (st 34) (sv "patchsquare.floor" 348) (.ref 141),
 cq 148 "taken_places" "taken_places" 426 427 428 91 1 143 144 (.ref 145) (.ref 146) 147 435 436,
 fo 149 (st 35) (sv "patchsquare.floor" 348) (.ref 148),
 cq 155 "strip_places" "strip_places" 438 439 440 98 1 150 151 (.ref 152) (.ref 153) 154 448 449,
 fo 156 (st 36) (sv "patchsquare.floor" 348) (.ref 155),
 tu 157 #[(sv "" 461),(sv "0123456789" 462),(sv " ABCDEFGHIJKLMNOPQRSTUVWXYZ.,-:/" 463),(sv " !\"#$&'()*+,-./0123456789:;<=>?@ABCDEFGHIJKLMNOPQRSTUVWXYZ[\\]^_`abcdefghijklmnopqrstuvwxyz{|}~" 464)],
 tu 158 #[(.int 0 466),(.int 0 467),(.int 5 468),(.int 7 469)],
 tu 159 #[(.int 0 477),(.int 4 478),(.int 7 479),(.int 10 480)],
 cq 165 "piece_length" "piece_length" 484 485 486 120 2 160 161 (.ref 162) (.ref 163) 164 490 491,
 fo 166 (st 49) (sv "patchsquare.pieces" 451) (.ref 165),
 cq 172 "piece_bits" "piece_bits" 493 494 495 125 1 167 168 (.ref 169) (.ref 170) 171 500 501,
 fo 173 (st 50) (sv "patchsquare.pieces" 451) (.ref 172),
 cq 179 "figures_bits" "figures_bits" 503 504 505 132 1 174 175 (.ref 176) (.ref 177) 178 510 511,
 fo 180 (st 51) (sv "patchsquare.pieces" 451) (.ref 179),
 cq 186 "signs_bits" "signs_bits" 513 514 515 138 2 181 182 (.ref 183) (.ref 184) 185 520 521,
 fo 187 (st 52) (sv "patchsquare.pieces" 451) (.ref 186),
 cq 193 "cut_text" "cut_text" 525 526 527 144 1 188 189 (.ref 190) (.ref 191) 192 534 535,
 fo 194 (st 54) (sv "patchsquare.cutting" 523) (.ref 193),
 cq 200 "refuse_strange_signs" "refuse_strange_signs" 537 538 539 155 1 195 196 (.ref 197) (.ref 198) 199 543 544,
 fo 201 (st 55) (sv "patchsquare.cutting" 523) (.ref 200),
 cq 207 "best_cuts" "best_cuts" 546 547 548 159 1 202 203 (.ref 204) (.ref 205) 206 555 556,
 fo 208 (st 56) (sv "patchsquare.cutting" 523) (.ref 207),
 cq 214 "cuts_of_kind" "cuts_of_kind" 558 559 560 169 4 209 210 (.ref 211) (.ref 212) 213 568 569,
 fo 215 (st 57) (sv "patchsquare.cutting" 523) (.ref 214),
 tu 216 #[(.int 42 575),(.int 21 576)],
 cq 222 "text_grains" "text_grains" 578 579 580 178 2 217 218 (.ref 219) (.ref 220) 221 583 584,
 fo 223 (st 61) (sv "patchsquare.grains" 571) (.ref 222),
 cq 229 "bare_grains" "bare_grains" 586 587 588 180 1 224 225 (.ref 226) (.ref 227) 228 592 593,
 fo 230 (st 62) (sv "patchsquare.grains" 571) (.ref 229),
 cq 234 "grains_of_bits" "grains_of_bits" 595 596 597 188 1 231 232 .none .none 233 598 599,
 fo 235 (st 63) (sv "patchsquare.grains" 571) (.ref 234),
 cq 241 "bits_of_grains" "bits_of_grains" 601 602 603 190 1 236 237 (.ref 238) (.ref 239) 240 607 608,
 fo 242 (st 64) (sv "patchsquare.grains" 571) (.ref 241),
 cq 246 "filled_grains" "filled_grains" 610 611 612 195 2 243 244 .none .none 245 613 614,
 fo 247 (st 65) (sv "patchsquare.grains" 571) (.ref 246),
 cq 253 "turns_over" "turns_over" 618 619 620 201 3 248 249 (.ref 250) (.ref 251) 252 624 625,
 fo 254 (st 67) (sv "patchsquare.masks" 616) (.ref 253),
 cq 258 "laid_square" "laid_square" 629 630 631 218 4 255 256 .none .none 257 632 633,
 fo 259 (st 69) (sv "patchsquare.laying" 627) (.ref 258),
 cq 265 "floor_cells" "floor_cells" 635 636 637 223 3 260 261 (.ref 262) (.ref 263) 264 644 645,
 fo 266 (st 70) (sv "patchsquare.laying" 627) (.ref 265),
 cq 270 "laid_cells" "laid_cells" 647 648 649 228 3 267 268 .none .none 269 650 651,
 fo 271 (st 71) (sv "patchsquare.laying" 627) (.ref 270),
 cq 277 "masked_cell" "masked_cell" 653 654 655 233 3 272 273 (.ref 274) (.ref 275) 276 659 660,
 fo 278 (st 72) (sv "patchsquare.laying" 627) (.ref 277),
 cq 284 "times_of" "times_of" 668 669 670 240 2 279 280 (.ref 281) (.ref 282) 283 676 677,
 fo 285 (st 76) (sv "patchsquare.field" 662) (.ref 284),
 cq 291 "power_of" "power_of" 679 680 681 252 2 286 287 (.ref 288) (.ref 289) 290 687 688,
 fo 292 (st 77) (sv "patchsquare.field" 662) (.ref 291),
 cq 298 "row_product" "row_product" 692 693 694 263 2 293 294 (.ref 295) (.ref 296) 297 702 703,
 fo 299 (st 79) (sv "patchsquare.rows" 690) (.ref 298),
 cq 305 "row_with_noughts" "row_with_noughts" 705 706 707 269 1 300 301 (.ref 302) (.ref 303) 304 711 712,
 fo 306 (st 80) (sv "patchsquare.rows" 690) (.ref 305),
 cq 310 "code_noughts" "code_noughts" 716 717 718 275 1 307 308 .none .none 309 719 720,
 fo 311 (st 82) (sv "patchsquare.checks" 714) (.ref 310),
 cq 317 "checks_for" "checks_for" 722 723 724 277 2 312 313 (.ref 314) (.ref 315) 316 733 734,
 fo 318 (st 83) (sv "patchsquare.checks" 714) (.ref 317),
 cq 324 "wrapped_grains" "wrapped_grains" 738 739 740 286 3 319 320 (.ref 321) (.ref 322) 323 749 750,
 fo 325 (st 85) (sv "patchsquare.wrapping" 736) (.ref 324),
 cq 331 "written_at" "written_at" 754 755 756 295 4 326 327 (.ref 328) (.ref 329) 330 761 762,
 fo 332 (st 87) (sv "patchsquare.writing" 752) (.ref 331),
 cq 338 "wrapped_text" "wrapped_text" 764 765 766 297 3 333 334 (.ref 335) (.ref 336) 337 770 771,
 fo 339 (st 88) (sv "patchsquare.writing" 752) (.ref 338),
 cq 345 "_law_mix" "_law_mix" 775 776 777 300 3 340 341 (.ref 342) (.ref 343) 344 781 782,
 fo 346 (st 90) (sv "law_patchsquare_k40_written_at" 773) (.ref 345),
 cq 350 "_law_salt" "_law_salt" 784 785 786 302 2 347 348 .none .none 349 787 788,
 fo 351 (st 91) (sv "law_patchsquare_k40_written_at" 773) (.ref 350),
 cq 357 "_law_size" "_law_size" 790 791 792 304 1 352 353 (.ref 354) (.ref 355) 356 794 795,
 fo 358 (st 92) (sv "law_patchsquare_k40_written_at" 773) (.ref 357),
 cq 364 "_law_all" "_law_all" 797 798 799 306 0 359 360 (.ref 361) (.ref 362) 363 801 802,
 fo 365 (st 93) (sv "law_patchsquare_k40_written_at" 773) (.ref 364),
 cq 371 "_law_known" "_law_known" 804 805 806 309 1 366 367 (.ref 368) (.ref 369) 370 808 809,
 fo 372 (st 94) (sv "law_patchsquare_k40_written_at" 773) (.ref 371),
 cq 378 "_law_signs" "_law_signs" 811 812 813 315 3 373 374 (.ref 375) (.ref 376) 377 820 821,
 fo 379 (st 95) (sv "law_patchsquare_k40_written_at" 773) (.ref 378),
 cq 385 "_law_text" "_law_text" 823 824 825 322 2 380 381 (.ref 382) (.ref 383) 384 832 833,
 fo 386 (st 96) (sv "law_patchsquare_k40_written_at" 773) (.ref 385),
 cq 392 "_law_most" "_law_most" 835 836 837 331 2 387 388 (.ref 389) (.ref 390) 391 840 841,
 fo 393 (st 97) (sv "law_patchsquare_k40_written_at" 773) (.ref 392),
 cq 397 "_law_case" "_law_case" 843 844 845 335 3 394 395 .none .none 396 846 847,
 fo 398 (st 98) (sv "law_patchsquare_k40_written_at" 773) (.ref 397),
 cq 404 "_law_whole" "_law_whole" 849 850 851 346 1 399 400 (.ref 401) (.ref 402) 403 853 854,
 fo 405 (st 99) (sv "law_patchsquare_k40_written_at" 773) (.ref 404),
 cq 411 "_law_told" "_law_told" 856 857 858 348 4 406 407 (.ref 408) (.ref 409) 410 865 866,
 fo 412 (st 100) (sv "law_patchsquare_k40_written_at" 773) (.ref 411),
 cq 418 "_law_refused" "_law_refused" 868 869 870 355 5 413 414 (.ref 415) (.ref 416) 417 877 878,
 fo 419 (st 101) (sv "law_patchsquare_k40_written_at" 773) (.ref 418),
 cq 423 "_law_right" "_law_right" 880 881 882 364 2 420 421 .none .none 422 883 884,
 fo 424 (st 102) (sv "law_patchsquare_k40_written_at" 773) (.ref 423),
 cq 430 "law" "law" 886 887 888 371 1 425 426 (.ref 427) (.ref 428) 429 900 901,
 fo 431 (st 103) (sv "law_patchsquare_k40_written_at" 773) (.ref 430)]
noncomputable def as:List ι:=[2,3,6,15,16,22,23,27,28,32,33,34,41,42,43,44,47,54,55,56,59,71,72,73,74,75,81,82,88,89,93,94,100,101,102,103,104,110,111,117,118,124,125,131,132,136,137,141,142,148,149,155,156,157,158,159,165,166,172,173,179,180,186,187,193,194,200,201,207,208,214,215,216,222,223,229,230,234,235,241,242,246,247,253,254,258,259,265,266,270,271,277,278,284,285,291,292,298,299,305,306,310,311,317,318,324,325,331,332,338,339,345,346,350,351,357,358,364,365,371,372,378,379,385,386,392,393,397,398,404,405,411,412,418,419,423,424,430,431]
noncomputable def Q:Ε:={μ with main:={μ.main with body:=[st 1,st 2,st 3,st 4,st 5,st 7,st 8,st 9,st 11,st 12,st 14,st 15,st 16,st 17,st 18,st 20,st 21,st 22,st 23,st 24,st 25,st 26,st 27,st 28,st 29,st 30,st 31,st 32,st 33,st 34,st 35,st 36,st 38,st 39,st 40,st 41,st 42,st 43,st 44,st 45,st 46,st 47,st 48,st 49,st 50,st 51,st 52,st 54,st 55,st 56,st 57,st 59,st 60,st 61,st 62,st 63,st 64,st 65,st 67,st 69,st 70,st 71,st 72,st 74,st 75,st 76,st 77,st 79,st 80,st 82,st 83,st 85,st 87,st 88,st 90,st 91,st 92,st 93,st 94,st 95,st 96,st 97,st 98,st 99,st 100,st 101,st 102,st 103]}}
noncomputable def H:Hook:=kHook K as (λ_=>rfl)
open PyProof.Rows
def V7(t:BT):Nat->List na->BT
 |_,[]=>t
 |n,o::l=>V7 (t.ins n o) (n+1) l
noncomputable def LS(P:Yr)(os:WX):Z7:=⟨V7 .nil 0 (Do P).objs.toList,11,(Do P).life,#[],Ys,YM,os⟩
noncomputable def Ld(p:Ε)(w:Ξ):Nat->Z7->Thread->Option Z7
 |0,_,_=>ε
 |n+1,s,t=>match through t with
  |true=>ζ s
  |false=>match Fast.tw6613529449190102663 11 (ζ (.ref 6)) t with
   |false=>ε
   |true=>match Fast.tw10156331382660048174 (Fast.tw11892475500146522536 Fast.tw14364793385576792824) p w s t with
    |some (u,v)=>Ld p w n u v
    |none=>ε
theorem V6{p:Ε}{w:Ξ}:∀{n:Nat}{s u:Z7}{t:Thread},Ld p w n s t=ζ u->topRun ZL p w 11 (ζ (.ref 6)) n s.abs t=ζ u.abs
 |0,_,_,_,h=>by cases h
 |n+1,s,u,t,h=>by
  unfold Ld at h
  rw[←Fast.te10156331382660048174,←Fast.te6613529449190102663,←Fast.te11892475500146522536,←Fast.te14364793385576792824]at h
  unfold topRun
  cases ht:through t with
  |true=>rw[ht]at h;cases h;rfl
  |false=>
   rw[ht]at h
   cases hk:stepOk 11 (ζ (.ref 6)) t with
   |false=>rw[hk]at h;cases h
   |true=>
    rw[hk]at h
    cases hs:stepT (denote ZL) p w s t with
    |none=>rw[hs]at h;cases h
    |some r=>obtain⟨_,_⟩:=r;rw[hs]at h;dsimp only;rw[stepT_spec hs];exact V6 h
noncomputable def V5(q:Ε)(s:θ):=Fast.tw5160383126252970620 (Đ (λx=>x.name) (YK q)) (Fast.tw5991557255702980513 q) [] {heap:=s.heap,drawn:=s.drawn,toks:=s.toks,os:=s.os}
noncomputable def V4(q:Ε)(l:List Str)(s:θ):=Fast.tw10880121769531294198 s.heap (Xu q l) (Đ (λx=>x.name) (YK q)) (Đ (λx=>x.fst) (Fast.tw7409074990110511671 q)) (Đ (λx=>x.name) (Fast.tw13664370479719496447 q (Xu q l)))
noncomputable def Ph(q:Ε)(l m:List Str)(X:θ->Bool)(s:θ):=(Fast.tw2386780881361962483 q (Xu q l) s,Fast.tw11698064438423848299 q l s,Fast.tw7369524293546568484 q l s,Fast.tw14722251495701143533 s.heap m,s.heap.isNs bn,s.heap.isNs Zc,X s,s.gens.size==0,s.heap.bltView)
noncomputable def Pf(p q:Ε)(l:List Str)(P:Yr)(s:θ):=(V5 q s,V4 q l s,đ (SB p.main.body) (Do P) s.heap&&Ó p s.heap&&į s&&İ (Do P) s.heap)
noncomputable def Pd{α:Type}(q:Ε)(Y:θ->α)(s:θ):=(Fast.tw479339242167458305 q s,Fast.tw16090120013241838585 q (Fast.tw3247288618530077131 q) s,Fast.tw7317090234206586261 q s,Fast.tw10994771534591457954 q s.heap,Y s)
variable {X:θ->Bool}{l:List Str}{q:Ε}
theorem V8{p:Ε}{m:List Str}{α:Type}{Y:θ->α}{v:α}{P:Yr}{o:Option Z7}(h1:o.map (λs=>Ph q l m X s.abs)=ζ (Ô q (looseW q l),Õ q l,ı q l,δ,δ,δ,δ,δ,Zw))(h2:o.map (λs=>Pf p q l P s.abs)=ζ (Ö q,δ,δ))(h3:o.map (λs=>Pd q Y s.abs)=ζ (δ,Ĳ (Ŕ q),ĳ q,δ,v)):∃s,o=ζ s∧(đ (SB p.main.body) (Do P) s.abs.heap&&Ó p s.abs.heap&&į s.abs&&İ (Do P) s.abs.heap)=δ∧Ĵ q l m X δ s.abs=ĵ q l∧Y s.abs=v:=by
 cases o with
 |none=>cases h1
 |some t=>
  have h1:=c6 h1;have h2:=c6 h2;have h3:=c6 h3
  simp only[Ph,Pf,Pd,fq]at h1 h2 h3
  obtain⟨e6,e7,e9,a,n,d,x,g,e2⟩:=h1
  obtain⟨e1,k,b⟩:=h2
  obtain⟨e4,e5,e8,p,y⟩:=h3
  refine⟨t,rfl,b,?_,y⟩
  rw[Fast.te4187177175401517315]
  show(V5 q t.abs,_,V4 q l t.abs&&_&&_&&_&&_&&_&&(t.abs.gens.size==0),_)=_
  rw[e1,e2,k,a,n,d,p,x,g,e4,e5,e6,e7,e8,e9]
  rfl
theorem hqS{p:Ε}{α:Type}{Y:θ->α}{V:Ξ->α}{N:Nat}(r:String)(e:opening p=plainProg p.main.scope.names)(hN:Xw 600 N=δ)(f:∀s,fenceModules? p s=ζ s)(h:∀(b:Bool)(w:Ξ)(os:WX),∃s,Ld p (w.withFollow r b) N (LS w.params os) (YC p)=ζ s∧(đ (SB p.main.body) (Do w.params) s.abs.heap&&Ó p s.abs.heap&&į s.abs&&İ (Do w.params) s.abs.heap)=δ∧Ĵ q l (SB p.main.body) X δ s.abs=ĵ q l∧Y s.abs=V (w.withFollow r b)):LeftO p q l X Y V N:=by
 refine LeftO.of_split r λw=>?_
 obtain⟨⟨hp,gs,d,k,os⟩,a,c⟩:=aa.mp (boot_open e hN f w)
 obtain⟨rfl,rfl,rfl,rfl⟩:hp=Do w.params∧gs=#[]∧d=Ys∧k=YM:=by simpa using c
 rw[a]
 have z:((Do w.params).isNs bn,(Do w.params).objs.size,(Do w.params).nsMap bn "__annotations__")=(δ,11,ζ (.ref 6)):=by kernel_rfl
 obtain⟨z1,z2,z3⟩:_∧_∧_:=by simpa only[fq]using z
 have go:∀b,(ŕ ZL p (w.withFollow r b) N ⟨Do w.params,#[],Ys,YM,os⟩).map (λs=>(Ĵ q l (SB p.main.body) X δ s,Y s))=ζ (ĵ q l,V (w.withFollow r b)):=by
  intro b
  obtain⟨s,h1,l1,l2,l3⟩:=h b w os
  have u:=V6 h1
  rw[show(LS w.params os).abs=⟨Do w.params,#[],Ys,YM,os⟩ by kernel_rfl]at u
  have t:ŕ ZL p (w.withFollow r b) N ⟨Do w.params,#[],Ys,YM,os⟩=ζ s.abs:=by
   unfold ŕ
   dsimp only
   rw[z1,z2,z3,u]
   show(match _ with|true=>_|false=>_)=_
   rw[l1]
  rw[t]
  exact congrArg ζ (Prod.ext l2 l3)
 show ζ (_,_)=_
 rw[go γ,go δ]
theorem Rc(w:Ξ)(os:WX):(Ld μ (w.withFollow "special-get-raises" γ) 6002 (LS w.params os) (YC μ)).map (λs=>Ph Q ["ROOMS","BLOCK_COUNTS"] (SB μ.main.body) (λs=>xlAt K40.Q [] s&&recOk (Y7 lm.row.toRowW) s) s.abs)=ζ (Ô Q (looseW Q ["ROOMS","BLOCK_COUNTS"]),Õ Q ["ROOMS","BLOCK_COUNTS"],ı Q ["ROOMS","BLOCK_COUNTS"],δ,δ,δ,δ,δ,Zw):=by kernel_rfl
theorem Rb(w:Ξ)(os:WX):(Ld μ (w.withFollow "special-get-raises" γ) 6002 (LS w.params os) (YC μ)).map (λs=>Pf μ Q ["ROOMS","BLOCK_COUNTS"] w.params s.abs)=ζ (Ö Q,δ,δ):=by kernel_rfl
theorem Ra(w:Ξ)(os:WX):(Ld μ (w.withFollow "special-get-raises" γ) 6002 (LS w.params os) (YC μ)).map (λs=>Pd Q (Å H) s.abs)=ζ (δ,Ĳ (Ŕ Q),ĳ Q,δ,Æ H (w.withFollow "special-get-raises" γ)):=by kernel_rfl
theorem Q9(w:Ξ)(os:WX):(Ld μ (w.withFollow "special-get-raises" δ) 6002 (LS w.params os) (YC μ)).map (λs=>Ph Q ["ROOMS","BLOCK_COUNTS"] (SB μ.main.body) (λs=>xlAt K40.Q [] s&&recOk (Y7 lm.row.toRowW) s) s.abs)=ζ (Ô Q (looseW Q ["ROOMS","BLOCK_COUNTS"]),Õ Q ["ROOMS","BLOCK_COUNTS"],ı Q ["ROOMS","BLOCK_COUNTS"],δ,δ,δ,δ,δ,Zw):=by kernel_rfl
theorem Q8(w:Ξ)(os:WX):(Ld μ (w.withFollow "special-get-raises" δ) 6002 (LS w.params os) (YC μ)).map (λs=>Pf μ Q ["ROOMS","BLOCK_COUNTS"] w.params s.abs)=ζ (Ö Q,δ,δ):=by kernel_rfl
theorem Q7(w:Ξ)(os:WX):(Ld μ (w.withFollow "special-get-raises" δ) 6002 (LS w.params os) (YC μ)).map (λs=>Pd Q (Å H) s.abs)=ζ (δ,Ĳ (Ŕ Q),ĳ Q,δ,Æ H (w.withFollow "special-get-raises" δ)):=by kernel_rfl
theorem left:LeftO μ Q ["ROOMS","BLOCK_COUNTS"] (λs=>xlAt K40.Q [] s&&recOk (Y7 lm.row.toRowW) s) (Å H) (Æ H) 6002:=hqS "special-get-raises" rfl rfl (λ_=>rfl) λb w os=>match b with
 |false=>V8 (Rc w os) (Rb w os) (Ra w os)
 |true=>V8 (Q9 w os) (Q8 w os) (Q7 w os)
end K40
end
section
namespace L2
open PySem PySem.Spec PyProof.Rows
noncomputable abbrev Key:=Sum Int Str
noncomputable def lA:Key->η->Bool
 |.inl k,v=>Ă k v
 |.inr x,v=>Ç x v
noncomputable def QL(w:Ξ):Key->Int
 |.inl k=>hashInt k
 |.inr x=>ă w x
theorem bJ:∀{k:Key}{v:η},lA k v=δ->(∃i t,k=kw i/\v=Ω i t)\/(∃x t,k=Yn x/\v=Xy x t)
 |.inl i,v,h=>by
  obtain⟨t,e⟩:=Value.isInt_shape (k:=i) (v:=v) h;exact .inl ⟨i,t,rfl,e⟩
 |.inr x,v,h=>by
  obtain⟨t,e⟩:=Value.isStrOf_shape (x:=x) (v:=v) h;exact .inr ⟨x,t,rfl,e⟩
theorem vN(i:Int)(t:XY):lA (.inl i) (.int i t)=δ:=by simp[lA,Ă]
theorem vp(x:Str)(t:XY):lA (.inr x) (.str x t)=δ:=by simp[lA,Ç]
theorem EU(a b:Int):decide ((kw a:Key)=kw b)=(a==b):=by
 by_cases e:a=b
 .subst e;simp
 .have h:¬ (kw a:Key)=kw b:=λq=>e (È q)
  rw[bj h];exact(beq_eq_false_iff_ne.mpr e).symm
theorem D1(a b:Str):decide ((Yn a:Key)=Yn b)=decide (a=b):=by
 by_cases e:a=b
 .subst e;simp
 .have h:¬ (Yn a:Key)=Yn b:=λq=>e (Sum.inr.inj q)
  rw[bj h,bj e]
theorem Dn(a:Int)(b:Str):decide ((kw a:Key)=Yn b)=γ:=bj (λq=>nomatch q)
theorem DN(a:Str)(b:Int):decide ((Yn a:Key)=kw b)=γ:=bj (λq=>nomatch q)
noncomputable def aM(prog:Ε)(w:Ξ):PySem.KeyKind prog w Key where
 is:=lA
 hash:=QL w
 inj:=λv a b ha hb=>by
  rcases bJ ha with⟨i,t,rfl,rfl⟩|⟨x,t,rfl,rfl⟩
  .rcases bJ hb with⟨j,u,rfl,e⟩|⟨y,u,rfl,e⟩
   .injection e with e1 _;rw[e1]
   .exact nomatch e
  .rcases bJ hb with⟨j,u,rfl,e⟩|⟨y,u,rfl,e⟩
   .exact nomatch e
   .injection e with e1 _;rw[e1]
 byValue:=λk v h=>by
  rcases bJ h with⟨i,t,rfl,rfl⟩|⟨x,t,rfl,rfl⟩<;>rfl
 pyHash:=λhv h=>by
  rcases bJ hv with⟨i,t,rfl,rfl⟩|⟨x,t,rfl,rfl⟩
  .exact wpAny_pyHash_int h
  .exact wpAny_pyHash_str h
 eqBool:=λhu hv h=>by
  rcases bJ hu with⟨i,t,rfl,rfl⟩|⟨x,t,rfl,rfl⟩
  .rcases bJ hv with⟨j,u,rfl,rfl⟩|⟨y,u,rfl,rfl⟩
   .rw[EU]at h;exact Ē h
   .rw[Dn]at h;exact Ň i t y u _ _ _ _ h
  .rcases bJ hv with⟨j,u,rfl,rfl⟩|⟨y,u,rfl,rfl⟩
   .rw[DN]at h;exact ň x t j u _ _ _ _ h
   .rw[D1]at h;exact wpAny_eqBool_str h
 «strs»:=λk x t v h=>by
  rcases bJ h with⟨i,u,rfl,e⟩|⟨y,u,rfl,e⟩
  .exact nomatch e
  .injection e with e1 _
   subst e1;cases v<;>rfl
theorem eS(prog:Ε)(w:Ξ)(i:Int)(t:XY):(aM prog w).is (.inl i) (.int i t)=δ:=vN i t
theorem iF(prog:Ε)(w:Ξ)(x:Str)(t:XY):(aM prog w).is (.inr x) (.str x t)=δ:=vp x t
end L2
namespace L2
open PySem PySem.Spec PyProof.Rows
inductive V where
 |Ii|bl (b:Bool)|int (i:Int)|str (x:Str)|Nb (b:Array UInt8)|Pr (b:UInt64)|ref (a:ι)|ty (n:String)
 deriving DecidableEq
noncomputable def RelV:V->η->Prop
 |.Ii,u=>u=zn
 |.bl b,u=>u=WW b
 |.int i,u=>∃t,u=Ω i t
 |.str x,u=>∃t,u=Xy x t
 |.Nb b,u=>∃t,u=Value.bytes b t
 |.Pr b,u=>∃t,u=Value.float b t
 |.ref a,u=>u=Μ a
 |.ty n,u=>u=GM n
noncomputable abbrev aL:List V->List η->Prop:=X9 RelV
theorem aL.length{xs:List V}{us:List η}(r:aL xs us):xs.length=us.length:=Xv r
theorem aL.get:∀{xs:List V}{us:List η}{i:Nat}{x:V},aL xs us->xs[i]? = ζ x->∃u,us[i]? = ζ u/\RelV x u
 |_,_,_,_,.nil,e=>by simp at e
 |_,_,0,_,.cons r _,e=>by simp at e;subst e;exact⟨_,rfl,r⟩
 |_,_,i+1,x,.cons _ t,e=>by
  obtain⟨u,h1,h2⟩:=aL.get (i:=i) (x:=x) t (by simpa using e);exact⟨u,by simpa using h1,h2⟩
theorem aL.set{x:V}{u:η}(r:RelV x u):∀{xs:List V}{us:List η}(i:Nat),aL xs us->aL (xs.set i x) (us.set i u)
 |_,_,_,.nil=>.nil
 |_,_,0,.cons _ t=>.cons r t
 |_,_,i+1,.cons q t=>.cons q (aL.set r i t)
theorem aL.append:∀{xs ys:List V}{us ws:List η},aL xs us->aL ys ws->aL (xs++ys) (us++ws)
 |_,_,_,_,.nil,s=>s
 |_,_,_,_,.cons r t,s=>.cons r (aL.append t s)
theorem aL.take:∀{xs:List V}{us:List η}(n:Nat),aL xs us->aL (xs.take n) (us.take n)
 |_,_,0,_=>.nil
 |_,_,_+1,.nil=>.nil
 |_,_,n+1,.cons r t=>.cons r (aL.take n t)
theorem aL.drop:∀{xs:List V}{us:List η}(n:Nat),aL xs us->aL (xs.drop n) (us.drop n)
 |_,_,0,r=>r
 |_,_,_+1,.nil=>.nil
 |_,_,n+1,.cons _ t=>aL.drop n t
noncomputable def uP:Option V->Option η->Prop
 |some v,ζ u=>RelV v u
 |none,ε=>True
 |_,_=>False
def KV{κ:Type}:List (κ×V)->List (κ×η)->Prop:=X9 λ(p:κ×V) (q:κ×η)=>p.1=q.1/\RelV p.2 q.2
noncomputable def kV:Key->V
 |.inl i=>.int i
 |.inr x=>.str x
inductive HO where
 |lst (xs:List V)
 |tup (xs:List V)
 |dK (kvs:List (Key×V))|dT (kvs:List (List Key×V))
 |set (S:Int->Bool) (n:Nat)
 |ins (C dx:ι) (fs:List (Str×V))
 |own (x:ι)
 |xd (fs:List (Str×V))
 |met (f x:ι)
 |OS (lo hi:Int)
 |JA (o:na) (u:HO)
 |LL (ps:Array η)
 |ext (φ:Υ->Prop)
noncomputable abbrev Hp:=ι->Option HO
noncomputable def upd(H:Hp)(a:ι)(o:HO):Hp:=λb=>if b=a then ζ o else H b
variable {H:Hp}{a:ι}{o:HO}
theorem aK:upd H a o a=ζ o:=by unfold upd;rw[if_pos rfl]
variable {b:ι}
theorem aE(h:b≠a):upd H a o b=H b:=by unfold upd;rw[if_neg h]
variable {u:HO}
theorem Fp(h:H a=ζ o)(h':H b=ζ u)(d:o≠u):a≠b:=by
 intro e;subst e;rw[h]at h';exact d (c6 h')
theorem bO(h:H a=ζ o)(h':H b=ε):a≠b:=by
 intro e;subst e;rw[h]at h';cases h'
section
variable (P:Ε)(w:Ξ)
noncomputable def bU(H:Hp)(h:Υ)(a:ι):HO->Prop
 |.lst xs=>xs.length<=Ζ/\∃(its:List η) (n:Nat),aL xs its/\h.get? a=ζ {cls:=.type "list",data:=.seq its.toArray n}
 |.tup xs=>xs.length<=Ζ/\∃its:List η,aL xs its/\õ h a its.toArray
 |.dK kvs=>kvs.length<=Ζ/\(a==Ch)=γ/\∃vs,KV kvs vs/\h.DictOf (aM P w) a vs
 |.dT kvs=>kvs.length<=Ζ/\(a==Ch)=γ/\∃xs:List (List Key×ι×η),
   X9 (λ(p:List Key×V) (q:List Key×ι×η)=>p.1=q.1/\H q.2.1=ζ (.tup (p.1.map kV))/\RelV p.2 q.2.2) kvs xs /\
   ∃o es ep,h.get? a=ζ o/\o.ExactDict/\o.data=.dict es ep/\es.toList=xs.map (entryOfKey (Xi (aM P w)))/\(xs.map (·.1)).Nodup
 |.set S n=>h.SetOf (intKind P w) a S n
 |.ins C dx fs=>H dx=ζ (.own a)/\fs.length<=1000/\dx≠a/\h.get? a=ζ (PySem.W.instObj C dx) /\
   ∃mA,h.Ns1 dx mA/\(∀f,uP (fs.lookup f) (mA f))/\PySem.Within mA (fs.map (·.1))
 |.own _=>∃o,h.get? a=ζ o
 |.xd fs=>∃mA,h.Ns1 a mA/\∀f,uP (fs.lookup f) (mA f)
 |.OS lo hi=>∃t u v,h.get? a=ζ {cls:=.type "range",data:=.fields #[.int lo t,.int hi u,.int 1 v]}
 |.JA o u=>h.get? a=ζ o/\bU H h a u
 |.LL ps=>h.get? a=ζ {cls:=.none,data:=.fields ps}
 |.met f x=>h.get? a=ζ (XZ (.ref f) (.ref x))
 |.ext φ=>φ h/\(∃o,h.get? a=ζ o)/\∀h1 h2:Υ,φ h1->(∀o,h1.get? a=ζ o->h2.get? a=ζ o)->φ h2
def gY(H:Hp)(h:Υ):Prop:=∀a o,H a=ζ o->bU P w H h a o
end
section
variable {P:Ε}{w:Ξ}{H H':Hp}{h h':Υ}{a:ι}{o:HO}
theorem bU.lt(x:bU P w H h a o):a<h.objs.size:=by
 cases o with
 |lst xs=>obtain⟨_,_,_,_,e⟩:=x;exact ρ e
 |tup xs=>obtain⟨_,_,_,p⟩:=x;exact p.lt
 |dK kvs=>obtain⟨_,_,_,_,o,_,_,e,_⟩:=x;exact ρ e
 |dT kvs=>obtain⟨_,_,_,_,o,_,_,e,_⟩:=x;exact ρ e
 |set S n=>obtain⟨o,_,_,_,e,_⟩:=x;exact ρ e
 |ins C dx fs=>obtain⟨_,_,_,e,_⟩:=x;exact ρ e
 |own y=>obtain⟨_,e⟩:=x;exact ρ e
 |xd fs=>obtain⟨_,⟨_,_,_,e,_⟩,_⟩:=x;exact ρ e
 |OS lo hi=>obtain⟨_,_,_,e⟩:=x;exact ρ e
 |JA ob u=>obtain⟨e,_⟩:=x;exact ρ e
 |LL ps=>exact ρ (show h.get? a=ζ _ from x)
 |met f y=>exact ρ (show h.get? a=ζ _ from x)
 |ext φ=>obtain⟨_,⟨_,e⟩,_⟩:=x;exact ρ e
theorem Paired.Mb{α β:Type}{F G:α->β->Prop}:∀{l₁:List α}{l₂:List β},X9 F l₁ l₂->(∀a b,F a b->G a b)->X9 G l₁ l₂
 |_,_,.nil,_=>.nil
 |_,_,.cons r t,f=>.cons (f _ _ r) (Paired.Mb t f)
theorem bU.Iy(x:bU P w H h a o)(k:∀b u,(b=a\/H b=ζ (.own a))->h.get? b=ζ u->h'.get? b=ζ u)
  (ho:∀b,H b=ζ (.own a)->H' b=ζ (.own a)) (ht:∀b xs,H b=ζ (.tup xs)->H' b=ζ (.tup xs)):bU P w H' h' a o:=by
 induction o with
 |lst xs=>obtain⟨z,its,n,r,e⟩:=x;exact⟨z,its,n,r,k _ _ (.inl rfl) e⟩
 |tup xs=>obtain⟨z,its,r,ob,e,c⟩:=x;exact⟨z,its,r,ob,k _ _ (.inl rfl) e,c⟩
 |dK kvs=>obtain⟨z,y,vs,r,ob,es,ep,e,c⟩:=x;exact⟨z,y,vs,r,ob,es,ep,k _ _ (.inl rfl) e,c⟩
 |dT kvs=>
  obtain⟨z,y,xs,r,ob,es,ep,e,c⟩:=x;exact⟨z,y,xs,Paired.Mb r λp q z=>⟨z.1,ht _ _ z.2.1,z.2.2⟩,ob,es,ep,k _ _ (.inl rfl) e,c⟩
 |set S n=>obtain⟨ob,es,ep,t,e,c⟩:=x;exact⟨ob,es,ep,t,k _ _ (.inl rfl) e,c⟩
 |ins C dx fs=>
  obtain⟨d,z,ne,e,mA,⟨od,es,ep,e2,c⟩,r⟩:=x;exact⟨ho _ d,z,ne,k _ _ (.inl rfl) e,mA,⟨od,es,ep,k _ _ (.inr d) e2,c⟩,r⟩
 |own y=>obtain⟨ob,e⟩:=x;exact⟨ob,k _ _ (.inl rfl) e⟩
 |xd fs=>obtain⟨mA,⟨od,es,ep,e,c⟩,r⟩:=x;exact⟨mA,⟨od,es,ep,k _ _ (.inl rfl) e,c⟩,r⟩
 |OS lo hi=>obtain⟨t,u,v,e⟩:=x;exact⟨t,u,v,k _ _ (.inl rfl) e⟩
 |JA ob u ih=>obtain⟨e,q⟩:=x;exact⟨k _ _ (.inl rfl) e,ih q⟩
 |LL ps=>
  have e:h.get? a=ζ {cls:=.none,data:=.fields ps}:=x;show h'.get? a=ζ {cls:=.none,data:=.fields ps};exact k a _ (.inl rfl) e
 |met f y=>
  have e:h.get? a=ζ (XZ (.ref f) (.ref y)):=x;show h'.get? a=ζ (XZ (.ref f) (.ref y));exact k a _ (.inl rfl) e
 |ext φ=>obtain⟨p,⟨o,e⟩,st⟩:=x;exact⟨st _ _ p λo q=>k _ _ (.inl rfl) q,⟨o,k _ _ (.inl rfl) e⟩,st⟩
theorem gY.lt(x:gY P w H h)(e:H a=ζ o):a<h.objs.size:=(x a o e).lt
theorem gY.fresh(x:gY P w H h)(e:h.objs.size<=a):H a=ε:=by
 cases q:H a with
 |none=>rfl
 |some u=>exact absurd (ax (x.lt q) e) (c8 _)
theorem gY.kept(x:gY P w H h)(k:∀b u,h.get? b=ζ u->h'.get? b=ζ u):gY P w H h':=λa o e=>
 (x a o e).Iy (λb u _ q=>k b u q) (λ_ q=>q) λ_ _ q=>q
theorem gY.laid(x:gY P w H h)(k:∀b u,h.get? b=ζ u->h'.get? b=ζ u)(hp:h.objs.size<=a)(new:bU P w (upd H a o) h' a o):gY P w (upd H a o) h':=λb u e=>by
 have hn:=x.fresh hp;by_cases hb:b=a
 .subst hb;rw[aK]at e;cases e;exact new
 .rw[aE hb]at e;exact(x b u e).Iy (λc v _ q=>k c v q) (λc q=>by rw[aE (bO q hn)];exact q) λc xs q=>by rw[aE (bO q hn)];exact q
end
def Rd(H:Hp)(a:ι)(u:HO):Prop:=H a=ζ u\/∃o,H a=ζ (.JA o u)
theorem Rd.ok{P:Ε}{w:Ξ}{h:Υ}(r:Rd H a u)(x:gY P w H h):bU P w H h a u:=by
 rcases r with r|⟨o,r⟩
 .exact x a u r
 .obtain⟨_,q⟩:=x a _ r;exact q
noncomputable def qW:Option HO->Prop
 |some (.lst _)=>True
 |some (.dK _)=>True
 |some (.dT _)=>True
 |some (.set _ _)=>True
 |some (.ins _ _ _)=>True
 |some (.ext _)=>True
 |_=>False
section
variable {P:Ε}{w:Ξ}{H:Hp}{h h':Υ}{x e:ι}{o':HO}
theorem gY.write(ok:gY P w H h)(mu:qW (H x))(he:e=x\/H e=ζ (.own x))(k:∀b u,b≠e->h.get? b=ζ u->h'.get? b=ζ u)(M6:∃u,h'.get? e=ζ u)
  (new:bU P w (upd H x o') h' x o'):gY P w (upd H x o') h':=λb u q=>by
 have Nr:∀c y,H c=ζ (.own y)->c≠x:=λc y r z=>by subst z;rw[r]at mu;exact mu
 have Qx:∀c xs,H c=ζ (.tup xs)->c≠x:=λc xs r z=>by subst z;rw[r]at mu;exact mu
 by_cases hb:b=x
 .subst hb;rw[aK]at q;cases q;exact new
 .rw[aE hb]at q;by_cases Lh:b=e
  .have q':H b=ζ (.own x):=by
    rcases he with z|z
    .exact absurd (Lh.trans z) hb
    .rw[Lh];exact z
   rw[q]at q';cases q';obtain⟨v,hv⟩:=M6;exact⟨v,by rw[Lh];exact hv⟩
  .refine (ok b u q).Iy (λc v hc r=>k c v ?_ r) (λc r=>by rw[aE (Nr c b r)];exact r) λc xs r=>by rw[aE (Qx c xs r)];exact r
   rcases hc with rfl|hc
   .exact Lh
   .rintro rfl;rcases he with z|z
    .exact Nr c b hc z
    .rw[hc]at z;cases z;exact hb rfl
end
structure Un(fs ex:List ι)(H H':Hp)(h h':Υ):Prop where
 keep:∀b o,h.get? b=ζ o->H b=ε->b∉fs->b∉ex->h'.get? b=ζ o
 slot:∀b o,h.get? b=ζ o->H b=ε->b∈fs->b∉ex->∃sl,h'.get? b=ζ {o with slots:=sl}
 free:∀b o,h.get? b=ζ o->H b=ε->b∉ex->H' b=ε
 there:∀b o,h.get? b=ζ o->b∉ex->∃o',h'.get? b=ζ o'
 IZ:∀b xs,H b=ζ (.tup xs)->H' b=ζ (.tup xs)
 IV:∀b o u,H b=ζ (.JA o u)->H' b=ζ (.JA o u)
 Ja:∀b ps,H b=ζ (.LL ps)->∃more,H' b=ζ (.LL (ps++more))
section
variable {fs fs' ex ex':List ι}{H H1 H2:Hp}{h h1 h2 h':Υ}{a x e:ι}{o:HO}
theorem Un.any(u:Un fs ex H H1 h h1){ob:na}(q:h.get? b=ζ ob)(n:H b=ε)(hx:b∉ex):∃sl,h1.get? b=ζ {ob with slots:=sl}:=by
 by_cases hb:b∈fs
 .exact u.slot b ob q n hb hx
 .exact⟨ob.slots,u.keep b ob q n hb hx⟩
theorem Un.kept(k:∀b u,h.get? b=ζ u->h'.get? b=ζ u):Un fs ex H H h h' :=
 ⟨λb ob q _ _ _=>k b ob q,λb ob q _ _ _=>⟨ob.slots,k b ob q⟩,λ_ _ _ n _=>n,λb ob q _=>⟨ob,k b ob q⟩,λ_ _ q=>q,λ_ _ _ q=>q,λ_ ps q=>⟨#[],by rw[q];simp⟩⟩
theorem Un.refl:Un fs ex H H h h:=Un.kept λ_ _ q=>q
theorem Un.laid(k:∀b u,h.get? b=ζ u->h'.get? b=ζ u)(hp:h.objs.size<=a)(hn:H a=ε):Un fs ex H (upd H a o) h h' where
 keep:=λb u q _ _ _=>k b u q
 slot:=λb u q _ _ _=>⟨u.slots,k b u q⟩
 free:=λb u q n _=>by rw[aE (az (ax (ρ q) hp))];exact n
 there:=λb u q _=>⟨u,k b u q⟩
 IZ:=λb xs q=>by rw[aE (bO q hn)];exact q
 IV:=λb u xs q=>by rw[aE (bO q hn)];exact q
 Ja:=λb ps q=>⟨#[],by rw[aE (bO q hn),q];simp⟩
theorem Un.write(mu:qW (H x))(he:e=x\/H e=ζ (.own x))(k:∀b u,b≠e->h.get? b=ζ u->h'.get? b=ζ u)(M6:∃u,h'.get? e=ζ u):Un fs ex H (upd H x o) h h':=by
 have hx:∀b,H b=ε->b≠x:=λb n z=>by subst z;rw[n]at mu;exact mu
 have hb:∀b,H b=ε->b≠e:=λb n z=>by
  subst z;rcases he with r|r
  .exact hx b n r
  .rw[n]at r;cases r
 have hm:∀b u,H b=ζ u->¬ qW (ζ u)->b≠x:=λb u q nm z=>by subst z;rw[q]at mu;exact nm mu
 refine⟨λb u q n _ _=>k b u (hb b n) q,λb u q n _ _=>⟨u.slots,k b u (hb b n) q⟩,λb u q n _=>by rw[aE (hx b n)];exact n,λb u q _=>?_,
  λb xs q=>by rw[aE (hm b _ q λz=>z)];exact q,λb u xs q=>by rw[aE (hm b _ q λz=>z)];exact q,λb ps q=>⟨#[],by rw[aE (hm b _ q λz=>z),q];simp⟩⟩
 by_cases Lh:b=e
 .subst Lh;exact M6
 .exact⟨u,k b u Lh q⟩
end
noncomputable def OL(h:Υ)(H:Hp):List ι:=(bv h.objs.size).filter λa=>(H a).isSome
noncomputable def pF(h:Υ)(H:Hp):Υ:=KF h (OL h H)
theorem vj(h:Υ)(H:Hp):(pF h H).objs.size=h.objs.size:=PySem.W.hideAll_size _ _
theorem yG{h:Υ}{o:na}(e:h.get? b=ζ o)(n:H b=ε):(pF h H).get? b=ζ o:=
 gh _ e λhm=>by
  have q:(H b).isSome=δ:=(Xg.mp hm).2;rw[n]at q;simp at q
theorem Av{h:Υ}{o:na}(e:(pF h H).get? b=ζ o):h.get? b=ζ o/\H b=ε:=by
 have e':h.get? b=ζ o:=h8 (OL h H) e;refine⟨e',?_⟩;cases q:H b with
 |none=>rfl
 |some x=>
  have hm:b∈OL h H:=Xg.mpr ⟨Tk.mpr (ρ e'),by simp[q]⟩;have z:(pF h H).get? b=ε:=PySem.W.hideAll_none (OL h H) hm;rw[z]at e;cases e
end L2
namespace L2
open PySem PySem.Spec PyProof.Rows
structure Mod(K:ψ)(mg:Str->Option η)(base:Υ):Prop where
 Ik:K.In base
 glob:base.Ns bn mg
 blt:∃mb,base.Ns Zc mb/\∀x:Str,x≠"__name__"->mb x=Op x
 nolimit:base.NoLimit
structure Cx where
 prog:Ε
 w:Ξ
 K:ψ
 mg:Str->Option η
 base:Υ
 A:Ρ
 N:List Str
 s₀:θ
 H₀:Hp
 env:Yo
 outer:List Yo
 stack:List Yo
 ex:List ι
 fn:Str->Bool
 calm:Bool
 pn:List (ι×na)
 xe:η->θ->Prop
noncomputable def cK(l:List Yo):List ι:=l.filterMap (·.frame)
noncomputable abbrev Cx.fs(X:Cx):List ι:=cK X.outer
def zU(sc:Db)(x:Str):Prop:=sc.names.lookup x=ζ .local\/sc.names.lookup x=ζ .cell\/sc.names.lookup x=ζ .free
def Loc(sc:Db)(x:Str):Prop:=sc.names.lookup x=ζ .local\/sc.names.lookup x=ζ .cell
noncomputable def Look(env:Yo)(h:Υ)(m:Str->Option η)(x:Str)(u:η):Prop:=
 (env.kindOf x=ζ .local/\m x=ζ u)\/((env.kindOf x=ζ .cell\/env.kindOf x=ζ .free)/\∃c,env.cells.lookup x=ζ c/\h.IsCell c (ζ u))
structure Cx.Ok(X:Cx):Prop where
 mod:Mod X.K X.mg X.base
 kind:X.env.scope.kind=.function
 glob:X.env.globals=bn
 blt:X.env.builtins=Zc
 above:X.s₀.heap.objs.size<=X.env.locals
 inj:∀x y c,X.env.cells.lookup x=ζ c->X.env.cells.lookup y=ζ c->x=y
 has:∀x,(X.env.kindOf x=ζ .cell\/X.env.kindOf x=ζ .free)->∃c,X.env.cells.lookup x=ζ c
 KJ:∀x c,X.fn x=δ->X.env.cells.lookup x=ζ c->X.s₀.heap.objs.size<=c
 hd:X.calm=δ->X.A.handled=ε
 frames:X.A.frames=ζ X.stack
 Ll:X.stack=X.outer\/(X.stack=X.env::X.outer/\X.env.frame=ζ X.env.locals)
 LX:∀b∈X.ex,b≠X.env.locals/\∀x c,X.env.cells.lookup x=ζ c->c≠b
 bs:∀b o,X.base.get? b=ζ o->X.s₀.heap.get? b=ζ o/\X.H₀ b=ε
 Ks:X.base.objs.size<=X.s₀.heap.objs.size
 Jr:∀b o,X.base.get? b=ζ o->b∉X.ex
 Jv:∀b∈X.ex,b∉X.fs
 IH:X.s₀.heap.FunFrames X.base X.outer
 KI:∀b∈X.fs,X.H₀ b=ε
structure Inv(X:Cx)(pins:List (ι×na))(σ:List (Option V))(H:Hp)(s:θ):Prop where
 ok:X.Ok
 os:s.os=X.s₀.os
 bare:WY s.gens
 base:Un X.fs X.ex X.H₀ H X.s₀.heap s.heap
 loc:∃m,s.heap.Ns X.env.locals m/\∀(i:Nat) (x:Str) (v:V),X.N[i]? = ζ x->σ[i]? = ζ (ζ v)->zU X.env.scope x->∃u,RelV v u/\Look X.env s.heap m x u
 cell:∀x c,X.env.cells.lookup x=ζ c->∃v,s.heap.IsCell c v
 free:H X.env.locals=ε
 Il:∀x c,X.env.cells.lookup x=ζ c->H c=ε
 pin:∀p∈X.pn++pins,s.heap.get? p.1=ζ p.2/\H p.1=ε/\p.1≠X.env.locals/\p.1∉X.fs/\∀v,p.2.data≠.cell v
 Ib:gY X.prog X.w H s.heap
 len:σ.length=X.N.length
variable {A:Ρ}{M:ZM}{i t':Nat}{u:η}{x:Str}
section
variable {X:Cx}{pins:List (ι×na)}{σ:List (Option V)}{H H':Hp}{s:θ}{h':Υ}
theorem Cx.Ok.Iv(ok:X.Ok){b:ι}{o:na}(e:X.base.get? b=ζ o):b∉X.fs:=λhb=>by
 have:=(ok.IH.mem hb).1;rw[e]at this;cases this
theorem Inv.bs(I:Inv X pins σ H s):∀b o,X.base.get? b=ζ o->s.heap.get? b=ζ o/\H b=ε:=λb o e=>
 ⟨I.base.keep b o (I.ok.bs b o e).1 (I.ok.bs b o e).2 (I.ok.Iv e) (I.ok.Jr b o e),I.base.free b o (I.ok.bs b o e).1 (I.ok.bs b o e).2 (I.ok.Jr b o e)⟩
theorem Inv.bk(I:Inv X pins σ H s):∀b o,X.base.get? b=ζ o->s.heap.get? b=ζ o:=λb o e=>(I.bs b o e).1
theorem Inv.mod(I:Inv X pins σ H s):Mod X.K X.mg X.base:=I.ok.mod
theorem Inv.Jd(I:Inv X pins σ H s):X.K.In s.heap:=I.ok.mod.Ik.keeps I.bk
theorem Inv.lt(I:Inv X pins σ H s):X.env.locals<s.heap.objs.size:=let ⟨_,hn,_⟩:=I.loc;hn.lt
theorem Inv.sz(I:Inv X pins σ H s):X.s₀.heap.objs.size<=s.heap.objs.size:=a8 I.ok.above (gx I.lt)
theorem Inv.Nt(I:Inv X pins σ H s){a:ι}(h:s.heap.objs.size<=a):a∉X.fs:=λhb=>by
 obtain⟨_,o,ho,_⟩:=I.ok.IH.mem hb;exact absurd (ax (ρ ho) (a8 I.sz h)) (c8 _)
theorem Inv.K6(I:Inv X pins σ H s):∀x c,X.env.cells.lookup x=ζ c->c≠X.env.locals:=λx c e z=>by
 obtain⟨v,o,ho,hd⟩:=I.cell x c e;obtain⟨m,⟨o',es,ep,Lv,Mx,_⟩,_⟩:=I.loc;rw[z,Lv]at ho;cases ho;rw[Mx]at hd;cases hd
theorem Inv.IH(I:Inv X pins σ H s):s.heap.FunFrames X.base X.outer:=by
 have all:∀(l:List Yo),(∀b∈cK l,b∈X.fs)->X.s₀.heap.FunFrames X.base l->s.heap.FunFrames X.base l:=by
  intro l
  induction l with
  |nil=>intro _ _;trivial
  |cons env r ih=>
   intro hs hl;obtain⟨hk,⟨L,o,hf,hn,ho,hd⟩,hr⟩:=hl;have hL:L∈X.fs:=hs L (by unfold cK;rw[gm,hf];exact ah);obtain⟨sl,e⟩:=I.base.slot L o ho (I.ok.KI L hL) hL λz=>I.ok.Jv L z hL
   exact⟨hk,⟨L,_,hf,hn,e,hd⟩,ih (λb hb=>hs b (by unfold cK;rw[gm,hf];exact ae _ hb)) hr⟩
 exact all X.outer (λ_ hb=>hb) I.ok.IH
theorem Inv.stack(I:Inv X pins σ H s):s.heap.FunFrames X.base X.stack:=by
 rcases I.ok.Ll with e|⟨e,hf⟩
 .rw[e];exact I.IH
 .rw[e];obtain⟨m,hn,_⟩:=I.loc;refine .cons (by rw[I.ok.kind];decide) hf hn ?_ I.IH;exact Xe (a8 I.ok.Ks I.ok.above)
theorem Inv.Ka(I:Inv X pins σ H s):∀b∈cK X.stack,b∈X.env.locals::X.fs:=λb hb=>by
 rcases I.ok.Ll with e|⟨e,hf⟩
 .rw[e]at hb;exact ae _ hb
 .rw[e]at hb;unfold cK at hb;rw[gm,hf]at hb;exact hb
theorem Inv.IQ(I:Inv X pins σ H s):∀b∈cK X.stack,H b=ε:=λb hb=>by
 rcases c9.mp (I.Ka b hb)with e|hb
 .rw[e];exact I.free
 .obtain⟨_,o,ho,_⟩:=I.ok.IH.mem hb;exact I.base.free b o ho (I.ok.KI b hb) λz=>I.ok.Jv b z hb
theorem Inv.step{g':Array Xn}{d':Y0}{ch:List ι}(I:Inv X pins σ H s)
  (Lf:∀b∈ch,(b∈X.ex\/X.s₀.heap.objs.size<=b)/\b≠X.env.locals/\(∀x c,X.env.cells.lookup x=ζ c->c≠b)/\∀p∈X.pn++pins,p.1≠b)
  (keep:∀b o,b≠X.env.locals->b∉X.fs->b∉ch->s.heap.get? b=ζ o->H b=ε->h'.get? b=ζ o)
  (slot:∀b o,b≠X.env.locals->b∈X.fs->b∉ch->s.heap.get? b=ζ o->H b=ε->∃sl,h'.get? b=ζ {o with slots:=sl}) (free:∀b o,b∉ch->s.heap.get? b=ζ o->H b=ε->H' b=ε)
  (there:∀b o,b∉ch->s.heap.get? b=ζ o->∃o',h'.get? b=ζ o')
  (IZ:∀b xs,H b=ζ (.tup xs)->H' b=ζ (.tup xs)) (IV:∀b o u,H b=ζ (.JA o u)->H' b=ζ (.JA o u)) (Ja:∀b ps,H b=ζ (.LL ps)->∃more,H' b=ζ (.LL (ps++more)))
  (ns:∀m,s.heap.Ns X.env.locals m->h'.Ns X.env.locals m) (Ib:gY X.prog X.w H' h') (hg:WY g') :
  Inv X pins σ H' {s with heap:=h',gens:=g',drawn:=d',toks:=t' }:=by
 have VJ:∀b o,X.s₀.heap.get? b=ζ o->b≠X.env.locals:=λb o e=>az (ax (ρ e) I.ok.above)
 have Ny:∀b o,X.s₀.heap.get? b=ζ o->b∉X.ex->b∉ch:=λb o e hx hb=>by
  rcases(Lf b hb).1 with z|z
  .exact hx z
  .exact absurd (ax (ρ e) z) (c8 _)
 have cellK:∀x c,X.env.cells.lookup x=ζ c->∀v,s.heap.IsCell c v->h'.IsCell c v:=λx c e v ⟨o,ho,hd⟩=>by
  have Nz:c∉ch:=λz=>(Lf c z).2.2.1 x c e rfl
  by_cases hc:c∈X.fs
  .obtain⟨sl,q⟩:=slot c o (I.K6 x c e) hc Nz ho (I.Il x c e);exact⟨_,q,hd⟩
  .exact⟨o,keep c o (I.K6 x c e) hc Nz ho (I.Il x c e),hd⟩
 refine⟨I.ok,I.os,hg,⟨λb o e n hb hx=>?_,λb o e n hb hx=>?_,λb o e n hx=>?_,λb o e hx=>?_,λb xs e=>IZ b xs (I.base.IZ b xs e),λb o xs e=>IV b o xs (I.base.IV b o xs e),λb ps e=>?_⟩,?_,λx c e=>?_,?_,λx c e=>?_,λp hp=>?_,Ib,I.len⟩
 .exact keep b o (VJ b o e) hb (Ny b o e hx) (I.base.keep b o e n hb hx) (I.base.free b o e n hx)
 .obtain⟨sl,e1⟩:=I.base.slot b o e n hb hx;obtain⟨La,e2⟩:=slot b _ (VJ b o e) hb (Ny b o e hx) e1 (I.base.free b o e n hx);exact⟨La,e2⟩
 .obtain⟨o',e1⟩:=I.base.there b o e hx;exact free b o' (Ny b o e hx) e1 (I.base.free b o e n hx)
 .obtain⟨o',e1⟩:=I.base.there b o e hx;exact there b o' (Ny b o e hx) e1
 .obtain⟨m1,e1⟩:=I.base.Ja b ps e;obtain⟨m2,e2⟩:=Ja b _ e1;exact⟨m1++m2,by rw[e2,Array.append_assoc]⟩
 .obtain⟨m,hn,hl⟩:=I.loc;refine⟨m,ns m hn,λi x v e1 e2 e3=>?_⟩;obtain⟨u,r,l⟩:=hl i x v e1 e2 e3;refine⟨u,r,?_⟩;rcases l with l|⟨k,c,e,z⟩
  .exact .inl l
  .exact .inr ⟨k,c,e,cellK x c e _ z⟩
 .obtain⟨v,z⟩:=I.cell x c e;exact⟨v,cellK x c e v z⟩
 .obtain⟨m,⟨o,_,_,ho,_⟩,_⟩:=I.loc;exact free _ o (λz=>(Lf _ z).2.1 rfl) ho I.free
 .obtain⟨v,o,ho,hd⟩:=I.cell x c e;exact free c o (λz=>(Lf c z).2.2.1 x c e rfl) ho (I.Il x c e)
 .obtain⟨e,n,ne,nf,d⟩:=I.pin p hp;have Nz:p.1∉ch:=λz=>(Lf p.1 z).2.2.2 p hp rfl
  exact⟨keep p.1 p.2 ne nf Nz e n,free p.1 p.2 Nz e n,ne,nf,d⟩
theorem Inv.un{t':Nat}(I:Inv X pins σ H s)(u:Un X.fs [] H H' s.heap h')(Ib:gY X.prog X.w H' h'):Inv X pins σ H' {s with heap:=h',toks:=t' }:=by
 obtain⟨m,⟨o,es,ep,ho,r⟩,_⟩:=id I.loc;obtain⟨sl,hL⟩:=u.any ho I.free (by simp);exact I.step (g':=s.gens) (d':=s.drawn) (ch:=[]) (λ_ z=>nomatch z) (λb o _ hb _ e n=>u.keep b o e n hb (by simp)) (λb o _ hb _ e n=>u.slot b o e n hb (by simp)) (λb o _ e n=>u.free b o e n (by simp)) (λb o _ e=>u.there b o e (by simp)) u.IZ u.IV u.Ja (λm' hm=>by
  obtain⟨o',OA,Pt,Lv,r'⟩:=hm;rw[ho]at Lv;cases Lv;exact⟨_,OA,Pt,hL,r'⟩) Ib I.bare
theorem Inv.call{g':Array Xn}{t':Nat}{d':Y0}{ch:List ι}(I:Inv X pins σ H s)(u:Un (cK X.stack) ch H H' s.heap h')(Ib:gY X.prog X.w H' h')(hg:WY g')
  (Lf:∀b∈ch,(b∈X.ex\/X.s₀.heap.objs.size<=b)/\b≠X.env.locals/\(∀x c,X.env.cells.lookup x=ζ c->c≠b)/\∀p∈X.pn++pins,p.1≠b) :
  Inv X pins σ H' {s with heap:=h',gens:=g',drawn:=d',toks:=t' }:=by
 obtain⟨m,⟨o,es,ep,ho,r⟩,_⟩:=id I.loc;obtain⟨sl,hL⟩:=u.any ho I.free λz=>(Lf _ z).2.1 rfl
 exact I.step (ch:=ch) Lf (λb o hL hb hc e n=>u.keep b o e n (λz=>(c9.mp (I.Ka b z)).elim hL hb) hc) (λb o _ _ hc e n=>u.any e n hc) (λb o hc e n=>u.free b o e n hc) (λb o hc e=>u.there b o e hc) u.IZ u.IV u.Ja (λm' hm=>by
  obtain⟨o',OA,Pt,Lv,r'⟩:=hm;rw[ho]at Lv;cases Lv;exact⟨_,OA,Pt,hL,r'⟩) Ib hg
theorem Inv.turned{t':Nat}{it:ι}(I:Inv X pins σ H s)(k:∀b o,b≠it->s.heap.get? b=ζ o->h'.get? b=ζ o)(hn:H it=ε)(hL:it≠X.env.locals)
  (h1:it∈X.ex\/X.s₀.heap.objs.size<=it) (h2:∀x c,X.env.cells.lookup x=ζ c->c≠it) (h3:∀p∈X.pn++pins,p.1≠it):Inv X pins σ H {s with heap:=h',toks:=t' }:=by
 have Nv:∀b u,H b=ζ u->b≠it:=λb u e z=>by rw[z,hn]at e;cases e
 refine I.step (g':=s.gens) (d':=s.drawn) (ch:=[it]) (λb hb=>?_) (λb o _ _ hc e _=>k b o (λz=>hc (by simp[z])) e) (λb o _ _ hc e _=>⟨o.slots,k b o (λz=>hc (by simp[z])) e⟩) (λ_ _ _ _ n=>n)
  (λb o hc e=>⟨o,k b o (λz=>hc (by simp[z])) e⟩) (λ_ _ e=>e) (λ_ _ _ e=>e) (λb ps e=>⟨#[],by rw[e];simp⟩) (λm hm=>?_) (λb u e=>?_) I.bare
 .have e:b=it:=by simpa using hb
  subst e;exact⟨h1,hL,h2,h3⟩
 .obtain⟨o,es,ep,ho,r⟩:=hm;exact⟨o,es,ep,k _ o (cj hL) ho,r⟩
 .refine (I.Ib b u e).Iy (λc v hc q=>k c v ?_ q) (λ_ q=>q) λ_ _ q=>q
  rcases hc with z|z
  .rw[z];exact Nv b u e
  .exact Nv c _ z
theorem Inv.tok(I:Inv X pins σ H s)(t:Nat):Inv X pins σ H {s with toks:=t}:=I.un (h':=s.heap) (t':=t) Un.refl I.Ib
theorem Inv.kept{t':Nat}(I:Inv X pins σ H s)(k:∀b u,s.heap.get? b=ζ u->h'.get? b=ζ u):Inv X pins σ H {s with heap:=h',toks:=t' }:=I.un (Un.kept k) (I.Ib.kept k)
theorem Inv.laid{a:ι}{o:HO}{t':Nat}(I:Inv X pins σ H s)(k:∀b u,s.heap.get? b=ζ u->h'.get? b=ζ u)(hp:s.heap.objs.size<=a)(new:bU X.prog X.w (upd H a o) h' a o) :
  Inv X pins σ (upd H a o) {s with heap:=h',toks:=t' }:=I.un (Un.laid k hp (I.Ib.fresh hp)) (I.Ib.laid k hp new)
theorem Inv.write{x e:ι}{o:HO}(I:Inv X pins σ H s)(mu:qW (H x))(he:e=x\/H e=ζ (.own x))(k:∀b u,b≠e->s.heap.get? b=ζ u->h'.get? b=ζ u)(M6:∃u,h'.get? e=ζ u)
  (new:bU X.prog X.w (upd H x o) h' x o):Inv X pins σ (upd H x o) {s with heap:=h',toks:=t' }:=I.un (Un.write mu he k M6) (I.Ib.write mu he k M6 new)
theorem Inv.weak{σ':List (Option V)}(I:Inv X pins σ H s)(hl:σ'.length=σ.length)(w:∀(i:Nat) v,σ'[i]? = ζ (ζ v)->σ[i]? = ζ (ζ v)):Inv X pins σ' H s:=
 ⟨I.ok,I.os,I.bare,I.base,let ⟨m,hn,LB⟩:=I.loc;⟨m,hn,λi x v e1 e2 e3=>LB i x v e1 (w i v e2) e3⟩,I.cell,I.free,I.Il,I.pin,I.Ib,hl.trans I.len⟩
theorem Inv.Kk{LO:List (ι×na)}(I:Inv X pins σ H s)(h:∀p∈LO,s.heap.get? p.1=ζ p.2/\H p.1=ε/\p.1≠X.env.locals/\p.1∉X.fs/\∀v,p.2.data≠.cell v):Inv X LO σ H s:=
 ⟨I.ok,I.os,I.bare,I.base,I.loc,I.cell,I.free,I.Il,λp hp=>(i9.mp hp).elim (λz=>I.pin p (au _ z)) (h p),I.Ib,I.len⟩
theorem kL{N:List Str}(hN:N.Nodup){j:Nat}(a:N[i]? = ζ x)(b:N[j]? = ζ x):i=j:=by
 obtain⟨h1,e1⟩:=χ.mp a;obtain⟨h2,e2⟩:=χ.mp b;exact(List.getElem_inj hN).mp (e1.trans e2.symm)
theorem u9{E:η->θ->Prop}{v:V}{Q:Unit->θ->Prop}(I:Inv X pins σ H s)(hN:X.N.Nodup)(hi:X.N[i]? = ζ x)(hx:Loc X.env.scope x)(r:RelV v u)
  (h:∀s',Inv X pins (σ.set i (ζ v)) H s'->(∃a,Yh a s.heap s'.heap/\(a=X.env.locals\/X.env.cells.lookup x=ζ a))->Q () s') (hf:X.fn x=δ\/X.env.scope.names.lookup x=ζ .local:=by first|exact .inl rfl|exact .inr rfl|assumption):υ M A (ē X.env x u) Q E s:=by
 obtain⟨m,hn,hl⟩:=id I.loc;have K2:(X.env.scope.kind == .class || (X.env.scope.kind == .module&&X.env.locals != X.env.globals))=γ:=by rw[I.ok.kind];rfl
 have Pl:i<σ.length:=by rw[I.len];exact(χ.mp hi).1
 have K6:=I.K6;have tracked:∀{a:ι}{h':Υ},(∃o,s.heap.get? a=ζ o/\H a=ε)->Yh a s.heap h'->gY X.prog X.w H h':=λ{a h'} ha hs b ob e=>by
  obtain⟨_,_,Iz⟩:=ha;refine(I.Ib b ob e).Iy (λc w' hc q=>(hs.2 c ?_).trans q) (λ_ q=>q) λ_ _ q=>q
  rintro rfl;rcases hc with rfl|hc
  .rw[Iz]at e;cases e
  .rw[Iz]at hc;cases hc
 rcases hx with hk|hk
 .refine wpAny_storeName_local hk hn (λh' Kz hs=>?_) K2;obtain⟨oL,_,_,Rl,_⟩:=id hn;refine h _ ⟨I.ok,I.os,I.bare,⟨λb o e n hb hx=>?_,λb o e n hb hx=>?_,I.base.free,λb o e hx=>?_,I.base.IZ,I.base.IV,I.base.Ja⟩,⟨_,Kz,λj y v' e1 e2 e3=>?_⟩,λy c e=>?_,I.free,I.Il,λp hp=>?_,tracked ⟨oL,Rl,I.free⟩ hs,by simpa using I.len⟩ ⟨_,hs,.inl rfl⟩
  .exact (hs.2 b (az (ax (ρ e) I.ok.above))).trans (I.base.keep b o e n hb hx)
  .obtain⟨sl,e1⟩:=I.base.slot b o e n hb hx;exact⟨sl,(hs.2 b (az (ax (ρ e) I.ok.above))).trans e1⟩
  .obtain⟨o',e1⟩:=I.base.there b o e hx;exact⟨o',(hs.2 b (az (ax (ρ e) I.ok.above))).trans e1⟩
  .by_cases hj:j=i
   .subst hj;rw[hi]at e1;cases e1;rw[Β Pl]at e2;cases e2;exact⟨u,r,.inl ⟨hk,by simp⟩⟩
   .rw[Θ (cj hj)]at e2;obtain⟨u',r',q⟩:=hl j y v' e1 e2 e3;refine⟨u',r',?_⟩;rcases q with⟨k,e⟩|⟨k,c,e,z⟩
    .refine .inl ⟨k,?_⟩;have:y≠x:=λe=>hj (kL hN e1 (e ▸ hi))
     simp[this,e]
    .exact .inr ⟨k,c,e,z.sameBut hs (K6 y c e)⟩
  .obtain⟨w',z⟩:=I.cell y c e;exact⟨w',z.sameBut hs (K6 y c e)⟩
  .obtain⟨e,n,ne,nf,d⟩:=I.pin p hp;exact⟨(hs.2 p.1 ne).trans e,n,ne,nf,d⟩
 .have RC:X.fn x=δ:=by
   rcases hf with z|z
   .exact z
   .rw[z]at hk;cases hk
  obtain⟨c,hc⟩:=I.ok.has x (.inl hk);obtain⟨w',z⟩:=I.cell x c hc;refine wpAny_storeName_cell I.ok.kind hk hc z (λh' J8 hs=>?_);obtain⟨oc,Wc,Rk⟩:=id z;refine h {s with heap:=h' } ⟨I.ok,I.os,I.bare,⟨λb o e n hb hx=>?_,λb o e n hb hx=>?_,I.base.free,λb o e hx=>?_,I.base.IZ,I.base.IV,I.base.Ja⟩,⟨m,hn.sameBut hs (cj (K6 x c hc)),λj y v' e1 e2 e3=>?_⟩,λy c' e=>?_,I.free,I.Il,λp hp=>?_,tracked ⟨oc,Wc,I.Il x c hc⟩ hs,by simpa using I.len⟩ ⟨c,hs,.inr hc⟩
  .exact (hs.2 b (az (ax (ρ e) (I.ok.KJ x c RC hc)))).trans (I.base.keep b o e n hb hx)
  .obtain⟨sl,e1⟩:=I.base.slot b o e n hb hx;exact⟨sl,(hs.2 b (az (ax (ρ e) (I.ok.KJ x c RC hc)))).trans e1⟩
  .obtain⟨o',e1⟩:=I.base.there b o e hx;exact⟨o',(hs.2 b (az (ax (ρ e) (I.ok.KJ x c RC hc)))).trans e1⟩
  .by_cases hj:j=i
   .subst hj;rw[hi]at e1;cases e1;rw[Β Pl]at e2;cases e2;exact⟨u,r,.inr ⟨.inl hk,c,hc,J8⟩⟩
   .rw[Θ (cj hj)]at e2;obtain⟨u',r',q⟩:=hl j y v' e1 e2 e3;refine⟨u',r',?_⟩;rcases q with q|⟨k,c',e,z'⟩
    .exact .inl q
    .refine .inr ⟨k,c',e,z'.sameBut hs ?_⟩;rintro rfl;exact hj (kL hN e1 (I.ok.inj _ _ _ e hc ▸ hi))
  .by_cases Lg:c'=c
   .subst Lg;exact⟨_,J8⟩
   .obtain⟨w2,z2⟩:=I.cell y c' e;exact⟨w2,z2.sameBut hs Lg⟩
  .obtain⟨e,n,ne,nf,d⟩:=I.pin p hp;refine⟨(hs.2 p.1 ?_).trans e,n,ne,nf,d⟩;intro q;rw[q,Wc]at e;have q':oc=p.2:=c6 e;exact d w' (by rw[<-q'];exact Rk)
theorem dC{E:η->θ->Prop}{v:V}{Q:Unit->θ->Prop}(I:Inv X pins σ H s)(hN:X.N.Nodup)(hi:X.N[i]? = ζ x)(hx:Loc X.env.scope x)(r:RelV v u)
  (h:∀s',Inv X pins (σ.set i (ζ v)) H s'->Q () s') (hf:X.fn x=δ\/X.env.scope.names.lookup x=ζ .local:=by first|exact .inl rfl|exact .inr rfl|assumption):υ M A (ē X.env x u) Q E s:=
 u9 I hN hi hx r (λs' I' _=>h s' I') hf
theorem Inv.OC{s':θ}{ch:List ι}(I:Inv X pins σ H s)(ho:s'.os=s.os)(u:Un (cK X.stack) ch H H' s.heap s'.heap)(Ib:gY X.prog X.w H' s'.heap)(hg:WY s'.gens)
  (Lf:∀b∈ch,(b∈X.ex\/X.s₀.heap.objs.size<=b)/\b≠X.env.locals/\(∀x c,X.env.cells.lookup x=ζ c->c≠b)/\∀p∈X.pn++pins,p.1≠b):Inv X pins σ H' s':=by
 obtain⟨h',g',d',t',o'⟩:=s';have e:o'=s.os:=ho;subst e;exact I.call (g':=g') (t':=t') (d':=d') u Ib hg Lf
end
noncomputable abbrev XK:=η->Option ι->Hp->Prop
noncomputable abbrev St:=List (Option V)
noncomputable abbrev VK:=V->Hp->Prop
noncomputable abbrev TE:=St->Hp->VK->Prop
noncomputable abbrev TT:=St->Hp->(Bool->Hp->Prop)->Prop
noncomputable abbrev TA:=St->Hp->(List V->Hp->Prop)->Prop
structure Ends where
 nx:St->Hp->Prop
 rt:VK
 bk:St->Hp->Prop:=λ_ _=>False
 ct:St->Hp->Prop:=λ_ _=>False
noncomputable abbrev TS:=Ends->St->Hp->Prop
def EP(X:Cx)(pins:List (ι×na))(σ:St)(Q:VK)(u:η)(s':θ):Prop:=∃v H',Inv X pins σ H' s'/\RelV v u/\Q v H'
def TP(X:Cx)(pins:List (ι×na))(σ:St)(Q:Bool->Hp->Prop)(b:Bool)(s':θ):Prop:=∃H',Inv X pins σ H' s'/\Q b H'
def AP(X:Cx)(pins:List (ι×na))(σ:St)(Q:List V->Hp->Prop)(us:List η)(s':θ):Prop:=∃vs H',Inv X pins σ H' s'/\aL vs us/\Q vs H'
noncomputable def SP(X:Cx)(pins:List (ι×na))(D:Ends)(f:Flow)(s':θ):Prop:=
 match f with
 |.next=>∃σ' H',Inv X pins σ' H' s'/\D.nx σ' H'
 |.brk=>∃σ' H',Inv X pins σ' H' s'/\D.bk σ' H'
 |.cont=>∃σ' H',Inv X pins σ' H' s'/\D.ct σ' H'
 |.ret u=>∃v σ' H',Inv X pins σ' H' s'/\RelV v u/\D.rt v H'
noncomputable def PE(X:Cx)(e:Expr)(t:TE):Prop:=
 ∀(pins:List (ι×na)) (s:θ) (σ:St) (H:Hp) (Q:VK),Inv X pins σ H s->t σ H Q->υ (Α X.prog X.w) X.A (eval e X.env) (EP X pins σ Q) X.xe s
noncomputable def PT(X:Cx)(e:Expr)(t:TT):Prop:=
 ∀(pins:List (ι×na)) (s:θ) (σ:St) (H:Hp) (Q:Bool->Hp->Prop),Inv X pins σ H s->t σ H Q->υ (Α X.prog X.w) X.A (Z8 e X.env (eval e X.env)) (TP X pins σ Q) X.xe s
noncomputable def PW(X:Cx)(e:Expr)(t:TT):Prop:=
 ∀(whole:Ŗ η) (pins:List (ι×na)) (s:θ) (σ:St) (H:Hp) (Q:Bool->Hp->Prop),Inv X pins σ H s->t σ H Q->υ (Α X.prog X.w) X.A (Z8 e X.env whole) (TP X pins σ Q) X.xe s
theorem PW.pt{X:Cx}{e:Expr}{t:TT}(h:PW X e t):PT X e t:=h _
noncomputable def PA(X:Cx)(es:List Expr)(t:TA):Prop:=
 ∀(pos:W3) (pins:List (ι×na)) (s:θ) (σ:St) (H:Hp) (Q:List V->Hp->Prop),Inv X pins σ H s->t σ H Q->υ (Α X.prog X.w) X.A (Z9 (Fa pos (Δ es X.env))) (AP X pins σ Q) X.xe s
noncomputable def PS(X:Cx)(st:xL)(t:TS):Prop:=
 ∀(pins:List (ι×na)) (s:θ) (σ:St) (H:Hp) (D:Ends),Inv X pins σ H s->t D σ H->υ (Α X.prog X.w) X.A (exec st X.env) (SP X pins D) X.xe s
noncomputable def gT(X:Cx)(st:List xL)(t:TS):Prop:=
 ∀(pins:List (ι×na)) (s:θ) (σ:St) (H:Hp) (D:Ends),Inv X pins σ H s->t D σ H->υ (Α X.prog X.w) X.A (ZN st X.env) (SP X pins D) X.xe s
theorem bT{α:Type}{t:Ŗ α}{Q Q':α->θ->Prop}{E:η->θ->Prop}{s:θ}(h:υ M A t Q E s)(hQ:∀a s,Q a s->Q' a s):υ M A t Q' E s:=Λ h hQ λ_ _ x=>x
end L2
namespace L2
open PySem PySem.Spec PyProof.Rows
variable {H:Hp}{op:Ya}{pins:List (ι×na)}{pos:W3}{s:θ}{t:TE}{u:η}{x:Str}
section
variable {X:Cx}
theorem bin{a b:Expr}{ta tb:TE}(ha:PE X a ta)(hb:PE X b tb){σ:St}{R:V->V->Hp->Prop}(I:Inv X pins σ H s)(h:ta σ H λx H1=>tb σ H1 λy H2=>R x y H2)
  {α:Type}{Q:α->θ->Prop}{f:η->η->Ŗ α}
  (hf:∀v u s2 x y H2,Inv X pins σ H2 s2->RelV x v->RelV y u->R x y H2->υ (Α X.prog X.w) X.A (f v u) Q X.xe s2) :
  υ (Α X.prog X.w) X.A (eval a X.env) (λv s₁=>υ (Α X.prog X.w) X.A (eval b X.env) (λu s₂=>υ (Α X.prog X.w) X.A (f v u) Q X.xe s₂) X.xe s₁) X.xe s:=by
 refine bT (ha pins s σ H _ I h) λv s1 ⟨x,H1,I1,r1,q1⟩=>?_
 refine bT (hb pins s1 σ H1 _ I1 q1) λu s2 ⟨y,H2,I2,r2,q2⟩=>?_
 exact hf v u s2 x y H2 I2 r1 r2 q2
def qy(i:Nat):TE:=λσ H Q=>∃v,σ[i]? = ζ (ζ v)/\Q v H
def tC(v:V):TE:=λ_ H Q=>Q v H
theorem oN{i:Nat}(hN:X.N[i]? = ζ x)(hv:zU X.env.scope x)(hd:(x==("__debug__" : Str))=γ:=by decide) (IT:(x==("__classdict__" : Str))=γ:=by decide):PE X (.Name x pos) (qy i):=by
 intro pins s σ H Q I h;obtain⟨v,e,h⟩:=h;obtain⟨m,hn,hl⟩:=I.loc;obtain⟨u,r,l⟩:=hl i x v hN e hv;have fin:EP X pins σ Q u s:=⟨v,H,I,r,h⟩;rcases l with⟨hk,hm⟩|⟨hk,c,hc,Jy⟩
 .exact Yt (Xo I.ok.kind hk hn hm fin) hd
 .rcases hk with hk|hk
  .exact Yt (É I.ok.kind hk hc Jy fin) hd
  .exact Yt (wpAny_loadName_free I.ok.kind hk hc Jy fin IT) hd
theorem rC{i j pos}:PE X (.Constant (.int i) j pos) (tC (.int i)):=λ_ _ _ H _ I h=>wpAny_Constant_int ⟨.int i,H,I.tok _,⟨_,rfl⟩,h⟩
theorem qK{b j pos}:PE X (.Constant (.bool b) j pos) (tC (.bl b)):=λ_ _ _ H _ I h=>Constant_bool ⟨.bl b,H,I,rfl,h⟩
theorem pf{j pos}:PE X (.Constant .none j pos) (tC .Ii):=λ_ _ _ H _ I h=>ŉ ⟨.Ii,H,I,rfl,h⟩
theorem qX{x j pos}:PE X (.Constant (.str x) j pos) (tC (.str x)):=λ_ _ _ H _ I h=>X0 ⟨.str x,H,I.tok _,⟨_,rfl⟩,h⟩
def Gl(X:Cx)(x:Str):Prop:=X.env.kindOf x=ζ .globalImplicit
theorem cV{E:η->θ->Prop}{σ:St}{Q:η->θ->Prop}(I:Inv X pins σ H s)(hg:Gl X x)(hm:X.mg x=ζ u)(h:Q u s)
  (hd:(x==("__debug__" : Str))=γ:=by decide):υ (Α X.prog X.w) X.A (eval (.Name x pos) X.env) Q E s:=
 Xp I.ok.kind hg (Y1 (by rw[I.ok.glob];exact I.mod.glob.keeps I.bk) hm h) hd
theorem gJ{E:η->θ->Prop}{σ:St}{Q:η->θ->Prop}(I:Inv X pins σ H s)(hg:Gl X x)(hm:X.mg x=ε)(hv:Op x=ζ u)(h:Q u s)
  (hn:x≠"__name__":=by decide) (hd:(x==("__debug__" : Str))=γ:=by decide):υ (Α X.prog X.w) X.A (eval (.Name x pos) X.env) Q E s:=by
 obtain⟨mb,h1,h2⟩:=I.mod.blt;exact Xp I.ok.kind hg (Calls.loadGlobal_builtin (by rw[I.ok.glob];exact I.mod.glob.keeps I.bk) hm (by rw[I.ok.blt];exact h1.keeps I.bk) ((h2 x hn).trans hv) h) hd
theorem eT{v:V}{pos:W3}(hg:Gl X x)(hm:X.mg x=ζ u)(r:RelV v u)(hd:(x==("__debug__" : Str))=γ:=by decide):PE X (.Name x pos) (tC v):=
 λ_ _ _ H _ I h=>cV I hg hm ⟨v,H,I,r,h⟩ hd
theorem jy{v:V}(hg:Gl X x)(hm:X.mg x=ε)(hv:Op x=ζ u)(r:RelV v u)(hn:x≠"__name__":=by decide) (hd:(x==("__debug__" : Str))=γ:=by decide):PE X (.Name x pos) (tC v):=
 λ_ _ _ H _ I h=>gJ I hg hm hv ⟨v,H,I,r,h⟩ hn hd
def t2I(ta tb:TE)(k:Int->Int->Hp->Prop):St->Hp->Prop:=λσ H=>ta σ H λx H1=>tb σ H1 λy H2=>∃i j,x=.int i/\y=.int j/\k i j H2
variable {a b:Expr}{ta tb:TE}{pos:W3}
noncomputable def PC(X:Cx)(op:Ya)(a b:Expr)(t:TE):Prop:=
 ∀(pins:List (ι×na)) (s:θ) (σ:St) (H:Hp) (Q:VK),Inv X pins σ H s->t σ H Q ->
  υ (Α X.prog X.w) X.A (eval a X.env) (λv s₁=>υ (Α X.prog X.w) X.A (eval b X.env) (λu s₂=>υ (Α X.prog X.w) X.A (wp op v u) (EP X pins σ Q) X.xe s₂) X.xe s₁) X.xe s
theorem qk(b:Expr)(h:op≠.In)(h2:op≠.NotIn):At op b=γ:=by
 have e1:(op==CmpOp.In)=γ:=by cases op<;>first|rfl|exact absurd rfl h
 have e2:(op==CmpOp.NotIn)=γ:=by cases op<;>first|rfl|exact absurd rfl h2
 cases b<;>simp[At,e1,e2]
def Gj(p:Int->Int->Bool)(ta tb:TE):TE:=λσ H Q=>t2I ta tb (λi j H2=>Q (.bl (p i j)) H2) σ H
noncomputable abbrev P7:TE->TE->TE:=Gj λi j=>decide (i=j)
theorem Ec{p:Int->Int->Bool}(ha:PE X a ta)(hb:PE X b tb)
  (ö:∀(i j:Int) (t u:XY) (Q:η->θ->Prop) (s:θ),Q (.bool (p i j)) s->υ (Α X.prog X.w) X.A (wp op (.int i t) (.int j u)) Q X.xe s):PC X op a b (Gj p ta tb):=by
 intro pins s σ H Q I h;refine bin ha hb I h λv u s2 x y H2 I2 rx ry q=>?_
 obtain⟨i,j,rfl,rfl,q⟩:=q;obtain⟨t,rfl⟩:=rx;obtain⟨t',rfl⟩:=ry;exact ö i j t t' _ s2 ⟨.bl _,H2,I2,rfl,q⟩
theorem DT(ha:PE X a ta)(hb:PE X b tb):PC X .Eq a b (P7 ta tb):=Ec ha hb λ_ _ _ _ _ _ h=>eq_int (by rw[Bool.beq_eq_decide_eq];exact h)
def P2(ta:TE):TE:=λσ H Q=>ta σ H λx H1=>Q (.bl (decide (x=.Ii))) H1
theorem RelV.KP{x:V}{v:η}(r:RelV x v):(v==zn)=decide (x=.Ii):=by
 cases x with
 |Ii=>cases r;rfl
 |bl _=>cases r;rfl
 |int _=>obtain⟨t,rfl⟩:=r;rfl
 |str _=>obtain⟨t,rfl⟩:=r;rfl
 |Nb _=>obtain⟨t,rfl⟩:=r;rfl
 |Pr _=>obtain⟨t,rfl⟩:=r;rfl
 |ref _=>cases r;rfl
 |ty _=>cases r;rfl
theorem yb{j pos'}(ha:PE X a ta):PC X .Is a (.Constant .none j pos') (P2 ta):=by
 intro pins s σ H Q I h;refine bT (ha pins s σ H _ I h) λv s1 ⟨x,H1,I1,r1,q1⟩=>?_
 exact ŉ (is_none_gen ⟨.bl _,H1,I1,by rw[r1.KP];rfl,q1⟩)
def tB(t:TE):TT:=λσ H Q=>t σ H λx H1=>∃c,x=.bl c/\Q c H1
theorem DU(h:PC X op a b t)(h1:At op b=γ:=by first|exact qk _ (by decide) (by decide)|rfl):PE X (.Compare a [op] [b] pos) t:=λpins s σ H Q I hw=>Ķ (h pins s σ H Q I hw) h1
theorem yI(h:PC X op a b t)(h1:At op b=γ:=by first|exact qk _ (by decide) (by decide)|rfl):PT X (.Compare a [op] [b] pos) (tB t):=by
 intro pins s σ H Q I hw;refine ç (bT (h pins s σ H _ I hw) λv s1 h1=>bT h1 λu s2 h2=>bT h2 λc s3 ⟨x,H1,I1,r1,q1⟩=>?_) h1;obtain⟨d,rfl,q⟩:=q1;cases r1;exact rc ⟨H1,I1,q⟩
theorem kZ{e:Expr}(h:PE X e t)(he:∀whole,Z8 e X.env whole=(do let v <- whole;Ą e.pos;Yi [v] (ķ v)):=by intro _;rfl):PT X e (tB t):=by
 intro pins s σ H Q I hw;refine ŗ (bT (h pins s σ H _ I hw) λv s1 ⟨x,H1,I1,r1,q1⟩=>?_) (he _);obtain⟨d,rfl,q⟩:=q1;cases r1;exact rc ⟨H1,I1,q⟩
variable {tA OQ:TT}{rest:List Expr}
def P9(t u:TT):TT:=λσ H Q=>t σ H λc H1=>if c=δ then u σ H1 Q else Q γ H1
def tOr(t u:TT):TT:=λσ H Q=>t σ H λc H1=>if c=δ then Q δ H1 else u σ H1 Q
def P0(t:TT):TT:=λσ H Q=>t σ H λc H1=>Q (!c) H1
theorem A0(ha:PT X a tA):PW X (.BoolOp .And [a] pos) tA:=by
 intro wh pins s σ H Q I h;refine isTrue_and (bT (ha pins s σ H Q I h) λc s1 e=>?_);cases c with
 |true=>exact isTrue_and_nil e
 |false=>exact e
theorem wR(ha:PT X a tA):PW X (.BoolOp .Or [a] pos) tA:=by
 intro wh pins s σ H Q I h;refine isTrue_or (bT (ha pins s σ H Q I h) λc s1 e=>?_);cases c with
 |false=>exact isTrue_or_nil e
 |true=>exact e
theorem Ez(ha:PT X a tA)(hb:PW X (.BoolOp .And (b::rest) pos) OQ):PW X (.BoolOp .And (a::b::rest) pos) (P9 tA OQ):=by
 intro wh pins s σ H Q I h;refine isTrue_and (bT (ha pins s σ H _ I h) λc s1 ⟨H1,I1,q1⟩=>?_);cases c with
 |true=>exact hb wh pins s1 σ H1 Q I1 q1
 |false=>exact⟨H1,I1,q1⟩
theorem w8(ha:PT X a tA)(hb:PW X (.BoolOp .Or (b::rest) pos) OQ):PW X (.BoolOp .Or (a::b::rest) pos) (tOr tA OQ):=by
 intro wh pins s σ H Q I h;refine isTrue_or (bT (ha pins s σ H _ I h) λc s1 ⟨H1,I1,q1⟩=>?_);cases c with
 |true=>exact⟨H1,I1,q1⟩
 |false=>exact hb wh pins s1 σ H1 Q I1 q1
theorem kR(ha:PT X a tA):PT X (.UnaryOp .Not a pos) (P0 tA):=by
 intro pins s σ H Q I h;exact isTrue_not (ha pins s σ H (λc H1=>Q (!c) H1) I h)
def FH(ta tb:TE):TE:=λσ H Q=>ta σ H λx H1=>∃c,x=.bl c/\if c=δ then tb σ H1 Q else Q (.bl γ) H1
def PZ(ta tb:TE):TE:=λσ H Q=>ta σ H λx H1=>∃c,x=.bl c/\if c=δ then Q (.bl δ) H1 else tb σ H1 Q
def F7(ta:TE):TE:=λσ H Q=>ta σ H λx H1=>∃c,x=.bl c/\Q (.bl (!c)) H1
theorem oi{op}(h:PE X a t):PE X (.BoolOp op [a] pos) t:=λpins s σ H Q I hw=>BoolOp_one (h pins s σ H Q I hw)
theorem oQ(ha:PE X a ta)(hb:PE X (.BoolOp .And (b::rest) pos) tb):PE X (.BoolOp .And (a::b::rest) pos) (FH ta tb):=by
 intro pins s σ H Q I h;refine BoolOp_and (bT (ha pins s σ H _ I h) λv s1 ⟨x,H1,I1,r1,q1⟩=>?_);obtain⟨c,rfl,q1⟩:=q1;cases r1;refine rc ?_;cases c with
 |true=>exact hb pins s1 σ H1 Q I1 q1
 |false=>exact⟨.bl γ,H1,I1,rfl,q1⟩
theorem Fk(ha:PE X a ta)(hb:PE X (.BoolOp .Or (b::rest) pos) tb):PE X (.BoolOp .Or (a::b::rest) pos) (PZ ta tb):=by
 intro pins s σ H Q I h;refine BoolOp_or (bT (ha pins s σ H _ I h) λv s1 ⟨x,H1,I1,r1,q1⟩=>?_);obtain⟨c,rfl,q1⟩:=q1;cases r1;refine rc ?_;cases c with
 |false=>exact hb pins s1 σ H1 Q I1 q1
 |true=>exact⟨.bl δ,H1,I1,rfl,q1⟩
theorem o9(ha:PE X a ta):PE X (.UnaryOp .Not a pos) (F7 ta):=by
 intro pins s σ H Q I h;refine UnaryOp_ (bT (ha pins s σ H _ I h) λv s1 ⟨x,H1,I1,r1,q1⟩=>?_);obtain⟨c,rfl,q1⟩:=q1;cases r1;exact not_of (rc ⟨.bl (!c),H1,I1,rfl,q1⟩)
def tIf(t:TT)(ta tb:TE):TE:=λσ H Q=>t σ H λc H1=>if c=δ then ta σ H1 Q else tb σ H1 Q
theorem wq{c:Expr}(hc:PT X c tA)(ha:PE X a ta)(hb:PE X b tb):PE X (.IfExp c a b pos) (tIf tA ta tb):=by
 intro pins s σ H Q I h;refine wpAny_IfExp (bT (hc pins s σ H _ I h) λd s1 ⟨H1,I1,q1⟩=>?_);cases d with
 |true=>exact ha pins s1 σ H1 Q I1 q1
 |false=>exact hb pins s1 σ H1 Q I1 q1
end
end L2
namespace L2
open PySem PySem.Spec PyProof.Rows
noncomputable def jK(K:ψ)(H:Hp)(a:ι)(xs:List V):Prop:=
 Rd H a (.lst xs) \/
  ∃(o:na) (its:Array η) (n:Nat),K.lookup a=ζ o/\o.cls=.type "list"/\o.dict=ε/\o.data=.seq its n/\its.size<=Ζ/\aL xs its.toList
noncomputable def nz(K:ψ)(H:Hp)(a:ι)(xs:List V):Prop:=
 Rd H a (.tup xs) \/
  ∃(o:na) (its:Array η) (n:Nat),K.lookup a=ζ o/\o.cls=.type "tuple"/\o.data=.seq its n/\its.size<=Ζ/\aL xs its.toList
noncomputable def U2:η->Option V
 |.none=>ζ .Ii
 |.bool b=>ζ (.bl b)
 |.int i _=>ζ (.int i)
 |.str x _=>ζ (.str x)
 |.bytes b _=>ζ (.Nb b)
 |.float b _=>ζ (.Pr b)
 |.ref a=>ζ (.ref a)
 |.type n=>ζ (.ty n)
 |_=>ε
variable {u:η}
theorem RelV.abs{x:V}(r:RelV x u):U2 u=ζ x:=by
 cases x with
 |Ii=>cases r;rfl
 |bl _=>cases r;rfl
 |int _=>obtain⟨t,rfl⟩:=r;rfl
 |str _=>obtain⟨t,rfl⟩:=r;rfl
 |Nb _=>obtain⟨t,rfl⟩:=r;rfl
 |Pr _=>obtain⟨t,rfl⟩:=r;rfl
 |ref _=>cases r;rfl
 |ty _=>cases r;rfl
theorem RelV.inj{x y:V}{u:η}(r:RelV x u)(q:RelV y u):x=y:=c6 (r.abs.symm.trans q.abs)
theorem aL.inj:∀{xs ys:List V}{us:List η},aL xs us->aL ys us->xs=ys
 |_,_,_,.nil,.nil=>rfl
 |_,_,_,.cons r t,.cons r' t'=>by rw[r.inj r',aL.inj t t']
section
variable {X:Cx}{pins:List (ι×na)}{σ:St}{H:Hp}{s:θ}{a:ι}{xs ys:List V}
theorem Inv.list(I:Inv X pins σ H s)(h:jK X.K H a xs):∃its:List η,aL xs its/\PlainL s.heap a its.toArray/\xs.length<=Ζ:=by
 rcases h with h|⟨o,its,n,hk,hc,hd,hs,hz,r⟩
 .obtain⟨z,its,n,r,e⟩:=h.ok I.Ib;exact⟨its,r,⟨_,n,e,rfl,rfl,rfl⟩,z⟩
 .refine⟨its.toList,r,⟨o,n,I.Jd a o hk,hc,hd,by simpa using hs⟩,?_⟩;have e:=r.length;simp only[et]at e;omega
theorem Inv.tuple(I:Inv X pins σ H s)(h:nz X.K H a xs):∃its:List η,aL xs its/\õ s.heap a its.toArray/\xs.length<=Ζ:=by
 rcases h with h|⟨o,its,n,hk,hc,hs,hz,r⟩
 .obtain⟨z,its,r,p⟩:=h.ok I.Ib;exact⟨its,r,p,z⟩
 .refine⟨its.toList,r,⟨o,I.Jd a o hk,hc,n,by simpa using hs⟩,?_⟩;have e:=r.length;simp only[et]at e;omega
theorem Inv.IF(I:Inv X pins σ H s)(h:jK X.K H a xs)(h':jK X.K H a ys):xs=ys:=by
 obtain⟨its,r,⟨o,n,e,_,_,d⟩,_⟩:=I.list h;obtain⟨its',r',⟨o',n',e',_,_,d'⟩,_⟩:=I.list h';rw[e]at e';cases e';rw[d]at d';injection d' with d1 _
 have:its=its':=by simpa using congrArg Ø d1
 subst this;exact r.inj r'
theorem Inv.Kv(I:Inv X pins σ H s)(h:nz X.K H a xs)(h':nz X.K H a ys):xs=ys:=by
 obtain⟨its,r,⟨o,e,_,n,d⟩,_⟩:=I.tuple h;obtain⟨its',r',⟨o',e',_,n',d'⟩,_⟩:=I.tuple h';rw[e]at e';cases e';rw[d]at d';injection d' with d1 _
 have:its=its':=by simpa using congrArg Ø d1
 subst this;exact r.inj r'
end
noncomputable abbrev Cx.ID(X:Cx)(E:η->θ->Prop):Cx:={X with xe:=E}
noncomputable abbrev Cx.IL(X:Cx):Cx:=X.ID λ_ _=>False
variable {X:Cx}
theorem Cx.Ok.ID(ok:X.Ok)(E:η->θ->Prop):(X.ID E).Ok:=
 ⟨ok.mod,ok.kind,ok.glob,ok.blt,ok.above,ok.inj,ok.has,ok.KJ,ok.hd,ok.frames,ok.Ll,ok.LX,ok.bs,ok.Ks,ok.Jr,ok.Jv,ok.IH,ok.KI⟩
theorem Cx.Ok.Ih{E:η->θ->Prop}(ok:(X.ID E).Ok):X.Ok:=
 ⟨ok.mod,ok.kind,ok.glob,ok.blt,ok.above,ok.inj,ok.has,ok.KJ,ok.hd,ok.frames,ok.Ll,ok.LX,ok.bs,ok.Ks,ok.Jr,ok.Jv,ok.IH,ok.KI⟩
variable {e:Expr}
section
variable {X:Cx}{pins:List (ι×na)}{σ:St}{H:Hp}{s:θ}{E:η->θ->Prop}
theorem Inv.ID(I:Inv X pins σ H s)(E:η->θ->Prop):Inv (X.ID E) pins σ H s:=⟨I.ok.ID E,I.os,I.bare,I.base,I.loc,I.cell,I.free,I.Il,I.pin,I.Ib,I.len⟩
theorem Inv.Ih(I:Inv (X.ID E) pins σ H s):Inv X pins σ H s:=⟨I.ok.Ih,I.os,I.bare,I.base,I.loc,I.cell,I.free,I.Il,I.pin,I.Ib,I.len⟩
theorem SP.Ih{D:Ends}{f:Flow}{s':θ}(h:SP (X.ID E) pins D f s'):SP X pins D f s':=by
 cases f with
 |next=>obtain⟨σ',H',I,q⟩:=h;exact⟨σ',H',I.Ih,q⟩
 |brk=>obtain⟨σ',H',I,q⟩:=h;exact⟨σ',H',I.Ih,q⟩
 |cont=>obtain⟨σ',H',I,q⟩:=h;exact⟨σ',H',I.Ih,q⟩
 |ret u=>obtain⟨v,σ',H',I,r,q⟩:=h;exact⟨v,σ',H',I.Ih,r,q⟩
theorem PT.IL{t:TT}(h:PT X.IL e t):PT X e t:=λpins s σ H Q I hw=>
 Λ (h pins s σ H Q (I.ID _) hw) (λ_ _ ⟨H',I',q⟩=>⟨H',I'.Ih,q⟩) λ_ _ z=>Χ z
theorem gT.IL{st:List xL}{t:TS}(h:gT X.IL st t):gT X st t:=λpins s σ H D I hw=>
 Λ (h pins s σ H D (I.ID _) hw) (λ_ _ q=>q.Ih) λ_ _ z=>Χ z
end
variable {H:Hp}{c:Expr}{pins:List (ι×na)}{s:θ}{tc:TT}
section
variable {X:Cx}{st:xL}{rest:List xL}{t u:TS}{e:Expr}{te:TE}{pos:W3}
def G7:TS:=λD σ H=>D.nx σ H
def PY(t u:TS):TS:=λD σ H=>t {D with nx:=u D} σ H
theorem eB:gT X [] G7:=λ_ _ σ H _ I h=>Ix ⟨σ,H,I,h⟩
theorem cC(h1:PS X st t)(h2:gT X rest u):gT X (st::rest) (PY t u):=by
 intro pins s σ H D I h;refine ww (bT (h1 pins s σ H {D with nx:=u D} I h) λf s1 q=>?_);cases f with
 |next=>
  obtain⟨σ',H',I',q⟩:=q;exact h2 pins s1 σ' H' D I' q
 |ret v=>exact q
 |brk=>exact q
 |cont=>exact q
theorem cF(h1:PS X st t):gT X [st] t:=by
 intro pins s σ H D I h;refine ww (bT (h1 pins s σ H D I h) λf s1 q=>?_);cases f with
 |next=>exact Ix q
 |ret v=>exact q
 |brk=>exact q
 |cont=>exact q
theorem Inv.quiet{σ:St}(I:Inv X pins σ H s):ø X.env=γ:=by simp[ø,I.ok.kind]
def Cu(te:TE):TS:=λD σ H=>te σ H λ_ H1=>D.nx σ H1
theorem t6(he:PE X e te)(hs:W7 e ε pos.line X.env=pure γ:=by rfl):PS X (.Expr e pos) (Cu te):=by
 intro pins s σ H D I h;exact Zd (bT (he pins s σ H _ I h) λv s1 ⟨x,H1,I1,r1,q1⟩=>⟨σ,H1,I1,q1⟩) I.quiet hs
def Dc(te:TE):TS:=λD σ H=>te σ H D.rt
theorem dX(he:PE X e te):PS X (.Return (ζ e) pos) (Dc te):=by
 intro pins s σ H D I h;exact wpAny_Return_some (bT (he pins s σ H _ I h) λv s1 ⟨x,H1,I1,r1,q1⟩=>⟨x,σ,H1,I1,r1,q1⟩)
def P5(c:TT)(t u:TS):TS:=λD σ H=>c σ H λb H1=>if b=δ then t D σ H1 else u D σ H1
theorem j3{a b:List xL}(hc:PT X c tc)(ha:gT X a t)(hb:gT X b u):PS X (.If c a b pos) (P5 tc t u):=by
 intro pins s σ H D I h;refine wpAny_If (bT (hc pins s σ H _ I h) λd s1 ⟨H1,I1,q1⟩=>?_);cases d with
 |true=>exact ha pins s1 σ H1 D I1 q1
 |false=>exact hb pins s1 σ H1 D I1 q1
end
noncomputable abbrev TG:=V->St->Hp->(St->Hp->Prop)->Prop
noncomputable abbrev CG:=List V->St->Hp->(St->Hp->Prop)->Prop
noncomputable def PG(X:Cx)(target:Expr)(t:TG):Prop:=
 ∀(pins:List (ι×na)) (s:θ) (σ:St) (H:Hp) (v:V) (u:η) (Q:St->Hp->Prop),Inv X pins σ H s->RelV v u->t v σ H Q ->
  υ (Α X.prog X.w) X.A (Yb target X.env u) (λ_ s'=>∃σ' H',Inv X pins σ' H' s'/\Q σ' H') X.xe s
noncomputable def GB(X:Cx)(ts:List Expr)(t:CG):Prop:=
 ∀(pins:List (ι×na)) (s:θ) (σ:St) (H:Hp) (vs:List V) (us:List η) (Q:St->Hp->Prop),Inv X pins σ H s->aL vs us->t vs σ H Q ->
  υ (Α X.prog X.w) X.A (assignInOrder ((Os ts X.env).map (·.2)) us) (λ_ s'=>∃σ' H',Inv X pins σ' H' s'/\Q σ' H') X.xe s
noncomputable abbrev EA:=V->V->V->Hp->(Hp->Prop)->Prop
noncomputable def Gz(X:Cx)(t:EA):Prop:=
 ∀(pins:List (ι×na)) (s:θ) (σ:St) (H:Hp) (o i v:V) (ov iv u:η) (Q:Hp->Prop),Inv X pins σ H s->RelV o ov->RelV i iv->RelV v u->t o i v H Q ->
  υ (Α X.prog X.w) X.A (Ř ov iv u) (λ_ s'=>∃H',Inv X pins σ H' s'/\Q H') X.xe s
noncomputable abbrev U5:=V->V->Hp->VK->Prop
noncomputable def WO(X:Cx)(op:FM)(t:U5):Prop:=
 ∀(pins:List (ι×na)) (s:θ) (σ:St) (H:Hp) (x y:V) (v u:η) (Q:VK),Inv X pins σ H s->RelV x v->RelV y u->t x y H Q ->
  υ (Α X.prog X.w) X.A (ZO op v u) (EP X pins σ Q) X.xe s
variable {es:List Expr}{i:Nat}{pos':W3}{te:TE}{tg:Expr}{x:Str}
section
variable {X:Cx}{pos:W3}
noncomputable def kf(i:Nat):TG:=λv σ H Q=>Q (σ.set i (ζ v)) H
theorem tU(hN:X.N.Nodup)(hi:X.N[i]? = ζ x)(hx:Loc X.env.scope x)(hf:X.fn x=δ\/X.env.scope.names.lookup x=ζ .local:=by first|exact .inl rfl|exact .inr rfl|assumption):PG X (.Name x pos) (kf i):=by
 intro pins s σ H v u Q I r h;exact ą (dC I hN hi hx r (λs' I'=>⟨_,H,I',h⟩) hf)
noncomputable def Fd:CG:=λvs σ H Q=>vs=[]/\Q σ H
noncomputable def Co(t:TG)(u:CG):CG:=λvs σ H Q=>∃v r,vs=v::r/\t v σ H λσ' H'=>u r σ' H' Q
theorem zY:GB X [] Fd:=by
 intro pins s σ H vs us Q I r h;obtain⟨e,h⟩:=h;subst e;cases r;exact assignInOrder_nil ⟨σ,H,I,h⟩
theorem wj{t:TG}{u:CG}(h1:PG X e t)(h2:GB X es u)
  (hs:(Os (e::es) X.env).map (·.2)=Yb e X.env::(Os es X.env).map (·.2):=by rfl):GB X (e::es) (Co t u):=by
 intro pins s σ H vs us Q I r h;obtain⟨v,vr,e1,h⟩:=h;subst e1;cases r with
 |cons r rr=>
  rw[hs];refine assignInOrder_cons (bT (h1 pins s σ H _ _ _ I r h) λ_ s1 ⟨σ1,H1,I1,q1⟩=>?_);exact h2 pins s1 σ1 H1 _ _ Q I1 rr q1
noncomputable def vY(K:ψ)(n:Nat)(t:CG):TG:=λv σ H Q=>∃a xs,v=.ref a/\nz K H a xs/\xs.length=n/\t xs σ H Q
theorem xw{k:Nat}{t:CG}{n:Nat}(hc:X.calm=δ)(h:GB X es t)
  (hn:(Os es X.env).length=n:=by rfl) (Ls:(Os es X.env).findIdx? (·.1)=ε:=by rfl):PG X (.Tuple es k pos) (vY X.K n t):=by
 intro pins s σ H v u Q I r hw;obtain⟨a,xs,e1,hq,hl,hw⟩:=hw;subst e1;cases r;obtain⟨its,rv,ht,hz⟩:=I.tuple hq;refine assign_Tuple_tuple (I.ok.hd hc) ht (by simp[hn,<-hl,rv.length]) Ls λh' hx=>?_
 have I1:Inv X pins σ H {s with heap:=h' }:=I.kept (t':=s.toks) λb o e=>hx b o (az (ρ e)) e
 exact h pins _ σ H xs _ Q I1 (by simpa using rv) hw
noncomputable def GD(to ti:TE)(t:EA):TG:=λv σ H Q=>to σ H λo H1=>ti σ H1 λi H2=>t o i v H2 λH3=>Q σ H3
theorem DC{o i:Expr}{to ti:TE}{t:EA}(ho:PE X o to)(hi:PE X i ti)(hs:Gz X t)
  (ha:∀v,Yb (.Subscript o i pos) X.env v=(do
   let ov <- Yi [v] (eval o X.env);let iv <- Yi [v,ov] (eval i X.env)
   Ą pos
   Yi [v,ov,iv] (Ř ov iv v)
   release [v,ov,iv] []):=by intro _;rfl):PG X (.Subscript o i pos) (GD to ti t):=by
 intro pins s σ H v u Q I r h;rw[ha];refine ν (KE (bT (ho pins s σ H _ I h) λov s1 ⟨x,H1,I1,r1,q1⟩=>?_));refine ν (KE (bT (hi pins s1 σ H1 _ I1 q1) λiv s2 ⟨y,H2,I2,r2,q2⟩=>?_));refine ν (Xl (ν (KE (bT (hs pins s2 σ H2 x y v ov iv u _ I2 r1 r2 r q2) λ_ s3 ⟨H3,I3,q3⟩=>?_))));exact wpAny_release ⟨σ,H3,I3,q3⟩
def vG(te:TE)(g:TG):TS:=λD σ H=>te σ H λx H1=>g x σ H1 D.nx
theorem wK{g:TG}(he:PE X e te)(hg:PG X tg g)(hs:Zx [tg] e pos.line X.env=pure γ:=by rfl)(hw:Ŋ [tg] e X.env=pure ε:=by rfl)
  (h1:(Os [tg] X.env).map (·.2)=[Yb tg X.env]:=by rfl):PS X (.Assign [tg] e pos) (vG te g):=by
 intro pins s σ H D I h;refine wpAny_Assign_stores (bT (he pins s σ H _ I h) λv s1 ⟨x,H1,I1,r1,q1⟩=>?_) hs hw;rw[h1];exact bT (hg pins s1 σ H1 x v _ I1 r1 q1) λ_ s2 q=>q
theorem hX{i:Nat}(hN:X.N.Nodup)(hi:X.N[i]? = ζ x)(hx:Loc X.env.scope x)(he:PE X e te)(hs:W7 e (ζ (.Name x pos')) pos.line X.env=pure γ:=by rfl)(hf:X.fn x=δ\/X.env.scope.names.lookup x=ζ .local:=by first|exact .inl rfl|exact .inr rfl|assumption) :
  PS X (.Assign [.Name x pos'] e pos) (vG te (kf i)):=by
 intro pins s σ H D I h;refine YD (bT (he pins s σ H _ I h) λv s1 ⟨y,H1,I1,r1,q1⟩=>?_) hs;exact dC I1 hN hi hx r1 (λs2 I2=>⟨_,H1,I2,q1⟩) hf
def P8(i:Nat)(te:TE)(ti:U5):TS:=λD σ H=>∃x,σ[i]? = ζ (ζ x)/\te σ H λy H1=>ti x y H1 λz H2=>D.nx (σ.set i (ζ z)) H2
theorem EG{op:FM}{ti:U5}(hN:X.N.Nodup)(hi:X.N[i]? = ζ x)(hx:Loc X.env.scope x)(he:PE X e te)(ho:WO X op ti)(hf:X.fn x=δ\/X.env.scope.names.lookup x=ζ .local:=by first|exact .inl rfl|exact .inr rfl|assumption) :
  PS X (.AugAssign (.Name x pos') op e pos) (P8 i te ti):=by
 intro pins s σ H D I h;obtain⟨v,e1,h⟩:=h;obtain⟨m,hn,hl⟩:=I.loc;have LZ:zU X.env.scope x:=by rcases hx with k|k;exact .inl k;exact .inr (.inl k)
 obtain⟨u,r,l⟩:=hl i x v hi e1 LZ;refine wpAny_AugAssign_Name ?_;have go:υ (Α X.prog X.w) X.A (eval e X.env) (λw s₂=>υ (Α X.prog X.w) X.A (ZO op u w) (λr s₃=>υ (Α X.prog X.w) X.A (ē X.env x r) (λ_=>SP X pins D .next) X.xe s₃) X.xe s₂) X.xe s:=by
  refine bT (he pins s σ H _ I h) λw s1 ⟨y,H1,I1,r1,q1⟩=>?_
  refine bT (ho pins s1 σ H1 v y u w _ I1 r r1 q1) λz s2 ⟨zv,H2,I2,r2,q2⟩=>?_
  exact dC I2 hN hi hx r2 (λs3 I3=>⟨_,H2,I3,q2⟩) hf
 rcases l with⟨hk,hm⟩|⟨hk,c,hc,Jy⟩
 .exact Xo I.ok.kind hk hn hm go
 .rcases hk with hk|hk
  .exact É I.ok.kind hk hc Jy go
  .rcases hx with k|k
   .have:X.env.scope.names.lookup x=ζ .free:=hk;rw[k]at this;cases this
   .have:X.env.scope.names.lookup x=ζ .free:=hk;rw[k]at this;cases this
end
section
variable {X:Cx}{pos:W3}
def Ej(c:TT)(tb:TS):TS:=λD σ H=>∃W:Nat->St->Hp->Prop,(∃m,W m σ H)/\∀m σ H,W m σ H ->
 c σ H λb H1=>if b=δ then∃N:St->Hp->Prop,(∀σ' H',N σ' H'->∃m',m'<m/\W m' σ' H')/\tb {D with nx:=N,ct:=N,bk:=D.nx} σ H1 else D.nx σ H1
theorem za{body:List xL}{tb:TS}(hp:XI (Α X.prog X.w) X.A X.env X.xe)(hc:PT X c tc)(hb:gT X body tb):PS X (.While c body [] pos) (Ej tc tb):=by
 intro pins s σ H D I h;obtain⟨W,⟨m0,w0⟩,turn⟩:=h;refine wpAny_While (codeAny_whileLoop (λn s'=>∃σ' H',Inv X pins σ' H' s'/\W n σ' H') ?_ m0 ⟨σ,H,I,w0⟩);rintro n s1 ⟨σ1,H1,I1,w1⟩;refine SC hp (bT (hc pins s1 σ1 H1 _ I1 (turn n σ1 H1 w1)) λb s2 ⟨H2,I2,q2⟩=>?_);cases b with
 |true=>
  obtain⟨N,hN,q2⟩:=q2;rw[if_pos rfl];refine SC hp (bT (hb pins s2 σ1 H2 _ I2 q2) λf s3 q3=>?_);cases f with
  |next=>
   obtain⟨σ3,H3,I3,n3⟩:=q3;obtain⟨m',hm,w3⟩:=hN σ3 H3 n3;exact⟨m',hm,σ3,H3,I3,w3⟩
  |cont=>
   obtain⟨σ3,H3,I3,n3⟩:=q3;obtain⟨m',hm,w3⟩:=hN σ3 H3 n3;exact⟨m',hm,σ3,H3,I3,w3⟩
  |brk=>exact q3
  |ret v=>exact q3
 |false=>
  rw[if_neg bo];exact Ix ⟨σ1,H2,I2,q2⟩
end
structure It where
 go:Nat->Hp->Prop
 Nd:Nat->Hp->V->Hp->Prop
 stop:Nat->Hp->Prop
noncomputable def gX(X:Cx)(pins:List (ι×na))(H:Hp)(b:ι):Prop:=
 H b=ε/\b≠X.env.locals/\b∉X.fs/\(b∈X.ex\/X.s₀.heap.objs.size<=b)/\(∀x c,X.env.cells.lookup x=ζ c->c≠b)/\∀p∈X.pn++pins,p.1≠b
theorem Inv.Jt{σ:St}{H':Hp}{b:ι}(I:Inv X pins σ H s)(hb:s.heap.objs.size<=b)(hn:H' b=ε):gX X pins H' b:=by
 refine⟨hn,Ze (ax I.lt hb),I.Nt hb,.inr (a8 I.sz hb),λx c e z=>?_,λp hp z=>?_⟩
 .obtain⟨v,q⟩:=I.cell x c e;exact absurd (ax q.lt (by rw[z];exact hb)) (c8 _)
 .exact absurd (ax (ρ (I.pin p hp).1) (by rw[z];exact hb)) (c8 _)
structure Turn(P:Ε)(w:Ξ)(K:ψ)(tg:Expr)(J:It)(fp:List ι)(it:ι)(tn:Nat->Υ->Prop):Prop where
 mem:it∈fp
 obj:∀i h,tn i h->∀b∈fp,∃o,h.get? b=ζ o/\∀v,o.data≠.cell v
 keep:∀i h h',tn i h->(∀b∈fp,∀o,h.get? b=ζ o->h'.get? b=ζ o)->tn i h'
 item:∀(X:Cx),X.prog=P->X.w=w->X.K=K->X.calm=δ->∀(i:Nat) (pins:List (ι×na)) (s:θ) (σ:St) (H:Hp) (E:η->θ->Prop),Inv X pins σ H s->(∀b∈fp,gX X pins H b)->tn i s.heap->J.go i H ->
  υ (Α P w) X.A (pyNext (.ref it)) (λr s1=>∃u,r=ζ u /\
   υ (Α P w) X.A (XX tg (.ref it) u) (λ_ s2=>∃x H',Inv X pins σ H' s2/\RelV x u/\J.Nd i H x H'/\tn (i+1) s2.heap/\∀b∈fp,H' b=ε) E s1) E s
 done:∀(X:Cx),X.prog=P->X.w=w->X.K=K->X.calm=δ->∀(i:Nat) (pins:List (ι×na)) (s:θ) (σ:St) (H:Hp) (E:η->θ->Prop),Inv X pins σ H s->(∀b∈fp,gX X pins H b)->tn i s.heap->J.stop i H ->
  υ (Α P w) X.A (pyNext (.ref it)) (λr s1=>r=ε/\Inv X pins σ H s1) E s
 self:∀(A:Ρ) (i:Nat) (s:θ) (Q:η->θ->Prop) (E:η->θ->Prop),tn i s.heap->Q (.ref it) s->υ (Α P w) A (Yc (.ref it)) Q E s
noncomputable abbrev TI:=St->Hp->(It->Hp->Prop)->Prop
noncomputable def EY(X:Cx)(pins:List (ι×na))(σ:St)(tg:Expr)(R:It->Hp->Prop)(NH:η)(s2:θ):Prop:=
 ∃(it:ι) (fp:List ι) (tn:Nat->Υ->Prop) (J:It) (H':Hp),NH=.ref it/\Inv X pins σ H' s2/\Turn X.prog X.w X.K tg J fp it tn/\tn 0 s2.heap/\(∀b∈fp,gX X pins H' b)/\R J H'
noncomputable def PI(X:Cx)(tg wl:Expr)(wi:TI):Prop:=
 ∀(pins:List (ι×na)) (s:θ) (σ:St) (H:Hp) (R:It->Hp->Prop),Inv X pins σ H s->wi σ H R ->
  υ (Α X.prog X.w) X.A (eval wl X.env) (λv s1=>υ (Α X.prog X.w) X.A (Yc v) (EY X pins σ tg R) X.xe s1) X.xe s
theorem v9{M:ZM}{A:Ρ}{E:η->θ->Prop}{s:θ}{it:ι}{o:na}{n:String}{vs:Array η}{Q:Unit->θ->Prop}(ho:s.heap.get? it=ζ o)(hc:o.cls=.type n)(hd:o.data=.fields vs)
  (hn:["enumerate","zip","dict_itemiterator","dict_reverseitemiterator","odict_iterator","itertools.zip_longest","itertools.pairwise"].contains n=γ) (hQ:Q () s):υ M A (XX tg (.ref it) u) Q E s:=by
 unfold XX;cases tg<;>first
  |exact Ν hQ
  | (cases u<;>first
    |exact Ν hQ
    | (refine ν (wpAny_load ho ?_)
       rw[hc,hd];show υ M A (if(["enumerate","zip","dict_itemiterator","dict_reverseitemiterator","odict_iterator","itertools.zip_longest","itertools.pairwise"].contains n&&vs[0]?==ζ (YN _))=δ then _ else _) Q E s;rw[if_neg (by intro h;rw[hn,Bool.false_and]at h;cases h)];exact Ν hQ))
noncomputable def U7(K:ψ)(a:ι):It:=
 ⟨λi H=>∃xs x,jK K H a xs/\xs[i]? = ζ x,λi H x H'=>H'=H/\∀xs,jK K H a xs->xs[i]? = ζ x,λi H=>∃xs,jK K H a xs/\xs.length<=i⟩
noncomputable def U6(K:ψ)(a:ι):It:=
 ⟨λi H=>∃xs x,nz K H a xs/\xs[i]? = ζ x,λi H x H'=>H'=H/\∀xs,nz K H a xs->xs[i]? = ζ x,λi H=>∃xs,nz K H a xs/\xs.length<=i⟩
variable {P:Ε}{w:Ξ}
theorem uG{K:ψ}(a it:ι):Turn P w K tg (U7 K a) [it] it (λi h=>h.IsListIter it a i) where
 mem:=by simp
 obj:=λi h st b hb=>by
  have e:b=it:=by simpa using hb
  subst e;obtain⟨o,e,c,d⟩:=st;exact⟨o,e,λv z=>by rw[d]at z;cases z⟩
 keep:=λi h h' st k=>st.at λo e=>k it (by simp) o e
 item:=by
  intro X hP hw hK hc i pins s σ H E I hf st hg;subst hP hw hK;obtain⟨xs,x,hq,hx⟩:=hg;obtain⟨its,rv,p,hz⟩:=I.list hq;obtain⟨u,hu,ru⟩:=rv.get hx;obtain⟨f0,f1,f2,f3,f4,f5⟩:=hf it (by simp);refine wpAny_pyNext_list_item st p.isList (x:=u) (by simpa using hu) λh' Jo sb=>?_
  have I1:Inv X pins σ H {s with heap:=h' }:=I.turned (t':=s.toks) (λb o hb e=>(sb.2 b hb).trans e) f0 f1 f3 f4 f5;obtain⟨o,e,c,d⟩:=id Jo;exact⟨u,rfl,v9 (s:={s with heap:=h' }) e c d (by decide) ⟨x,H,I1,ru,⟨rfl,λys hy=>by rw[I.IF hy hq];exact hx⟩,Jo,λb hb=>(hf b hb).1⟩⟩
 done:=by
  intro X hP hw hK hc i pins s σ H E I hf st hg;subst hP hw hK;obtain⟨xs,hq,hx⟩:=hg;obtain⟨its,rv,p,hz⟩:=I.list hq;obtain⟨f0,f1,f2,f3,f4,f5⟩:=hf it (by simp);have hl:=rv.length;exact wpAny_pyNext_list_end (I.ok.hd hc) st p.isList (by simp;omega) λh' eb=>⟨rfl,I.turned (t':=s.toks) (λb o hb e=>eb b o hb e) f0 f1 f3 f4 f5⟩
 self:=λ_ _ _ _ _ st h=>wpAny_pyIter_listiter st h
theorem sV{K:ψ}(a it:ι):Turn P w K tg (U6 K a) [it] it (λi h=>h.IsTupleIter it a i) where
 mem:=by simp
 obj:=λi h st b hb=>by
  have e:b=it:=by simpa using hb
  subst e;obtain⟨o,e,c,d⟩:=st;exact⟨o,e,λv z=>by rw[d]at z;cases z⟩
 keep:=λi h h' st k=>st.at λo e=>k it (by simp) o e
 item:=by
  intro X hP hw hK hc i pins s σ H E I hf st hg;subst hP hw hK;obtain⟨xs,x,hq,hx⟩:=hg;obtain⟨its,rv,p,hz⟩:=I.tuple hq;obtain⟨u,hu,ru⟩:=rv.get hx;obtain⟨f0,f1,f2,f3,f4,f5⟩:=hf it (by simp);refine wpAny_pyNext_tuple_item st (show s.heap.IsTuple a its.toArray from p) (x:=u) (by simpa using hu) λh' Jo sb=>?_
  have I1:Inv X pins σ H {s with heap:=h' }:=I.turned (t':=s.toks) (λb o hb e=>(sb.2 b hb).trans e) f0 f1 f3 f4 f5;obtain⟨o,e,c,d⟩:=id Jo;exact⟨u,rfl,v9 (s:={s with heap:=h' }) e c d (by decide) ⟨x,H,I1,ru,⟨rfl,λys hy=>by rw[I.Kv hy hq];exact hx⟩,Jo,λb hb=>(hf b hb).1⟩⟩
 done:=by
  intro X hP hw hK hc i pins s σ H E I hf st hg;subst hP hw hK;obtain⟨xs,hq,hx⟩:=hg;obtain⟨its,rv,p,hz⟩:=I.tuple hq;obtain⟨f0,f1,f2,f3,f4,f5⟩:=hf it (by simp);have hl:=rv.length;exact wpAny_pyNext_tuple_end (I.ok.hd hc) st (show s.heap.IsTuple a its.toArray from p) (by simp;omega) λh' eb=>⟨rfl,I.turned (t':=s.toks) (λb o hb e=>eb b o hb e) f0 f1 f3 f4 f5⟩
 self:=λ_ _ _ _ _ st h=>wpAny_pyIter_tupleiter st h
end L2
namespace L2
open PySem PySem.Spec PyProof.Rows
variable {H:Hp}{fp:List ι}{pins:List (ι×na)}{s:θ}
section
variable {X:Cx}{tg:Expr}
def P6(wi:TI)(g:TG)(tb:TS):TS:=λD σ H=>wi σ H λJ H1=>∃W:Nat->Nat->St->Hp->Prop,(∃m,W 0 m σ H1)/\∀i m σ H,W i m σ H ->
 (J.stop i H/\D.nx σ H)\/(J.go i H/\∃N:St->Hp->Prop,(∀σ' H',N σ' H'->∃m',m'<m/\W (i+1) m' σ' H')/\∀x H',J.Nd i H x H'->g x σ H' λσ2 H2=>tb {D with nx:=N,ct:=N,bk:=D.nx} σ2 H2)
noncomputable def kX(fp:List ι)(h:Υ):List (ι×na):=fp.filterMap λb=>(h.get? b).map λo=>(b,o)
theorem eJ{h:Υ}{b:ι}{o:na}(hb:b∈fp)(e:h.get? b=ζ o):(b,o)∈kX fp h:=W0.mpr ⟨b,hb,by rw[e];rfl⟩
theorem vn{h:Υ}{p:ι×na}(hp:p∈kX fp h):p.1∈fp/\h.get? p.1=ζ p.2:=by
 obtain⟨b,hb,e⟩:=W0.mp hp;cases q:h.get? b with
 |none=>rw[q]at e;cases e
 |some o=>
  rw[q]at e;have e':(b,o)=p:=c6 e;subst e';exact⟨hb,q⟩
theorem Inv.pinned{σ:St}{fp:List ι}(I:Inv X pins σ H s)(hf:∀b∈fp,gX X pins H b)(ho:∀b∈fp,∃o,s.heap.get? b=ζ o/\∀v,o.data≠.cell v):Inv X (pins++kX fp s.heap) σ H s:=
 I.Kk λp hp=>(i9.mp hp).elim (λz=>I.pin p (ak _ z)) λz=>by
  obtain⟨hb,e⟩:=vn z;obtain⟨f0,f1,f2,_⟩:=hf p.1 hb;obtain⟨o,e',d⟩:=ho p.1 hb;rw[e]at e';cases e';exact⟨e,f0,f1,f2,d⟩
theorem Inv.IE{pl:List (ι×na)}{σ:St}(I:Inv X (pins++pl) σ H s):Inv X pins σ H s:=I.Kk λp hp=>I.pin p (ak _ (au _ hp))
theorem vT{wl:Expr}{body:List xL}{wi:TI}{g:TG}{tb:TS}{pos:W3}(hp:XI (Α X.prog X.w) X.A X.env X.xe)(hc:X.calm=δ)(hi:PI X tg wl wi)(hg:PG X tg g)(hb:gT X body tb)
  (hs:∀x,IN wl X.env x=pure x:=by intro _;rfl):PS X (.For tg wl body [] pos) (P6 wi g tb):=by
 intro pins s σ H D I h;refine wpAny_For (bT (hi pins s σ H _ I h) λv s1 h1=>bT h1 λNH s2 h2=>?_) hs;obtain⟨it,fp,tn,J,H2,e,I2,T,Ni,f2,W,⟨m0,w0⟩,turn⟩:=h2;subst e;have Kb:∀{H':Hp},(∀b∈fp,H' b=ε)->∀b∈fp,gX X pins H' b:=λhn b hb=>⟨hn b hb,(f2 b hb).2⟩
 refine codeAny_forLoop_any (λn s'=>∃i σ' H',Inv X pins σ' H' s'/\tn i s'.heap/\(∀b∈fp,H' b=ε)/\W i n σ' H') ?_ m0 ⟨0,σ,H2,I2,Ni,λb hb=>(f2 b hb).1,w0⟩;rintro n s3 ⟨i,σ3,H3,I3,Vq,Wq,w3⟩;rcases turn i n σ3 H3 w3 with⟨stop,qn⟩|⟨go,N,hN,step⟩
 .refine SC hp (bT (T.done X rfl rfl rfl hc i pins s3 σ3 H3 X.xe I3 (Kb Wq) Vq stop) λr s4 ⟨hr,I4⟩=>?_);subst hr;exact Ix ⟨σ3,H3,I4,qn⟩
 .refine SC hp (bT (T.item X rfl rfl rfl hc i pins s3 σ3 H3 X.xe I3 (Kb Wq) Vq go) λr s4 ⟨u,hr,h4⟩=>?_);subst hr;refine SC hp (bT h4 λ_ s5 ⟨x,H5,I5,r5,y5,MZ,Pq⟩=>?_);have I5':=I5.pinned (Kb Pq) (T.obj _ _ MZ);refine SC hp (bT (hg _ s5 σ3 H5 x u _ I5' r5 (step x H5 y5)) λ_ s6 ⟨σ6,H6,I6,q6⟩=>?_);refine SC hp (bT (hb _ s6 σ6 H6 _ I6 q6) λf s7 q7=>?_);have again:∀{σ7:St}{H7:Hp},Inv X (pins++kX fp s5.heap) σ7 H7 s7->N σ7 H7->∃m,m<n/\∃i σ' H',Inv X pins σ' H' s7/\tn i s7.heap/\(∀b∈fp,H' b=ε)/\W i m σ' H':=λ{σ7 H7} I7 n7=>by
   obtain⟨m',hm,w7⟩:=hN σ7 H7 n7;refine⟨m',hm,i+1,σ7,H7,I7.IE,T.keep _ _ _ MZ λb hb o e=>(I7.pin (b,o) (ak _ (ak _ (eJ hb e)))).1,λb hb=>?_,w7⟩;obtain⟨o,e,d⟩:=T.obj _ _ MZ b hb;exact(I7.pin (b,o) (ak _ (ak _ (eJ hb e)))).2.1
  cases f with
  |next=>obtain⟨σ7,H7,I7,n7⟩:=q7;exact again I7 n7
  |cont=>obtain⟨σ7,H7,I7,n7⟩:=q7;exact again I7 n7
  |brk=>obtain⟨σ7,H7,I7,q7⟩:=q7;exact⟨σ7,H7,I7.IE,q7⟩
  |ret v=>obtain⟨x7,σ7,H7,I7,r7,q7⟩:=q7;exact⟨x7,σ7,H7,I7.IE,r7,q7⟩
end
end L2
namespace L2
open PySem PySem.Spec PyProof.Rows
noncomputable abbrev R2:=V->V->Hp->VK->Prop
noncomputable def jc(X:Cx)(f:η->η->Ŗ η)(r:R2):Prop:=
 ∀(pins:List (ι×na)) (s:θ) (σ:St) (H:Hp) (x y:V) (v u:η) (Q:VK),Inv X pins σ H s->RelV x v->RelV y u->r x y H Q ->
  υ (Α X.prog X.w) X.A (f v u) (EP X pins σ Q) X.xe s
noncomputable def U3(X:Cx)(f:η->Ŗ η)(r:V->Hp->VK->Prop):Prop:=
 ∀(pins:List (ι×na)) (s:θ) (σ:St) (H:Hp) (x:V) (v:η) (Q:VK),Inv X pins σ H s->RelV x v->r x H Q ->
  υ (Α X.prog X.w) X.A (f v) (EP X pins σ Q) X.xe s
noncomputable def dH(X:Cx)(f:η)(r:List V->Hp->VK->Prop):Prop:=
 ∀(pins:List (ι×na)) (s:θ) (σ:St) (H:Hp) (xs:List V) (us:List η) (Q:VK),Inv X pins σ H s->aL xs us->r xs H Q ->
  υ (Α X.prog X.w) X.A (call f us) (EP X pins σ Q) X.xe s
noncomputable def U4(X:Cx)(r:V->Hp->(Bool->Hp->Prop)->Prop):Prop:=
 ∀(pins:List (ι×na)) (s:θ) (σ:St) (H:Hp) (x:V) (v:η) (Q:Bool->Hp->Prop),Inv X pins σ H s->RelV x v->r x H Q ->
  υ (Α X.prog X.w) X.A (ķ v) (TP X pins σ Q) X.xe s
def Gd(r:R2)(ta tb:TE):TE:=λσ H Q=>ta σ H λx H1=>tb σ H1 λy H2=>r x y H2 Q
def tUn(r:V->Hp->VK->Prop)(ta:TE):TE:=λσ H Q=>ta σ H λx H1=>r x H1 Q
noncomputable def rI(C:Int->Int->Prop)(g:Int->Int->V):R2:=λx y H Q=>∃i j,x=.int i/\y=.int j/\C i j/\Q (g i j) H
noncomputable def vQ(g:Int->Int->V):R2:=λx y H Q=>∃i j,x=.int i/\y=.int j/\Q (g i j) H
def rU(g:Int->V):V->Hp->VK->Prop:=λx H Q=>∃i,x=.int i/\Q (g i) H
variable {H:Hp}{f:η->η->Ŗ η}{g:Int->Int->Int}{pins:List (ι×na)}{r:R2}{s:θ}
section
variable {X:Cx}{a b c:Expr}{ta tb tc:TE}{pos:W3}
theorem CW(ha:PE X a ta)(hb:PE X b tb){σ:St}{R:V->V->Hp->Prop}(I:Inv X pins σ H s)
  (h:ta σ H λx H1=>tb σ H1 λy H2=>R x y H2) {Q:η->θ->Prop}
  (hf:∀v u s2 x y H2,Inv X pins σ H2 s2->RelV x v->RelV y u->R x y H2->υ (Α X.prog X.w) X.A (f v u) Q X.xe s2) :
  υ (Α X.prog X.w) X.A (eval a X.env) (λv s₁=>υ (Α X.prog X.w) X.A (eval b X.env) (λu s₂=>υ (Α X.prog X.w) X.A (f v u) Q X.xe s₂) X.xe s₁) X.xe s:=by
 refine bT (ha pins s σ H _ I h) λv s1 ⟨x,H1,I1,r1,q1⟩=>?_
 refine bT (hb pins s1 σ H1 _ I1 q1) λu s2 ⟨y,H2,I2,r2,q2⟩=>?_
 exact hf v u s2 x y H2 I2 r1 r2 q2
theorem Fo{op:FM}(ho:jc X (IR op) r)(ha:PE X a ta)(hb:PE X b tb):PE X (.BinOp a op b pos) (Gd r ta tb):=by
 intro pins s σ H Q I h;exact wpAny_BinOp (CW ha hb I h λv u s2 x y H2 I2 rx ry q=>ho pins s2 σ H2 x y v u Q I2 rx ry q)
theorem Hh{op:UnaryOp}{r:V->Hp->VK->Prop}(ho:U3 X (unaryOp op) r)(ha:PE X a ta):PE X (.UnaryOp op a pos) (tUn r ta):=by
 intro pins s σ H Q I h;exact UnaryOp_ (bT (ha pins s σ H _ I h) λv s1 ⟨x,H1,I1,r1,q1⟩=>ho pins s1 σ H1 x v Q I1 r1 q1)
theorem OU{C:Int->Int->Prop}
  (ö:∀(i j:Int) (t u:XY) (s:θ) (Q:η->θ->Prop) (E:η->θ->Prop),C i j->Q (.int (g i j) s.toks) {s with toks:=s.toks+1}->υ (Α X.prog X.w) X.A (f (.int i t) (.int j u)) Q E s) :
  jc X f (rI C λi j=>.int (g i j)):=by
 intro pins s σ H x y v u Q I rx ry h;obtain⟨i,j,rfl,rfl,hc,q⟩:=h;obtain⟨t,rfl⟩:=rx;obtain⟨t',rfl⟩:=ry;exact ö i j t t' s _ _ hc ⟨.int (g i j),H,I.tok _,⟨_,rfl⟩,q⟩
theorem uT 
  (ö:∀(i j:Int) (t u:XY) (s:θ) (Q:η->θ->Prop) (E:η->θ->Prop),Q (.int (g i j) s.toks) {s with toks:=s.toks+1}->υ (Α X.prog X.w) X.A (f (.int i t) (.int j u)) Q E s) :
  jc X f (vQ λi j=>.int (g i j)):=by
 intro pins s σ H x y v u Q I rx ry h;obtain⟨i,j,rfl,rfl,q⟩:=h;obtain⟨t,rfl⟩:=rx;obtain⟨t',rfl⟩:=ry;exact ö i j t t' s _ _ ⟨.int (g i j),H,I.tok _,⟨_,rfl⟩,q⟩
theorem Dx{g:Int->Int->Bool}
  (ö:∀(i j:Int) (t u:XY) (s:θ) (Q:η->θ->Prop) (E:η->θ->Prop),Q (.bool (g i j)) s->υ (Α X.prog X.w) X.A (f (.int i t) (.int j u)) Q E s) :
  jc X f (vQ λi j=>.bl (g i j)):=by
 intro pins s σ H x y v u Q I rx ry h;obtain⟨i,j,rfl,rfl,q⟩:=h;obtain⟨t,rfl⟩:=rx;obtain⟨t',rfl⟩:=ry;exact ö i j t t' s _ _ ⟨.bl (g i j),H,I,rfl,q⟩
def Ve(i j:Int):Prop:=0<j/\j<1073741824
def DZ(i j:Int):Prop:=(-(2 ^ 64)<i/\i<2 ^ 64)\/(-(2 ^ 64)<j/\j<2 ^ 64)
theorem DZ.ok{i j:Int}(h:DZ i j):IntMulOk i j:=by
 rcases h with⟨h1,h2⟩|⟨h1,h2⟩
 .exact .of_left (ŋ h1 h2)
 .exact .of_right (ŋ h1 h2)
theorem rZ(k:Nat):(0:Int)<=2 ^ k:=by
 rw[two_pow_cast];exact ij _
theorem EB:jc X (IR .Add) (vQ λi j=>.int (i+j)):=uT λ_ _ _ _ _ _ _ q=>add_int q
theorem Ef:jc X (IR .Sub) (vQ λi j=>.int (i-j)):=uT λ_ _ _ _ _ _ _ q=>sub_int q
theorem D0:jc X (IR .Mult) (rI DZ λi j=>.int (i*j)):=OU λ_ _ _ _ _ _ _ hc q=>mul_int q hc.ok
theorem Ap:jc X (IR .FloorDiv) (rI Ve λi j=>.int (i / j)):=OU λi j _ _ _ _ _ hc q=>by
 have h1:(0:Int)<j:=hc.1;have h2:j<1073741824:=hc.2;exact floordiv_int (by omega) (by rw[YO i (by omega)];exact q) (.inl (YQ (by omega)))
theorem DE:jc X (IR .Mod) (rI (λ_ j=>0<j) λi j=>.int (i%j)):=OU λi j _ _ _ _ _ hc q=>by
 have h1:(0:Int)<j:=hc;exact mod_int' (by omega) (by rw[Int.fmod_eq_emod_of_nonneg i (by omega)];exact q)
theorem De:jc X (IR .RShift) (rI (λ_ j=>0<=j) λi j=>.int (i / 2 ^ j.toNat)):=OU λi j _ _ _ _ _ hc q=>
 rshift_int hc (by rw[YO i (rZ _)];exact q)
theorem EE:jc X (IR .BitAnd) (vQ λi j=>.int (W1 i j)):=uT λ_ _ _ _ _ _ _ q=>and_int q
theorem Dh:jc X (IR .BitXor) (vQ λi j=>.int (Xj i j)):=uT λ_ _ _ _ _ _ _ q=>xor_int q
theorem AD:jc X (ZO .Add) (vQ λi j=>.int (i+j)):=uT λ_ _ _ _ _ _ _ q=>iadd_int q
theorem AJ:jc X (ZO .Sub) (vQ λi j=>.int (i-j)):=uT λ_ _ _ _ _ _ _ q=>isub_int q
theorem unI{f:η->Ŗ η}{g:Int->Int}
  (ö:∀(i:Int) (t:XY) (s:θ) (Q:η->θ->Prop) (E:η->θ->Prop),Q (.int (g i) s.toks) {s with toks:=s.toks+1}->υ (Α X.prog X.w) X.A (f (.int i t)) Q E s) :
  U3 X f (rU λi=>.int (g i)):=by
 intro pins s σ H x v Q I rx h;obtain⟨i,rfl,q⟩:=h;obtain⟨t,rfl⟩:=rx;exact ö i t s _ _ ⟨.int (g i),H,I.tok _,⟨_,rfl⟩,q⟩
theorem EK:U3 X (unaryOp .USub) (rU λi=>.int (-i)):=unI λ_ _ _ _ _ q=>neg_int q
end
variable {op:Ya}{us:List η}{x:V}
section
variable {X:Cx}{a b c:Expr}{ta tb tc:TE}{pos:W3}
theorem zb{σ:St}{Q:VK}{k k':Bool}(I:Inv X pins σ H s)(q:Q (.bl k) H)(e:k=k'):EP X pins σ Q (.bool k') s:=by
 subst e;exact⟨.bl k,H,I,rfl,q⟩
theorem Hk:jc X (wp .Lt) (vQ λi j=>.bl (decide (i<j))):=Dx λ_ _ _ _ _ _ _ q=>lt_int q
theorem FD:jc X (wp .Gt) (vQ λi j=>.bl (decide (j<i))):=Dx λ_ _ _ _ _ _ _ q=>gt_int q
theorem GW:jc X (wp .GtE) (vQ λi j=>.bl (decide (j<=i))):=Dx λ_ _ _ _ _ _ _ q=>ge_int q
theorem uK:jc X (wp .In) (λx y H Q=>∃i j,x=.str i/\y=.str j/\Q (.bl (!(xz j i 0 j.length 1).isEmpty)) H):=by
 intro pins s σ H x y v u Q I rx ry h;obtain⟨i,j,rfl,rfl,q⟩:=h;obtain⟨t,rfl⟩:=rx;obtain⟨t',rfl⟩:=ry;exact in_str (zb I q rfl)
theorem zZ:jc X (wp .IsNot) (λx y H Q=>y=.Ii/\Q (.bl (!decide (x=.Ii))) H):=by
 intro pins s σ H x y v u Q I rx ry h;obtain⟨rfl,q⟩:=h;cases ry;refine isnot_none_gen (zb I q ?_);cases x<;>first
  | (cases rx;rfl)
  | (obtain⟨t,rfl⟩:=rx;rfl)
theorem Ae(ho:jc X (wp op) r)(ha:PE X a ta)(hb:PE X b tb)(hm:At op b=γ):PE X (.Compare a [op] [b] pos) (Gd r ta tb):=by
 intro pins s σ H Q I h;exact Ķ (CW ha hb I h λv u s2 x y H2 I2 rx ry q=>ho pins s2 σ H2 x y v u Q I2 rx ry q) hm
def GK(t:TE):TT:=λσ H Q=>t σ H λx H'=>∃k,x=.bl k/\Q k H'
theorem BL(ho:jc X (wp op) r)(ha:PE X a ta)(hb:PE X b tb)(hm:At op b=γ):PT X (.Compare a [op] [b] pos) (GK (Gd r ta tb)):=by
 intro pins s σ H Q I h;refine ç (bT (ha pins s σ H _ I h) λv s1 ⟨x,H1,I1,r1,q1⟩=>bT (hb pins s1 σ H1 _ I1 q1) λu s2 ⟨y,H2,I2,r2,q2⟩=>
  bT (ho pins s2 σ H2 x y v u _ I2 r1 r2 q2) λc s3 ⟨z,H3,I3,r3,k,e,q3⟩=>?_) hm
 subst e;cases r3;exact rc ⟨H3,I3,q3⟩
noncomputable def CM(K:ψ)(x:V)(H:Hp)(k:Bool):Prop:=
 match x with
 |.Ii=>k=γ
 |.bl b=>k=b
 |.int i=>k=(i != 0)
 |.str y=>y.length<=Ζ/\k=((y.length:Int) != 0)
 |.Nb y=>y.size<=Ζ/\k=((y.size:Int) != 0)
 |.ref p=>(∃xs,jK K H p xs/\k = !xs.isEmpty)\/(∃xs,nz K H p xs/\k = !xs.isEmpty)\/∃kvs,H p=ζ (.dK kvs)/\k = !kvs.isEmpty
 |_=>False
theorem sk{κ:Type}{kvs:List (κ×V)}{vs:List (κ×η)}(r:KV kvs vs):(!vs.isEmpty) = !kvs.isEmpty:=by
 cases r<;>rfl
theorem mi{xs:List V}{its:List η}(r:aL xs its):(!its.toArray.isEmpty) = !xs.isEmpty:=by
 cases r<;>simp
theorem ji:(Ζ:Nat)<2 ^ 63:=by rw[wE];decide
theorem Dk:U4 X (λx H Q=>∃k,CM X.K x H k/\Q k H):=by
 intro pins s σ H x v Q I rx h;obtain⟨k,e,q⟩:=h;have hl:=ji;have hs:Ζ=16777216:=wE;cases x with
 |Ii=>
  cases rx;have e':k=γ:=e;subst e';exact truthy_none ⟨H,I,q⟩
 |bl b=>
  cases rx;have e':k=b:=e;subst e';exact rc ⟨H,I,q⟩
 |int i=>
  obtain⟨t,rfl⟩:=rx;have e':k=(i != 0):=e;subst e';exact PySem.P.truthy_int ⟨H,I,q⟩
 |str y=>
  obtain⟨t,rfl⟩:=rx;obtain⟨hy,e'⟩:y.length<=Ζ/\k=((y.length:Int) != 0):=e;subst e';exact PySem.P.truthy_str (by omega) ⟨H,I.tok _,q⟩
 |Nb y=>
  obtain⟨t,rfl⟩:=rx;obtain⟨hy,e'⟩:y.size<=Ζ/\k=((y.size:Int) != 0):=e;subst e';exact PySem.W.truthy_bytes (by omega) ⟨H,I.tok _,q⟩
 |ref p=>
  cases rx;have e':(∃xs,jK X.K H p xs/\k = !xs.isEmpty)\/(∃xs,nz X.K H p xs/\k = !xs.isEmpty)\/∃kvs,H p=ζ (.dK kvs)/\k = !kvs.isEmpty:=e;rcases e' with⟨xs,hx,e'⟩|⟨xs,hx,e'⟩|⟨kvs,hx,e'⟩
  .subst e';obtain⟨its,r,pl,hz⟩:=I.list hx;have hlen:=r.length;exact wpAny_truthy_list pl.isList (by simp only[aq];omega) ⟨H,I.tok _,by rw[mi r];exact q⟩
  .subst e';obtain⟨its,r,pl,hz⟩:=I.tuple hx;have hlen:=r.length;exact truthy_tuple pl (by simp only[aq];omega) ⟨H,I.tok _,by rw[mi r];exact q⟩
  .subst e';obtain⟨hz,hS,vs,r,m⟩:kvs.length<=Ζ/\(p==Ch)=γ/\∃vs,KV kvs vs/\s.heap.DictOf (aM X.prog X.w) p vs:=I.Ib p _ hx;have hlen:kvs.length=vs.length:=Xv r;exact wpAny_truthy_dict hS m (by omega) ⟨H,I.tok _,by rw[sk r];exact q⟩
 |_=>exact(show False from e).elim
theorem yW(ha:PE X a ta)(he:∀whole,Z8 a X.env whole=(do let v <- whole;Ą a.pos;Yi [v] (ķ v))) :
  PT X a (λσ H Q=>ta σ H λx H'=>∃k,CM X.K x H' k/\Q k H'):=by
 intro pins s σ H Q I h;exact ŗ (bT (ha pins s σ H _ I h) λv s1 ⟨x,H1,I1,r1,q1⟩=>Dk pins s1 σ H1 x v Q I1 r1 q1) (he _)
theorem sO:jc X (IR .Add) (λx y H Q=>∃i j,x=.str i/\y=.str j/\i.length+j.length<=Ζ/\Q (.str (i++j)) H):=by
 intro pins s σ H x y v u Q I rx ry h;obtain⟨i,j,rfl,rfl,hz,q⟩:=h;obtain⟨t,rfl⟩:=rx;obtain⟨t',rfl⟩:=ry;exact add_str (λt' tk=>⟨.str (i++j),H,I.tok _,⟨_,rfl⟩,q⟩) hz
theorem vals1(r:aL [x] us):∃u,us=[u]/\RelV x u:=by
 cases r with
 |cons r1 r2=>cases r2;exact⟨_,rfl,r1⟩
theorem vals2{y:V}(r:aL [x,y] us):∃u w',us=[u,w']/\RelV x u/\RelV y w':=by
 cases r with
 |cons r1 r2=>
  cases r2 with
  |cons r3 r4=>cases r4;exact⟨_,_,rfl,r1,r3⟩
theorem vk(hc:X.calm=δ):dH X (.builtin "min") (λxs H Q=>∃i j,xs=[.int i,.int j]/\Q (.int (if j<i then j else i)) H):=by
 intro pins s σ H xs us Q I r h;obtain⟨i,j,rfl,q⟩:=h;obtain⟨u,w',rfl,⟨t,rfl⟩,⟨t',rfl⟩⟩:=vals2 r;refine min_two_ints (I.ok.hd hc) λh' tk k=>⟨_,H,I.kept k,?_,q⟩
 by_cases hj:j<i
 .rw[if_pos hj,if_pos hj];exact⟨_,rfl⟩
 .rw[if_neg hj,if_neg hj];exact⟨_,rfl⟩
end
end L2
namespace L2
open PySem PySem.Spec PyProof.Rows
section
variable {prog:Ε}{w:Ξ}{A:Ρ}{E:η->θ->Prop}{s:θ}{K:ψ}{x dx C f:ι}{mA:Str->Option η}{name:Str}{v:η}
end
section
variable {P:Ε}{w:Ξ}{H H':Hp}{h h':Υ}{a C dx:ι}{fs fs':List (Str×V)}
end
section
variable {X:Cx}{pins:List (ι×na)}{σ:St}{H:Hp}{s:θ}{a C dx:ι}{fs:List (Str×V)}{f:Str}{v:V}{A:Ρ}{E:η->θ->Prop}
end
section
variable {X:Cx}{o e value:Expr}{f:Str}{pos pos' PU:W3}{ta tv:TE}
end
section
variable {X:Cx}{pins:List (ι×na)}{σ:St}{H:Hp}{s:θ}{A:Ρ}{E:η->θ->Prop}{Q:η->θ->Prop}{c:η}{b:Bool}
end
end L2
namespace L2
open PySem PySem.Spec PyProof.Rows
structure eF(k:Nat)(A:Ρ):Prop where
 hd:A.handled=ε
 dp:A.depth+5*k+5<wS
 un:A.units+16*k+200<W8
variable {A:Ρ}{k:Nat}
theorem eF.deeper(r:eF (k+1) A)(env:Yo):eF k (A.deeper env):=
 ⟨r.hd,by have:=r.dp;show A.depth+1+5*k+5<_;omega,by have:=r.un;show A.units+3+16*k+200<_;omega⟩
theorem eF.depth(r:eF k A):A.depth<wS:=by have:=r.dp;omega
theorem eF.units(r:eF k A):A.units+64<W8:=by have:=r.un;omega
def AO:TA:=λ_ H Q=>Q [] H
def uu(ta:TE)(tr:TA):TA:=λσ H Q=>ta σ H λx H1=>tr σ H1 λxs H2=>Q (x::xs) H2
section
variable {X:Cx}{e:Expr}{es:List Expr}{te:TE}{t:TA}{pos:W3}
theorem bS:PA X [] AO:=λ_ _ _ _ H Q I h=>W4 ⟨[],H,I,.nil,h⟩
theorem aI(ha:PE X e te)(hr:PA X es t)(hs:Δ (e::es) X.env=(γ,eval e X.env)::Δ es X.env:=by rfl):PA X (e::es) (uu te t):=by
 intro pos pins s σ H Q I h;rw[hs];show υ _ _ (Z9 ((γ,eval e X.env)::Fa pos (Δ es X.env))) _ _ s;refine KM (bT (ha pins s σ H _ I h) λu s1 ⟨x,H1,I1,r1,q1⟩=>?_);exact bT (hr pos pins s1 σ H1 _ I1 q1) λus s2 ⟨xs,H2,I2,r2,q2⟩=>⟨x::xs,H2,I2,.cons r1 r2,q2⟩
def PX(t:TA):TE:=λσ H Q=>t σ H λxs H1=>xs.length<=Ζ/\∀p,H1 p=ε->Q (.ref p) (upd H1 p (.tup xs))
def P1(t:TA):TE:=λσ H Q=>t σ H λxs H1=>xs.length<=Ζ/\∀p,H1 p=ε->Q (.ref p) (upd H1 p (.lst xs))
theorem EN{x1}(h:PA X es t):PE X (.Tuple es x1 pos) (PX t):=by
 intro pins s σ H Q I hq;refine wpAny_Tuple_spliced (bT (h pos pins s σ H _ I hq) λus s1 ⟨xs,H1,I1,r,z,q⟩=>⟨by rw[<-r.length];exact z,?_⟩);have hf:H1 s1.heap.objs.size=ε:=I1.Ib.fresh (ao _);refine⟨.ref s1.heap.objs.size,upd H1 s1.heap.objs.size (.tup xs),I1.laid (t':=s1.toks) (λb u e=>ξ _ e) (ao _) ?_,rfl,q _ hf⟩;exact⟨z,us,r,⟨_,Τ _ rfl,rfl,_,rfl⟩⟩
theorem wc(h:PA X es t):PE X (.List es pos) (P1 t):=by
 intro pins s σ H Q I hq;refine wpAny_List_spliced (bT (h pos pins s σ H _ I hq) λus s1 ⟨xs,H1,I1,r,z,q⟩=>⟨by rw[<-r.length];exact z,?_⟩);have hf:H1 s1.heap.objs.size=ε:=I1.Ib.fresh (ao _);refine⟨.ref s1.heap.objs.size,upd H1 s1.heap.objs.size (.lst xs),I1.laid (t':=s1.toks) (λb u e=>ξ _ e) (ao _) ?_,rfl,q _ hf⟩;exact⟨z,us,0,r,Τ _ rfl⟩
end
noncomputable abbrev Sp:=List V->Hp->VK->XK->Prop
noncomputable abbrev nU:=List Yo->Hp->θ->XK->η->θ->Prop
structure uX(P:Ε)(w:Ξ)(K:ψ)(mg:Str->Option η)(base:Υ)(A:Ρ)(outer:List Yo)(s:θ)(H:Hp):Prop where
 frames:A.frames=ζ outer
 mod:Mod K mg base
 bs:∀b o,base.get? b=ζ o->s.heap.get? b=ζ o/\H b=ε
 Ks:base.objs.size<=s.heap.objs.size
 IH:s.heap.FunFrames base outer
 KI:∀b∈cK outer,H b=ε
 Ib:gY P w H s.heap
 bare:WY s.gens
noncomputable def CE(outer:List Yo)(P:Ε)(w:Ξ)(H:Hp)(s:θ)(Q:VK)(u:η)(s':θ):Prop:=
 ∃v H',s'.os=s.os/\WY s'.gens/\Un (cK outer) [] H H' s.heap s'.heap/\gY P w H' s'.heap/\RelV v u/\Q v H'
noncomputable def CR(CX:nU)(outer:List Yo)(P:Ε)(w:Ξ)(H:Hp)(s:θ)(Q:VK)(E:XK)(r:Yu)(s':θ):Prop:=
 match r with
 |.ok (.ret u)=>CE outer P w H s Q u s'
 |.ok _=>False
 |.error e=>CX outer H s E e s'
structure kj(P:Ε)(w:Ξ)(K:ψ)(mg:Str->Option η)(base:Υ)(CX:nU)(k:Nat)(f:ι)(fd:sK)(ps:List Str)(sp:Sp):Prop where
 len:∀vs H Q E,sp vs H Q E->vs.length=ps.length
 run:∀(A:Ρ) (outer:List Yo) (s:θ) (H:Hp) (args:Args) (us:List η) (vs:List V) (Q:VK) (E:XK),eF k A->uX P w K mg base A outer s H->à s fd args (ps.zip us)->aL vs us->sp vs H Q E ->
  Pi (Α P w) A (.call (.ref f) args) (CR CX outer P w H s Q E) s
variable {Q:VK}
section
variable {X:Cx}{pins:List (ι×na)}{σ:St}{H:Hp}{s s':θ}
theorem Inv.env0(I:Inv X pins σ H s):uX X.prog X.w X.K X.mg X.base X.A X.stack s H:=
 ⟨I.ok.frames,I.ok.mod,I.bs,a8 I.ok.Ks I.sz,I.stack,I.IQ,I.Ib,I.bare⟩
theorem Inv.after{u:η}(I:Inv X pins σ H s)(h:CE X.stack X.prog X.w H s Q u s'):EP X pins σ Q u s':=by
 obtain⟨v,H',os,bare,un,Ib,r,q⟩:=h;obtain⟨hh,g,d,t,os'⟩:=s';obtain rfl:os'=s.os:=os;exact⟨v,H',I.call (h':=hh) (g':=g) (d':=d) (t':=t) (ch:=[]) un Ib bare (λb z=>absurd z (by simp)),r,q⟩
end
def we(sp:Sp)(Jl:List V)(E:XK)(t:TA):TE:=λσ H Q=>t σ H λvs H1=>sp (vs++Jl) H1 Q E
noncomputable def Binds(K:ψ)(fd:sK)(ps:List Str)(ds:List η):Prop:=
 ∀(s:θ) (us:List η),K.In s.heap->(us++ds).length=ps.length->à s fd ⟨us,[]⟩ (ps.zip (us++ds))
variable {ps:List Str}
theorem Binds.all{K:ψ}{fd:sK}(h:∀us:List η,us.length=ps.length->UF fd ⟨us,[]⟩=pure (ps.zip us)):Binds K fd ps []:=λs us _ hl=>by
 rw[bh]at hl ⊢;exact .of_eq (h us hl)
def iI(CX:nU)(X:Cx)(E:XK):Prop:=∀(pins:List (ι×na)) (σ:St) (H:Hp) (s:θ) (e:η) (s':θ),Inv X pins σ H s->CX X.stack H s E e s'->X.xe e s'
variable {H:Hp}{s:θ}{vs:List V}
section
variable {X:Cx}{CX:nU}{k:Nat}{f C:ι}{fd:sK}{ps:List Str}{sp:Sp}{Jl:List V}{ds:List η}{E:XK}{x m:Str}{p pos apos:W3}{e o:Expr}{es:List Expr}{ta:TE}{t:TA}
theorem zd{pins:List (ι×na)}{σ:St}{us:List η}(F:kj X.prog X.w X.K X.mg X.base CX k f fd ps sp)(hr:eF k X.A)(hb:Binds X.K fd ps ds)(hd:aL Jl ds)(hx:iI CX X E)
  (I:Inv X pins σ H s) (r:aL vs us) (h:sp (vs++Jl) H Q E):υ (Α X.prog X.w) X.A (call (.ref f) us) (EP X pins σ Q) X.xe s:=by
 have r2:aL (vs++Jl) (us++ds):=r.append hd;have hl:(us++ds).length=ps.length:=by rw[<-r2.length];exact F.len _ _ _ _ h
 refine UV (Xb (F.run X.A X.stack s H ⟨us,[]⟩ (us++ds) (vs++Jl) Q E hr I.env0 (hb s us I.Jd hl) r2 h) λr s' hq=>?_);cases r with
 |error e=>exact hx pins σ H s e s' I hq
 |ok fl=>
  cases fl with
  |ret u=>exact I.after hq
  |next=>exact Χ hq
  |brk=>exact Χ hq
  |cont=>exact Χ hq
theorem A3(F:kj X.prog X.w X.K X.mg X.base CX k f fd ps sp)(hr:eF k X.A)(hg:Gl X x)(hm:X.mg x=ζ (.ref f))(hk:Ο X.K (.ref f)=δ)(hb:Binds X.K fd ps ds)(hd:aL Jl ds)(hx:iI CX X E)
  (ha:PA X (e::es) t) (JT:(x==("__debug__" : Str))=γ:=by decide) (he:Δ (e::es) X.env=(γ,eval e X.env)::Δ es X.env:=by rfl) (IG:(Fa pos (Δ es X.env)).any (·.1)=γ:=by rfl) :
  PE X (.Call (.Name x p) (e::es) [] pos) (we sp Jl E t):=by
 intro pins s σ H Q I h;refine lw (cV I hg hm ?_ JT);refine dz (h₀:=X.base) I.ok.mod.Ik hk (bT (ha pos pins s σ H _ I h) λus s1 ⟨vs,H1,I1,r,q⟩=>⟨I1.Jd,?_⟩) he IG;exact zd F hr hb hd hx I1 r q
theorem wL(F:kj X.prog X.w X.K X.mg X.base CX k f fd ps sp)(hr:eF k X.A)(hg:Gl X x)(hm:X.mg x=ζ (.ref f))(hk:Ο X.K (.ref f)=δ)(hb:Binds X.K fd ps ds)(hd:aL Jl ds)(hx:iI CX X E)
  (JT:(x==("__debug__" : Str))=γ:=by decide):PE X (.Call (.Name x p) [] [] pos) (we sp Jl E AO):=by
 intro pins s σ H Q I h;refine lw (cV I hg hm ?_ JT);exact PySem.W.callWith_K0 I.Jd hk (zd (us:=[]) F hr hb hd hx I .nil h)
end
section
variable {X:Cx}{CX:nU}{k:Nat}{f C:ι}{fd:sK}{ps ks:List Str}{sp:Sp}{E:XK}{x m:Str}{p pos apos kpos:W3}{e o:Expr}{es:List Expr}{kws:List á}{te ta:TE}{t tk:TA}{nm:Option Str}
variable {g:List η->List η->List η}{gV:List V->List V->List V}
end
structure aW(N P:List Str)(sc:Db):Prop where
 kind:sc.kind=.function
 co:sc.isCoroutine=γ
 gen:sc.isGenerator=γ
 nd:N.Nodup
 pre:N.take P.length=P
 par:∀x∈P,sc.names.lookup x=ζ .local\/sc.names.lookup x=ζ .cell
 L8:∀y∈sc.names,y.2≠.free
variable {kindOf:Str->Option FS}{x:Str}
theorem mW:∀{binds:List (Str×η)}{m:Str->Option η},(∀v,(x,v)∉binds)->Y2 kindOf binds m x=m x
 |[],_,_=>rfl
 | (n,v)::r,m,h=>by
  unfold Y2;rw[mW λw hw=>h w (ae _ hw)];split
  .have:x≠n:=by rintro rfl;exact h v ah
   simp[this]
  .rfl
theorem nK:∀{binds:List (Str×η)}{m:Str->Option η},(∀v,(x,v)∉binds)->ZP kindOf binds m x=m x
 |[],_,_=>rfl
 | (n,v)::r,m,h=>by
  unfold ZP;rw[nK λw hw=>h w (ae _ hw)];split
  .rfl
  .have:x≠n:=by rintro rfl;exact h v ah
   simp[this]
variable {v:η}
theorem iV{kindOf:Str->Option FS}:∀{P:List Str}{vs:List η}{i:Nat}{m:Str->Option η},P.Nodup->P[i]? = ζ x->vs[i]? = ζ v->kindOf x=ζ .local ->
  Y2 kindOf (P.zip vs) m x=ζ v
 |[],_,_,_,_,h,_,_=>by simp at h
 |_::_,[],_,_,_,_,h,_=>by simp at h
 |p::P,w::vs,0,m,nd,h1,h2,hk=>by
  simp at h1 h2;subst h1;subst h2;show Y2 kindOf ((p,w)::P.zip vs) m p=_;unfold Y2;rw[mW λv hv=>(li.mp nd).1 (fm hv).1,if_pos hk];simp
 |p::P,w::vs,i+1,m,nd,h1,h2,hk=>by
  show Y2 kindOf ((p,w)::P.zip vs) m x=_;unfold Y2;exact iV (i:=i) (li.mp nd).2 (by simpa using h1) (by simpa using h2) hk
theorem nO:∀{P:List Str}{vs:List η}{i:Nat}{m:Str->Option η},P.Nodup->P[i]? = ζ x->vs[i]? = ζ v->kindOf x≠ζ .local ->
  ZP kindOf (P.zip vs) m x=ζ v
 |[],_,_,_,_,h,_,_=>by simp at h
 |_::_,[],_,_,_,_,h,_=>by simp at h
 |p::P,w::vs,0,m,nd,h1,h2,hk=>by
  simp at h1 h2;subst h1;subst h2;show ZP kindOf ((p,w)::P.zip vs) m p=_;unfold ZP;rw[nK λv hv=>(li.mp nd).1 (fm hv).1,if_neg hk];simp
 |p::P,w::vs,i+1,m,nd,h1,h2,hk=>by
  show ZP kindOf ((p,w)::P.zip vs) m x=_;unfold ZP;exact nO (i:=i) (li.mp nd).2 (by simpa using h1) (by simpa using h2) hk
noncomputable def start(N:List Str)(vs:List V):St:=vs.map ζ++π (N.length-vs.length) ε
noncomputable def aX(CX:nU)(P:Ε)(w:Ξ)(K:ψ)(mg:Str->Option η)(base:Υ)(N:List Str)(qual:Str)(scope:Db)(f:ι)(cd:η)(A:Ρ)(outer:List Yo)(s:θ)(H:Hp)(E:XK):Cx where
 prog:=P
 w:=w
 K:=K
 mg:=mg
 base:=base
 A:=A.deeper (im qual scope s.heap.objs.size f cd)
 N:=N
 s₀:=s
 H₀:=H
 env:=im qual scope s.heap.objs.size f cd
 outer:=outer
 stack:=im qual scope s.heap.objs.size f cd::outer
 ex:=[]
 calm:=δ
 fn:=λ_=>δ
 pn:=[]
 xe:=λe s'=>υ (Α P w) (A.deeper (im qual scope s.heap.objs.size f cd)) (leaving (im qual scope s.heap.objs.size f cd) e) (λ_ Qg=>CX outer H s E e Qg) (λe' Qg=>CX outer H s E e' Qg) s'
theorem qF{sc:Db}{n:Nat}(h:sc.names.lookup x=ζ .cell):∃c,(io n sc.names []).lookup x=ζ c:=by
 have q:=gv sc.names n [] (.inl h);exact Option.isSome_iff_exists.mp q
variable {CX:nU}{N:List Str}{P:Ε}{base:Υ}{f:ι}{mg:Str->Option η}{qual:Str}{scope:Db}{w:Ξ}
theorem jQ{K:ψ}{cd:η}{outer:List Yo}{s1:θ}{E:XK}{us:List η}
  (S:aW N ps scope) (hd:A.handled=ε) (e0:uX P w K mg base A outer s H) (hl:vs.length=ps.length) (r:aL vs us)
  (x:InCallC s s.heap.objs.size (Y2 (im qual scope s.heap.objs.size f cd).kindOf (ps.zip us) λ_=>ε) (io (s.heap.objs.size+1) scope.names []) (ZP (im qual scope s.heap.objs.size f cd).kindOf (ps.zip us) λ_=>ε) s1) :
  Inv (aX CX P w K mg base N qual scope f cd A outer s H E) [] (start N vs) H s1:=by
 have IG:ps.length<=N.length:=by have:=fk XO S.pre;rw[cn]at this;omega
 obtain⟨h1,tk,rfl,hk⟩:=x.done;have Nu:∀b:ι,b∉(aX CX P w K mg base N qual scope f cd A outer s H E).ex:=λb z=>absurd (show b∈([]:List ι)from z) (by simp)
 refine⟨⟨e0.mod,S.kind,rfl,rfl,ao _,λy z c h1 h2=>?_,λy hy=>?_,λy c _ h=>?_,λ_=>hd,Y8 e0.frames,.inr ⟨rfl,rfl⟩,λb z=>absurd z (Nu b),e0.bs,e0.Ks,λb _ _=>Nu b,λb z=>absurd z (Nu b),e0.IH,e0.KI⟩,
  rfl,e0.bare,Un.kept hk,⟨_,x.toInCall.ns,λi y v h1 h2 h3=>?_⟩,λy c h=>⟨_,x.cell y c h⟩,e0.Ib.fresh (ao _),λy c h=>?_,λp hp=>absurd (show p∈([]:List (ι×na))from hp) (by simp),e0.Ib.kept hk,?_⟩
 .exact ř x.apart (bw h1) (bw h2)
 .have hy:scope.names.lookup y=ζ .cell\/scope.names.lookup y=ζ .free:=hy;rcases hy with hy|hy
  .exact qF hy
  .exact absurd rfl (S.L8 _ (bw hy))
 .exact gx (x.above y c (bw h))
 .have hi:i<vs.length:=by
   unfold start at h2;by_cases hi:i<vs.length
   .exact hi
   .rw[am (by simpa using hi)]at h2;rw[u8]at h2;split at h2<;>cases h2
  have ha:vs[i]? = ζ v:=by
   unfold start at h2;rw[Ψ (by simpa using hi),τ]at h2;cases e:vs[i]? with
   |none=>rw[e]at h2;cases h2
   |some a=>rw[e]at h2;cases h2;rfl
  obtain⟨u,hu,rv⟩:=r.get ha;have hp:ps[i]? = ζ y:=by
   rw[<-S.pre,List.getElem?_take_of_lt (by omega)];exact h1
  have VM:ps.Nodup:=by rw[<-S.pre];exact S.nd.sublist (List.take_sublist _ _)
  refine⟨u,rv,?_⟩;rcases S.par y (Ι hp)with k|k
  .exact .inl ⟨k,iV VM hp hu k⟩
  .obtain⟨c,e⟩:=qF (n:=s.heap.objs.size+1) k;refine .inr ⟨.inl k,c,e,?_⟩;have q:=x.cell y c e;rw[nO VM hp hu (by show scope.names.lookup y≠_;rw[k];decide)]at q;exact q
 .exact e0.Ib.fresh (gx (x.above y c (bw h)))
 .unfold start;show _=N.length;rw[aw,aj,dg];omega
theorem E7{K:ψ}{name:Str}{params:Arguments}{body:List xL}{dV kV doc pm cdv ct oc:η}{an od:Option ι}
  {Kl:Array (Option η)}{sp:Sp}(lk:K.lookup f=ζ ⟨oc,od,.func (wT name qual params body scope dV kV doc pm an cdv ct),Kl⟩) (IT:Xk K cdv qual=δ) (S:aW N ps scope)
  (len:∀vs H Q E,sp vs H Q E->vs.length=ps.length)
  (IU:∀(A:Ρ) (outer:List Yo) (s:θ) (H:Hp) (vs:List V) (Q:VK) (E:XK),eF k (A.deeper (im qual scope s.heap.objs.size f cdv))->sp vs H Q E ->
   ∃t,gT (aX CX P w K mg base N qual scope f cdv A outer s H E) body t/\t {nx:=λ_ H'=>Q .Ii H',rt:=Q} (start N vs) H) :
  kj P w K mg base CX (k+1) f (wT name qual params body scope dV kV doc pm an cdv ct) ps sp:=by
 refine⟨len,λA outer s H args us vs Q E hr e0 hb r Kq=>?_⟩;have hl:=len _ _ _ _ Kq;have KX:K.In s.heap:=e0.mod.Ik.keeps λb o e=>(e0.bs b o e).1
 have lim:s.heap.NoLimit:=e0.mod.nolimit.keeps λb o e=>(e0.bs b o e).1
 have Jj:∀y∈ps.zip us,scope.names.lookup y.1=ζ .local\/(scope.names.lookup y.1=ζ .cell/\((io (s.heap.objs.size+1) scope.names []).lookup y.1).isSome=δ):=λ⟨n,v⟩ hy=>by
  rcases S.par n (fm hy).1 with q|q
  .exact .inl q
  .exact .inr ⟨q,gv _ _ _ (.inl q)⟩
 refine Xh hr.depth (KX _ _ lk) rfl S.co S.gen rfl (ic KX IT) (hb _ _ _ _ ?_);refine WF S.kind Jj λenv he s1 x=>?_
 subst he;refine⟨lim.keeps x.toInCall.keep,YE ?_⟩;obtain⟨t,ht,hq⟩:=IU A outer s H vs Q E (hr.deeper _) Kq;have I:Inv (aX CX P w K mg base N qual scope f cdv A outer s H E) [] (start N vs) H s1:=jQ S hr.hd e0 hl r x;refine Λ (ht [] s1 (start N vs) H _ I hq) (λfl s' hs=>?_) λe s' hs=>hs
 have fin:∀{σ':St}{H':Hp}{v:V}{u:η},Inv (aX CX P w K mg base N qual scope f cdv A outer s H E) [] σ' H' s'->RelV v u->Q v H'->CE outer P w H s Q u s' :=
  λ{σ' H' v u} J rv q=>⟨v,H',J.os,J.bare,J.base,J.Ib,rv,q⟩
 cases fl with
 |ret u=>
  obtain⟨v,σ',H',J,rv,q⟩:=hs;exact fin J rv q
 |next=>
  obtain⟨σ',H',J,q⟩:=hs;exact fin (v:=V.Ii) (u:=zn) J rfl q
 |brk=>
  obtain⟨_,_,_,q⟩:=hs;exact Χ q
 |cont=>
  obtain⟨_,_,_,q⟩:=hs;exact Χ q
end L2
namespace L2
open PySem PySem.Spec PyProof.Rows
section
variable {X:Cx}{x:Str}{p pos:W3}{e:Expr}{es:List Expr}{t:TA}{id T:String}{r:List V->Hp->VK->Prop}
def OO(r:List V->Hp->VK->Prop)(t:TA):TE:=λσ H Q=>t σ H λvs H1=>r vs H1 Q
theorem cG(hc:dH X (.builtin id) r)(hg:Gl X x)(hm:X.mg x=ε)(hv:Op x=ζ (.builtin id))(ha:PA X (e::es) t)(hn:x≠"__name__":=by decide) (JT:(x==("__debug__" : Str))=γ:=by decide)
  (he:Δ (e::es) X.env=(γ,eval e X.env)::Δ es X.env:=by rfl) (IG:(Fa pos (Δ es X.env)).any (·.1)=γ:=by rfl):PE X (.Call (.Name x p) (e::es) [] pos) (OO r t):=by
 intro pins s σ H Q I h;refine lw (gJ I hg hm hv ?_ hn JT);exact Ĥ (bT (ha pos pins s σ H _ I h) λus s1 ⟨vs,H1,I1,r1,q1⟩=>hc pins s1 σ H1 vs us Q I1 r1 q1) he IG
theorem vA(hc:dH X (.type T) r)(hg:Gl X x)(hm:X.mg x=ε)(hv:Op x=ζ (.type T))(ha:PA X (e::es) t)(hn:x≠"__name__":=by decide) (JT:(x==("__debug__" : Str))=γ:=by decide)
  (he:Δ (e::es) X.env=(γ,eval e X.env)::Δ es X.env:=by rfl) (IG:(Fa pos (Δ es X.env)).any (·.1)=γ:=by rfl):PE X (.Call (.Name x p) (e::es) [] pos) (OO r t):=by
 intro pins s σ H Q I h;refine lw (gJ I hg hm hv ?_ hn JT);exact de (bT (ha pos pins s σ H _ I h) λus s1 ⟨vs,H1,I1,r1,q1⟩=>hc pins s1 σ H1 vs us Q I1 r1 q1) he IG
end
end L2
namespace HT
open PySem PyProof.Rows
noncomputable def lexLt:List Int->List Int->Bool
 |[],[]=>γ
 |[],_::_=>δ
 |_::_,[]=>γ
 |x::xs,y::ys=>if x=y then lexLt xs ys else decide (x<y)
theorem la(x y:Int)(xs ys:List Int):lexLt (x::xs) (y::ys)=if x=y then lexLt xs ys else decide (x<y):=rfl
theorem mz:lexLt [] []=γ:=rfl
theorem lI(y:Int)(ys:List Int):lexLt [] (y::ys)=δ:=rfl
theorem mj(x:Int)(xs:List Int):lexLt (x::xs) []=γ:=rfl
theorem yq(A:Ρ)(s:θ)(a:Int)(t:XY)(c:Int)(u:XY):∃e,Zy A s (.int a t) (.int c u) e/\(e=δ↔a=c):=
 ⟨(a==c),Ō a t c u,by simp⟩
theorem zg(A:Ρ)(s:θ)(a:Int)(t:XY)(c:Int)(u:XY)(prog:Ε)(w:Ξ)(E:η->θ->Prop)(Q:η->θ->Prop)(h:Q (.bool (decide (a<c))) s) :
  υ (Α prog w) A (WP .Lt (.int a t) (.int c u)) Q E s:=
 (ĥ h:υ (Α prog w) A (wp .Lt (.int a t) (.int c u)) Q E s)
section
open PySem.SeqAt
open PySem.AutoSeq1 (wpAny_loadPart')
open PySem.MeetsSeq PySem.MeetsSeq2 PySem.MeetsSeq3
theorem mK(l b:ι)(items Iw:Array η)(n n2:Nat)(dd Ue:Option ι)(sl Qc:Array (Option η))(ns ms:List Int)(hi:On items.toList ns)(hj:On Iw.toList ms) :
  Meets (XC.«tuple.__lt__» ⟨[.ref l,.ref b],[]⟩)
   (λ_ R s=>s.heap.get? l=ζ {cls:=.type "tuple",dict:=dd,data:=.seq items n,slots:=sl}/\s.heap.get? b=ζ {cls:=.type "tuple",dict:=Ue,data:=.seq Iw n2,slots:=Qc} /\
    R (.ok (.ret (.bool (lexLt ns ms)))) s):=
 .of_wp λprog w A R s h=>by
  obtain⟨hp,g,d,tk,os⟩:=s;obtain⟨hl,hb,h⟩:=h;have f2:=Ţ;have z1:items.size=ns.length:=by rw[<-hi.length];simp
  have z2:Iw.size=ms.length:=by rw[<-hj.length];simp
  wp_walk using Ħ hl,Ħ hb,wpAny_forIn_list _ (λrest b s'=>b.1=ε/\s'=⟨hp,g,d,tk,os⟩/\∃(vs ws:List η) (KD M1:List Int),rest=vs.zip ws /\
   On vs KD/\On ws M1/\KD.length+Iw.size=M1.length+items.size/\R (.ok (.ret (.bool (lexLt KD M1)))) ⟨hp,g,d,tk,os⟩) _
  case turn=>
   rintro⟨y,x⟩ rest b s' ⟨Jz,rfl,vs,ws,KD,M1,hz,QW,Pb,hlen,hR⟩;cases QW with
   |nil=>rw[List.zip_nil_left]at hz;cases hz
   |cons a t QV=>
    cases Pb with
    |nil=>rw[List.zip_nil_right]at hz;cases hz
    |cons c u QU=>
     rw[X5]at hz;injection hz with hyx IC
     injection hyx with hy hx
     subst hy hx;rw[la]at hR;simp only[av]at hlen;obtain⟨e,he,NW⟩:=yq A.in1 ⟨hp,g,d,tk,os⟩ a t c u;refine ν (he prog w _ _ ?_);cases e with
     |true=>
      rw[if_pos (NW.mp rfl)]at hR
      wp_walk
      exact⟨rfl,rfl,_,_,_,_,IC,QV,QU,by omega,hR⟩
     |false=>
      rw[if_neg (λq=>absurd (NW.mpr q) bo)]at hR;have hri:=zg A.in1 ⟨hp,g,d,tk,os⟩ a t c u prog w
      wp_walk using hri
      exact⟨_,rfl,by simpa using hR⟩
  case fin=>
   rintro⟨b1,b2⟩ s' ⟨Jz,rfl,vs,ws,KD,M1,hz,QW,Pb,hlen,hR⟩;simp only at Jz;subst Jz;have hv:lexLt KD M1=decide (items.size<Iw.size):=by
    cases QW with
    |nil=>
     cases Pb with
     |nil=>
      simp only[du]at hlen;rw[mz];exact(bj (by omega)).symm
     |cons c u hw=>
      simp only[du,av]at hlen;rw[lI];exact(bt (by omega)).symm
    |cons a t hv=>
     cases Pb with
     |nil=>
      simp only[du,av]at hlen;rw[mj];exact(bj (by omega)).symm
     |cons c u hw=>
      rw[X5]at hz;cases hz
   rw[hv]at hR
   wp_walk
   exact⟨_,rfl,by simpa[Ĕ]using hR⟩
  case h=>
   exact⟨rfl,rfl,items.toList,Iw.toList,ns,ms,rfl,hi,hj,by omega,h⟩
end
section
variable {prog:Ε}{w:Ξ}{A:Ρ}{E:η->θ->Prop}{s:θ}
theorem rJ{l b:ι}{items Iw:Array η}{ns ms:List Int}{Q:η->θ->Prop}(hl:õ s.heap l items)(hb:õ s.heap b Iw)(hi:On items.toList ns)(hj:On Iw.toList ms)
  (hu:A.units<W8) (h:Q (.bool (lexLt ns ms)) s):υ (Α prog w) A (wp .Lt (.ref l) (.ref b)) Q E s:=by
 obtain⟨⟨cls,dd,data,sl⟩,ho,hc,n,hd⟩:=id hl;obtain⟨⟨cls2,Ue,data2,Qc⟩,Wd,N1,n2,hd2⟩:=id hb;simp only at hc hd N1 hd2;subst hc hd N1 hd2;exact richCompare_meets_room (op:=.Lt) ⟨_,ho,rfl⟩ ⟨_,Wd,rfl⟩ PySem.F.slot_tuple_lt PySem.F.entry_tuple_lt (PySem.F.args_tuple_lt_2 _ _) (mK l b items Iw n n2 dd Ue sl Qc ns ms hi hj)
  ⟨ho,Wd,show WW (lexLt ns ms)≠Value.notImplemented/\Q (.bool (lexLt ns ms)) s from⟨(λx=>nomatch x),h⟩⟩ hu
noncomputable def eO(n d:Nat):Option Int->Nat
 |none=>d
 |some v=>if v<0 then(v+(n:Int)).toNat else min v.toNat n
end
end HT
namespace L2
open PySem PySem.Spec PyProof.Rows
noncomputable abbrev TO:=St->Hp->(Option Int->Hp->Prop)->Prop
noncomputable def PO(X:Cx)(e:Option Expr)(t:TO):Prop:=
 ∀(pins:List (ι×na)) (s:θ) (σ:St) (H:Hp) (Q:Option Int->Hp->Prop),Inv X pins σ H s->t σ H Q ->
  υ (Α X.prog X.w) X.A (evalPart e X.env) (λu s'=>∃o H',Inv X pins σ H' s'/\ĸ u o/\Q o H') X.xe s
noncomputable def AE:TO:=λ_ H Q=>Q ε H
noncomputable def GL(t:TE):TO:=λσ H Q=>t σ H λx H1=>∃i,x=.int i/\Q (ζ i) H1
section
variable {X:Cx}{e:Expr}{te:TE}{lo hi:Option Expr}{tl th:TO}{pos p2:W3}
theorem AA:PO X ε AE:=by
 intro pins s σ H Q I h;rw[ō];exact Ν ⟨ε,H,I,.none,h⟩
theorem z7(h:PE X e te):PO X (ζ e) (GL te):=by
 intro pins s σ H Q I hw;rw[evalPart_some];refine bT (h pins s σ H _ I hw) λu s1 ⟨x,H1,I1,r1,q1⟩=>?_
 obtain⟨i,rfl,q⟩:=q1;obtain⟨t,rfl⟩:=r1;exact⟨ζ i,H1,I1,.int i t,q⟩
noncomputable def Dp(X:Cx)(r:V->Option Int->Option Int->Hp->VK->Prop):Prop:=
 ∀(pins:List (ι×na)) (s:θ) (σ:St) (H:Hp) (x:V) (v vl vu:η) (lo hi:Option Int) (sl:ι) (Q:VK),Inv X pins σ H s->RelV x v->s.heap.IsSliceOf sl vl vu .none->ĸ vl lo->ĸ vu hi->r x lo hi H Q ->
  ∃T id,Ps (.type T) "__getitem__" = pure (ζ (.builtin id))/\s.TypeIs v T/\υ (Α X.prog X.w) X.A (Ś v (.ref sl)) (EP X pins σ Q) X.xe s
theorem Dp.or{r r':V->Option Int->Option Int->Hp->VK->Prop}(h:Dp X r)(h':Dp X r'):Dp X (λx lo hi H Q=>r x lo hi H Q\/r' x lo hi H Q):=by
 intro pins s σ H x v vl vu lo hi sl Q I rx hs pl pu q;rcases q with q|q
 .exact h pins s σ H x v vl vu lo hi sl Q I rx hs pl pu q
 .exact h' pins s σ H x v vl vu lo hi sl Q I rx hs pl pu q
def tSl(r:V->Option Int->Option Int->Hp->VK->Prop)(te:TE)(tl th:TO):TE:=λσ H Q=>te σ H λx H1=>tl σ H1 λl H2=>th σ H2 λu H3=>r x l u H3 Q
theorem xg{r:V->Option Int->Option Int->Hp->VK->Prop}(hr:Dp X r)(he:PE X e te)(hl:PO X lo tl)(hu:PO X hi th):PE X (.Subscript e (.Slice lo hi ε p2) pos) (tSl r te tl th):=by
 intro pins s σ H Q I h;refine Subscript_ (bT (he pins s σ H _ I h) λv s1 ⟨x,H1,I1,r1,q1⟩=>?_);refine wpAny_Slice (bT (hl pins s1 σ H1 _ I1 q1) λvl s2 ⟨l,H2,I2,pl,q2⟩=>bT (hu pins s2 σ H2 _ I2 q2) λvu s3 ⟨u,H3,I3,pu,q3⟩=>?_);rw[ō];refine Ν ?_;have I4:Inv X pins σ H3 {s3 with heap:=s3.heap.push {cls:=.type "slice",data:=.fields #[vl,vu,.none]}}:=I3.kept (t':=s3.toks) λb ob q=>ξ _ q
 obtain⟨T,id,hT,ht,hg⟩:=hr pins {s3 with heap:=s3.heap.push {cls:=.type "slice",data:=.fields #[vl,vu,.none]}} σ H3 x v vl vu l u s3.heap.objs.size Q I4 r1 (Ć ..) pl pu q3;show υ (Α X.prog X.w) X.A (Ŏ e (.Slice lo hi ε p2) v (.ref s3.heap.objs.size)) (EP X pins σ Q) X.xe {s3 with heap:=s3.heap.push {cls:=.type "slice",data:=.fields #[vl,vu,.none]}};exact tail_any (ops:=[.ref s3.heap.objs.size,v]) ht hT hg (by with_unfolding_all rfl)
noncomputable def vF(xs:List V)(lo hi:Option Int):List V:=(xs.drop (HT.eO xs.length 0 lo)).take (HT.eO xs.length xs.length hi-HT.eO xs.length 0 lo)
theorem pU(xs:List V)(lo hi:Option Int):(vF xs lo hi).length<=xs.length:=by
 unfold vF;rw[cn,bp];omega
end
end L2
namespace L2
open PySem PySem.Spec PyProof.Rows
noncomputable def iZ(n:Nat)(i:Int):Option Nat:=if 0<=i then(if i<n then ζ i.toNat else ε)else if -(n:Int)<=i then ζ (i+n).toNat else ε
noncomputable def A8{α:Type}(xs:List α)(i:Int):Option α:=(iZ xs.length i).bind λj=>xs[j]?
variable {i:Int}{n:Nat}
theorem tT{j:Nat}(h:iZ n i=ζ j):seqIndex? i n=ζ j/\j<n/\-(n:Int)<=i/\i<n:=by
 unfold iZ at h;by_cases h0:0<=i
 .rw[if_pos h0]at h;by_cases h1:i<n
  .rw[if_pos h1]at h;have e:i.toNat=j:=c6 h;exact⟨by rw[ù h0 h1,e],by omega,by omega,h1⟩
  .rw[if_neg h1]at h;cases h
 .rw[if_neg h0]at h;by_cases h1 : -(n:Int)<=i
  .rw[if_pos h1]at h;have e:(i+n).toNat=j:=c6 h;exact⟨by rw[â (by omega) h1,e],by omega,h1,by omega⟩
  .rw[if_neg h1]at h;cases h
theorem oE{α:Type}{xs:List α}{v:α}(h:A8 xs i=ζ v):∃j,seqIndex? i xs.length=ζ j/\xs[j]? = ζ v/\j<xs.length/\-(xs.length:Int)<=i/\i<xs.length:=by
 unfold A8 at h;cases e:iZ xs.length i with
 |none=>rw[e]at h;cases h
 |some j=>
  rw[e]at h;obtain⟨h1,h2,h3,h4⟩:=tT e;exact⟨j,h1,h,h2,h3,h4⟩
def kA(b:Expr):Prop:=∀o i,ţ b γ o i=operate [o,i] (Ś o i)
noncomputable def zS(X:Cx)(r:R2):Prop:=
 ∀(value slice:Expr) (pins:List (ι×na)) (s:θ) (σ:St) (H:Hp) (x y:V) (v u:η) (Q:VK),Inv X pins σ H s->RelV x v->RelV y u->r x y H Q ->
  ţ slice γ v u=operate [v,u] (Ś v u)->υ (Α X.prog X.w) X.A (Ŏ value slice v u) (EP X pins σ Q) X.xe s
noncomputable def PF(X:Cx)(id:String)(r:V->List V->Hp->VK->Prop):Prop:=
 ∀(pins:List (ι×na)) (s:θ) (σ:St) (H:Hp) (x:V) (xs:List V) (v:η) (us:List η) (Q:VK),Inv X pins σ H s->RelV x v->aL xs us->r x xs H Q ->
  υ (Α X.prog X.w) X.A (call (.builtin id) (v::us)) (EP X pins σ Q) X.xe s
variable {H:Hp}{p:ι}{pins:List (ι×na)}{r:R2}{s:θ}{xs:List V}
section
variable {X:Cx}{a b:Expr}{ta tb:TE}{pos:W3}
theorem zS.or{r':R2}(h:zS X r)(h':zS X r'):zS X (λx y H Q=>r x y H Q\/r' x y H Q):=by
 intro value slice pins s σ H x y v u Q I rx ry q hs;rcases q with q|q
 .exact h value slice pins s σ H x y v u Q I rx ry q hs
 .exact h' value slice pins s σ H x y v u Q I rx ry q hs
theorem CF(hr:zS X r)(ha:PE X a ta)(hb:PE X b tb)(hs:kA b):PE X (.Subscript a b pos) (Gd r ta tb):=by
 intro pins s σ H Q I h;exact Subscript_ (CW ha hb I h λv u s2 x y H2 I2 rx ry q=>hr a b pins s2 σ H2 x y v u Q I2 rx ry q (hs _ _))
noncomputable def Qt(K:ψ):R2:=λx y H Q=>∃p xs i v,x=.ref p/\y=.int i/\jK K H p xs/\A8 xs i=ζ v/\Q v H
noncomputable def Qr(K:ψ):R2:=λx y H Q=>∃p xs i v,x=.ref p/\y=.int i/\nz K H p xs/\A8 xs i=ζ v/\Q v H
noncomputable def Qs:R2:=λx y H Q=>∃z i c,x=.str z/\y=.int i/\z.length<=Ζ/\A8 z.cps.toList i=ζ c/\Q (.str ⟨#[c]⟩) H
theorem tG:zS X (Qt X.K):=by
 intro value slice pins s σ H x y v u Q I rx ry h hs;obtain⟨p,xs,i,z,rfl,rfl,hq,he,q⟩:=h;cases rx;obtain⟨t,rfl⟩:=ry;obtain⟨its,r,pl,hz⟩:=I.list hq;obtain⟨j,h1,h2,h3,h4,h5⟩:=oE he;obtain⟨w,ew,Qh⟩:=r.get h2;have hl:=r.length;have hn:=ji;have fin:EP X pins σ Q w s:=⟨z,H,I,Qh,q⟩;by_cases h0:0<=i
 .have hj:i.toNat=j:=by
   rw[ù h0 h5]at h1;exact c6 h1
  exact item_listR pl.isList h0 (by omega) (by rw[hj];simpa using ew) fin hs
 .have hj:(i+(its.toArray.size:Int)).toNat=j:=by
   rw[â (by omega) h4]at h1;rw[aq,<-hl];exact c6 h1
  exact Xc (x:=w) pl.isList.typeIs ć.lookup
   (wpAny_getItem_list_neg (Q:=λr s'=>r=w/\EP X pins σ Q r s') pl.isList (by omega) (by rw[aq]<;>omega) (by omega) (by rw[hj];simpa using ew) ⟨rfl,fin⟩) hs
theorem xF:zS X (Qr X.K):=by
 intro value slice pins s σ H x y v u Q I rx ry h hs;obtain⟨p,xs,i,z,rfl,rfl,hq,he,q⟩:=h;cases rx;obtain⟨t,rfl⟩:=ry;obtain⟨its,r,pl,hz⟩:=I.tuple hq;obtain⟨j,h1,h2,h3,h4,h5⟩:=oE he;obtain⟨w,ew,Qh⟩:=r.get h2;have hl:=r.length;have hn:=ji;have fin:EP X pins σ Q w s:=⟨z,H,I,Qh,q⟩;exact Xc (x:=w) pl.typeIs slot_tuple_getitem.lookup
  (getItem_tuple (j:=j) (Q:=λr s'=>r=w/\EP X pins σ Q r s') pl (by omega) (by omega) (by rw[aq,<-hl];exact h1) (by simpa using ew) ⟨rfl,fin⟩) hs
theorem CY:zS X Qs:=by
 intro value slice pins s σ H x y v u Q I rx ry h hs;obtain⟨z,i,c,rfl,rfl,hz,he,q⟩:=h;obtain⟨t,rfl⟩:=rx;obtain⟨t',rfl⟩:=ry;obtain⟨j,h1,h2,h3,h4,h5⟩:=oE he;have hl:z.cps.toList.length=z.length:=by simp[Ĺ]
 rw[hl]at h1 h4 h5;have hn:=ji;exact tail_any (Zf s z t) slot_str_getitem.lookup (getItem_str (c:=c) (by
  have e1:decide (i < -(2 ^ 63:Int))=γ:=bj (by omega);have e2:decide (i ≥ 2 ^ 63)=γ:=bj (by omega);rw[e1,e2,Bool.or_false]) (by rw[h1];simpa using h2) ⟨.str ⟨#[c]⟩,H,I.tok _,⟨_,rfl⟩,q⟩) hs
theorem rq(its:List η)(n j:Nat)(u:η):Yd (·.setIfInBounds j u) {cls:=.type "list",data:=.seq its.toArray n}={cls:=.type "list",data:=.seq (its.set j u).toArray n}:=by
 simp[Yd]
theorem Inv.lst{σ:St}(I:Inv X pins σ H s)(h:H p=ζ (.lst xs)) :
  ∃(its:List η) (n:Nat),aL xs its/\s.heap.get? p=ζ {cls:=.type "list",data:=.seq its.toArray n}/\xs.length<=Ζ:=by
 obtain⟨z,its,n,r,e⟩:=I.Ib p _ h;exact⟨its,n,r,e,z⟩
theorem Inv.Me{σ:St}{ys:List V}{its its':List η}{n':Nat}{f:na->na}(I:Inv X pins σ H s)(h:H p=ζ (.lst xs))
  (ho:s.heap.get? p=ζ {cls:=.type "list",data:=.seq its.toArray n}) (hf:f {cls:=.type "list",data:=.seq its.toArray n}={cls:=.type "list",data:=.seq its'.toArray n' }) (r:aL ys its') (hz:ys.length<=Ζ) (t:Nat) :
  Inv X pins σ (upd H p (.lst ys)) {s with heap:=s.heap.update p f,toks:=t}:=by
 have e:(s.heap.update p f).get? p=ζ {cls:=.type "list",data:=.seq its'.toArray n' }:=by
  rw[f8 f ho (by rw[hf]<;>rfl),hf]
 refine I.write (x:=p) (e:=p) (by rw[h];trivial) (.inl rfl) (λb u hb q=>(Κ _ _ (cj hb)).trans q) ⟨_,e⟩ ?_;exact⟨hz,its',n',r,e⟩
def Cp:V->V->V->Hp->(Hp->Prop)->Prop:=λo i v H Q=>∃p xs k j,o=.ref p/\i=.int k/\H p=ζ (.lst xs)/\iZ xs.length k=ζ j/\Q (upd H p (.lst (xs.set j v)))
theorem set_list:Gz X Cp:=by
 intro pins s σ H o i v ov iv u Q I ro ri rv h;obtain⟨p,xs,k,j,rfl,rfl,hp,hj,q⟩:=h;cases ro;obtain⟨t,rfl⟩:=ri;obtain⟨its,n,r,ho,hz⟩:=I.lst hp;obtain⟨h1,h2,h3,h4⟩:=tT hj;have hl:=r.length;have hn:=ji;have I':Inv X pins σ (upd H p (.lst (xs.set j v))) {s with heap:=s.heap.update p (Yd (·.setIfInBounds j u))}:=
  I.Me hp ho (rq its n j u) (r.set rv j) (by rw[ba];exact hz) s.toks
 by_cases h0:0<=k
 .have hk:k.toNat=j:=by
   rw[ù h0 h4]at h1;exact c6 h1
  exact PySem.W.ki_setAt ho h0 (by omega) (by rw[aq,<-hl];exact h4) (by rw[hk];exact⟨_,I',q⟩)
 .have hk:(k+(its.toArray.size:Int)).toNat=j:=by
   rw[â (by omega) h3]at h1;rw[aq,<-hl];exact c6 h1
  exact PySem.W.ki_setBack ho (by omega) (by rw[aq,<-hl];exact h3) (by omega) (by rw[hk];exact⟨_,I',q⟩)
theorem oJ(lo hi:Option Int)(n:Nat):(Xq lo hi ε n).1=((HT.eO n 0 lo:Nat):Int)/\(Xq lo hi ε n).2.1=((HT.eO n n hi:Nat):Int)/\(Xq lo hi ε n).2.2=1:=by
 refine⟨?_,?_,rfl⟩
 .cases lo with
  |none=>simp[Xq,HT.eO]
  |some i=>
   simp only[Xq,HT.eO,ZQ,show(1:Int) > 0 by decide,if_true];by_cases h:i<0
   .simp only[h,if_true]<;>omega
   .simp only[h,if_false]<;>omega
 .cases hi with
  |none=>simp[Xq,HT.eO]
  |some i=>
   simp only[Xq,HT.eO,ZQ,show(1:Int) > 0 by decide,if_true];by_cases h:i<0
   .simp only[h,if_true]<;>omega
   .simp only[h,if_false]<;>omega
theorem mF(its:List η)(lo hi:Option Int):slicePick its.toArray lo hi ε=((its.drop (HT.eO its.length 0 lo)).take (HT.eO its.length its.length hi-HT.eO its.length 0 lo)).toArray:=by
 obtain⟨h1,h2,h3⟩:=oJ lo hi its.toArray.size;unfold slicePick;rw[h1,h2,h3];simp only[ĺ,pick_run,aq]<;>rfl
def Qq(K:ψ):V->Option Int->Option Int->Hp->VK->Prop:=λx lo hi H Q=>∃a xs,x=.ref a/\jK K H a xs/\∀p,H p=ε->Q (.ref p) (upd H p (.lst (vF xs lo hi)))
theorem AB:Dp X (Qq X.K):=by
 intro pins s σ H x v vl vu lo hi sl Q I rx hs pl pu h;obtain⟨a,xs,rfl,hx,q⟩:=h;cases rx;obtain⟨its,r,ht,hz⟩:=I.list hx;have hlen:=r.length;refine⟨"list",_,ć.lookup,ht.isList.typeIs,?_⟩;refine wpAny_getItem_list_slice ht.isList hs pl pu .none (by simp) ?_ (by rw[aq]<;>omega);rw[mF,<-hlen];refine⟨.ref s.heap.objs.size,_,I.laid (t':=s.toks) (o:=.lst (vF xs lo hi)) (λb ob q=>ξ _ q) (ao _) ?_,rfl,q _ (I.Ib.fresh (ao _))⟩;exact⟨a8 (pU xs lo hi) hz,_,0,(r.drop (HT.eO xs.length 0 lo)).take (HT.eO xs.length xs.length hi-HT.eO xs.length 0 lo),Τ _ rfl⟩
theorem og:jc X (wp .NotIn) (λx y H Q=>∃i j,x=.str i/\y=.str j/\Q (.bl (!(!(xz j i 0 j.length 1).isEmpty))) H):=by
 intro pins s σ H x y v u Q I rx ry h;obtain⟨i,j,rfl,rfl,q⟩:=h;obtain⟨t,rfl⟩:=rx;obtain⟨t',rfl⟩:=ry;exact notIn_str ⟨.bl _,H,I,rfl,q⟩
theorem ju:dH X (.builtin "len") (λxs H Q=>∃p ys,xs=[.ref p]/\(jK X.K H p ys\/nz X.K H p ys)/\Q (.int ys.length) H):=by
 intro pins s σ H xs us Q I r h;obtain⟨p,ys,rfl,hq,q⟩:=h;obtain⟨u,rfl,rx⟩:=vals1 r;cases rx;have hn:=ji;rcases hq with hq|hq
 .obtain⟨its,r',pl,hz⟩:=I.list hq;have hlen:=r'.length;exact Calls.call_len_list pl.isList (by simp only[aq]<;>omega) ⟨.int ys.length,H,I.tok _,⟨s.toks+1,by rw[aq,hlen]⟩,q⟩
 .obtain⟨its,r',pl,hz⟩:=I.tuple hq;have hlen:=r'.length;exact len_tuple pl (by simp only[aq]<;>omega) ⟨.int ys.length,H,I.tok _,⟨s.toks+1,by rw[aq,hlen]⟩,q⟩
theorem oM:dH X (.builtin "len") (λxs H Q=>∃z,xs=[.str z]/\z.length<=Ζ/\Q (.int z.length) H):=by
 intro pins s σ H xs us Q I r h;obtain⟨z,rfl,hz,q⟩:=h;obtain⟨u,rfl,t,rfl⟩:=vals1 r;have hn:=ji;exact len_str (by omega) ⟨.int z.length,H,I.tok _,⟨_,rfl⟩,q⟩
theorem jt:dH X (.type "list") (λxs H Q=>∃p ys,xs=[.ref p]/\(jK X.K H p ys\/nz X.K H p ys)/\∀l,H l=ε->Q (.ref l) (upd H l (.lst ys))):=by
 intro pins s σ H xs us Q I r h;obtain⟨p,ys,rfl,hq,q⟩:=h;obtain⟨u,rfl,rx⟩:=vals1 r;cases rx;have fin:∀(its:List η),aL ys its->ys.length<=Ζ->∀(h':Υ) (c':Nat),(∀b o',s.heap.get? b=ζ o'->h'.get? b=ζ o') ->
   h'.get? s.heap.objs.size=ζ {cls:=.type "list",dict:=ε,data:=.seq its.toArray c',slots:=#[]}->EP X pins σ Q (.ref s.heap.objs.size) {s with heap:=h' }:=λits r' hz h' c' kp e=>
  ⟨.ref s.heap.objs.size,_,I.laid (t':=s.toks) kp (ao _) (show bU X.prog X.w _ h' _ (.lst ys)from⟨hz,its,c',r',e⟩),rfl,q _ (I.Ib.fresh (ao _))⟩
 rcases hq with hq|hq
 .obtain⟨its,r',pl,hz⟩:=I.list hq;have hlen:=r'.length;obtain⟨o,ho,hc,n,hd⟩:=pl.isList;exact ŏ p (.inl rfl) ho hc hd (λh' c' kp e=>fin its r' hz h' c' kp e) (by simp only[aq]<;>omega)
 .obtain⟨its,r',pl,hz⟩:=I.tuple hq;have hlen:=r'.length;obtain⟨o,ho,hc,n,hd⟩:=pl;exact ŏ p (.inr rfl) ho hc hd (λh' c' kp e=>fin its r' hz h' c' kp e) (by simp only[aq]<;>omega)
def Vi(K:ψ)(T:String)(x:V)(H:Hp):Prop:=match x with
 |.str _=>T = "str"
 |.int _=>T = "int"
 |.ref p=>(T = "list"/\∃xs,jK K H p xs)\/(T = "tuple"/\∃o,K.lookup p=ζ o/\o.cls=.type "tuple"/\o.dict=ε) \/
   (T = "dict"/\((∃kvs,H p=ζ (.dK kvs))\/∃kvs,H p=ζ (.dT kvs)))\/(T = "set"/\∃S n,H p=ζ (.set S n))
 |_=>False
theorem C0{σ:St}{T:String}{x:V}{v:η}(I:Inv X pins σ H s)(r:RelV x v)(ty:Vi X.K T x H) :
  s.TypeIs v T/\∀a,v=.ref a->∃ob,s.heap.get? a=ζ ob/\ob.dict=ε:=by
 cases x with
 |str z=>
  obtain⟨t,rfl⟩:=r;cases(show T = "str" from ty);exact⟨Zf s z t,λ_ e=>nomatch e⟩
 |int i=>
  obtain⟨t,rfl⟩:=r;cases(show T = "int" from ty);exact⟨Zg s i t,λ_ e=>nomatch e⟩
 |ref p=>
  cases r;rcases ty with⟨rfl,xs,hq⟩|⟨rfl,o,hk,hc,hd⟩|⟨rfl,hk⟩|⟨rfl,S,n,hk⟩
  .obtain⟨its,_,pl,_⟩:=I.list hq;refine⟨pl.isList.typeIs,λa e=>?_⟩;cases e;obtain⟨o,n,e,c,hd,_⟩:=pl;exact⟨o,e,hd⟩
  .refine⟨⟨o,I.Jd p o hk,hc⟩,λa e=>?_⟩;cases e;exact⟨o,I.Jd _ o hk,hd⟩
  .have z:∃o,s.heap.get? p=ζ o/\o.ExactDict:=by
    rcases hk with⟨kvs,hk⟩|⟨kvs,hk⟩
    .obtain⟨_,_,_,_,o,_,_,e,ex,_⟩:=I.Ib p _ hk;exact⟨o,e,ex⟩
    .obtain⟨_,_,_,_,o,_,_,e,ex,_⟩:=I.Ib p _ hk;exact⟨o,e,ex⟩
   obtain⟨o,e,ex⟩:=z;refine⟨⟨o,e,ex.1⟩,λa e2=>?_⟩;cases e2;exact⟨o,e,ex.2.1⟩
  .obtain⟨o,_,_,_,e,ex,_⟩:=I.Ib p _ hk;refine⟨⟨o,e,ex.1⟩,λa e2=>?_⟩;cases e2;exact⟨o,e,ex.2.1⟩
 |_=>exact Χ ty
def OP(K:ψ)(T:String)(r:V->List V->Hp->VK->Prop)(to:TE)(t:TA):TE:=λσ H Q=>to σ H λx H1=>Vi K T x H1/\t σ H1 λxs H2=>r x xs H2 Q
variable {o e:Expr}{es:List Expr}{to:TE}{t:TA}{name:Str}{apos cpos:W3}{T id:String}{r:V->List V->Hp->VK->Prop}
theorem ze(pa:PlainAttrs T)(slot:Slot T name id)(Js:Ļ (.builtin id)=pure (.type "method_descriptor")) (hm:PF X id r) (ho:PE X o to) (ha:PA X (e::es) t)
  (JU:Zz o name X.env (eval o X.env)=eval o X.env:=by rfl)
  (RF:((Fa cpos (Δ (e::es) X.env)).all (λx=>!x.1)&&(backToKw cpos (keywordEach [] X.env)).all (λx=>x.1.isSome)
   && decide ((e::es).length+([]:List á).length+(if([]:List á).isEmpty then 0 else 1)<30))=δ:=by rfl)
  (KZ:(apos.endLine==cpos.line)=δ:=by rfl) (hs:Δ (e::es) X.env=(γ,eval e X.env)::Δ es X.env:=by rfl) (Mo:(Fa cpos (Δ es X.env)).any (·.1)=γ:=by rfl) :
  PE X (.Call (.Attribute o name apos) (e::es) [] cpos) (OP X.K T r to t):=by
 intro pins s σ H Q I h;refine wpAny_Call_method_late JU RF KZ rfl (bT (ho pins s σ H _ I h) λv s1 ⟨x,H1,I1,r1,ty,q1⟩=>?_);obtain⟨h1,h2⟩:=C0 I1 r1 ty;refine⟨T,id,pa,slot,Js,h1,h2,?_⟩;have hA:=ha cpos pins s1 σ H1 _ I1 q1;rw[hs]at hA ⊢;refine Calls.callWith_builtin (by show(γ || (Fa cpos (Δ es X.env)).any (·.1))=γ;rw[Mo]<;>rfl) (XJ ?_);exact bT hA λus s2 ⟨vs,H2,I2,r2,q2⟩=>hm pins s2 σ H2 x vs v us Q I2 r1 r2 q2
end
end L2
namespace L2
open PySem PySem.Spec PyProof.Rows
noncomputable def PH(X:Cx)(id:String)(r:V->List V->Hp->VK->Prop):Prop:=
 ∀(pins:List (ι×na)) (s:θ) (σ:St) (H:Hp) (x:V) (xs:List V) (v:η) (us:List η) (Q:VK),Inv X pins σ H s->RelV x v->aL xs us->r x xs H Q ->
  υ (Α X.prog X.w) X.A (call (.builtin id) (v::us)) (EP X pins σ Q) X.xe s
theorem aL.one:∀{x:V}{us:List η},aL [x] us->∃u,us=[u]/\RelV x u:=by
 intro x us h;cases h with
 |cons r t=>cases t;exact⟨_,rfl,r⟩
theorem aL.two:∀{x y:V}{us:List η},aL [x,y] us->∃u v,us=[u,v]/\RelV x u/\RelV y v:=by
 intro x y us h;cases h with
 |cons r t=>
  obtain⟨v,rfl,q⟩:=aL.one t;exact⟨_,v,rfl,r,q⟩
theorem aL.rep{xs:List V}{us:List η}(h:aL xs us):∀k:Nat,aL (π k xs).flatten (π k us).flatten
 |0=>.nil
 |k+1=>by
  rw[bq,bq,cg,cg];exact aL.append h (aL.rep h k)
theorem foldl_rep(its:List η):∀(k:Nat) (acc:List η),
  ZR (λx1 x2=>x1++x2) acc.toArray (π k its.toArray)=(acc++(π k its).flatten).toArray
 |0,acc=>by simp
 |k+1,acc=>by
  have e:acc.toArray++its.toArray=(acc++its).toArray:=by simp
  have e2:(acc++its)++(π k its).flatten=acc++(π (k+1) its).flatten:=by
   rw[bq,cg,gy]
  rw[<-e2,<-foldl_rep its k (acc++its),<-e,bq,Yw]
variable {n:Nat}
section
variable {X:Cx}{pins:List (ι×na)}{σ:St}{H:Hp}{s:θ}{l b:ι}{xs ys zs:List V}
theorem Inv.ND{its its':List η}{f:Array η->Array η}{t':Nat}(I:Inv X pins σ H s)(hH:H l=ζ (.lst xs))
  (e:s.heap.get? l=ζ {cls:=.type "list",data:=.seq its.toArray n}) (hf:f its.toArray=its'.toArray) (hv:aL ys its') (hz:ys.length<=Ζ) :
  Inv X pins σ (upd H l (.lst ys)) {s with heap:=s.heap.update l (Yd f),toks:=t' }:=by
 have q:=ś e f;rw[hf]at q;refine I.write (x:=l) (e:=l) (by rw[hH];exact trivial) (.inl rfl) (λb' u hb hu=>(Κ s.heap (Yd f) (cj hb)).trans hu) ⟨_,q⟩ ?_;exact⟨hz,its',_,hv,q⟩
theorem Inv.Mg{its:List η}{t':Nat}(I:Inv X pins σ H s)(hv:aL ys its)(hz:ys.length<=Ζ) :
  Inv X pins σ (upd H s.heap.objs.size (.lst ys)) {s with heap:=s.heap.push {cls:=.type "list",data:=.seq its.toArray},toks:=t' }:=
 I.laid (λ_ _ q=>ξ _ q) (ao _) ⟨hz,its,0,hv,Τ _ rfl⟩
theorem Inv.fresh(I:Inv X pins σ H s):H s.heap.objs.size=ε:=I.Ib.fresh (ao _)
theorem Inv.NC(I:Inv X pins σ H s)(hH:H l=ζ (.lst xs)):xs.length<=Ζ/\∃(its:List η) (n:Nat),aL xs its/\xs.length=its.length/\s.heap.get? l=ζ {cls:=.type "list",data:=.seq its.toArray n}:=by
 obtain⟨z,its,n,r,e⟩:=I.Ib l _ hH;exact⟨z,its,n,r,r.length,e⟩
theorem pI(h:n<=Ζ):Re n=γ:=by
 unfold Re;exact bj (by omega)
end
section
variable {X:Cx}
def AW:V->List V->Hp->VK->Prop:=λx vs H Q=>∃l xs y,x=.ref l/\vs=[y]/\H l=ζ (.lst xs)/\xs.length<Ζ/\Q .Ii (upd H l (.lst (xs ++ [y])))
theorem nF:PH X "list.append" AW:=by
 intro pins s σ H x vs v us Q I rx rv h;obtain⟨l,xs,y,rfl,rfl,hH,hz,q⟩:=h;cases rx;obtain⟨u,rfl,ru⟩:=rv.one;obtain⟨z,its,n,r,hl,e⟩:=I.NC hH;refine Zh F.slot_list_append ⟨_,e,rfl⟩ F.entry_list_append (F.args_list_append_2 _ _) (PySem.list_append l its.toArray n u (by rw[aq];omega)) ⟨e,?_⟩;refine⟨.Ii,_,I.ND (its':=its ++ [u]) hH e (by simp) (r.append (.cons ru .nil)) ?_,rfl,q⟩;rw[aw,jb];omega
theorem len_rep{α:Type}(xs:List α)(k:Nat):(π k xs).flatten.length=k*xs.length:=by
 induction k with
 |zero=>simp
 |succ k ih=>rw[bq,cg,aw,ih,Nat.succ_mul,fh]
end
section
variable {prog:Ε}{w:Ξ}{A:Ρ}{E:η->θ->Prop}{s:θ}
end
section
variable {X:Cx}
end
end L2
namespace Att
open PySem PySem.W PySem.Calls PyProof.Rows
variable {P:Yr}
theorem kq{h:Υ}:∀(ns:List Int) (vs:List η),WellAll P h vs (ns.map ħ)->On vs ns:=by
 intro ns
 induction ns with
 |nil=>
  intro vs w;rw[g9]at w;cases w;exact .nil
 |cons n ns ih=>
  intro vs w;rw[a9]at w;cases w with
  |cons a b=>
   cases a;exact .cons _ _ (ih _ b)
variable {l:OpenLaw}{n:Nat}
theorem vL(hn:l.most=ζ n){h:Υ}{args:List WData}{vals:List η}
  (Lu:l.row.toRowW.claim.pre args=δ) (QT:WellAll P h vals args) :
  ∃a vs ns,vals=[Μ a]/\args=[WData.list (ns.map ħ)]/\h.get? a=ζ {cls:=.type "list",data:=.seq vs.toArray}/\On vs ns/\ns.length<=n:=by
 have hsh:WShape.hasAll [] args [.list .int]=δ:=(pre_splitW Lu).1;have hc:l.pre.holds [] {args:=args}=δ:=(pre_splitW Lu).2;obtain⟨d,r,rfl,h1,h2⟩:=hasAllW_cons hsh;obtain rfl:=hasAllW_nil h2;obtain⟨xs,rfl,h3⟩:=hasW_list h1;obtain⟨ns,rfl⟩:=items_int h3;have hlen:ns.length<=n:=by
  unfold OpenLaw.pre at hc;have h4:(WTm.not (.lt (.lit (.int (n:Int))) (.len (.arg 0)))).holds [] {args:=[.list (ns.map .int)]}=δ:=by
   have h4:=(holds_andW hc).1;rw[hn]at h4;exact h4
  have h5:=condW_of h4 (w_not (w_lt w_lit (w_len_list (w_arg rfl))));rw[aj]at h5;refine dw λq=>?_
  have q':(n:Int)<((ns.length:Nat):Int):=by omega
  first
   | (rw[bt q']at h5;exact absurd h5 (by decide))
   | (simp at h5;omega)
 cases QT with
 |cons w1 w2=>
  cases w2;cases w1 with
  |list ho Mz=>exact⟨_,_,ns,rfl,rfl,ho,kq ns _ Mz,hlen⟩
theorem uU(l:OpenLaw)(args:List WData):l.row.toRowW.claim.post args (.bool δ) args=δ:=
 postW_of (r:=l.row.toRowW) (X:=(δ==δ))
  (show Ĉ [] (.bool δ) .bool=δ by first|rfl|decide|simp[Ĉ,WShape.arms,WShape.armsAll])
  (show(WTm.eq .res (.lit (.bool δ))).value [] {args:=args,res:=ζ (.bool δ),after:=args}=ζ (.bool (δ==δ))from w_eq_bool (w_res rfl) w_lit) rfl
theorem pJ{q:Ε}{loose:List Str}{XP:(Str->Option η)->Υ->Prop}{YP:Ξ->Υ->Prop}{d:DefRec}
  (hn:l.most=ζ n) (N0:d.params.defaults=[])
  (call:∀(w:Ξ) (s₀ s₁:θ) (mg mb:Str->Option η) (fa:ι) (o:na) (pm cd doc:η) (a:ι) (vs:List η) (ns:List Int),
   Ground q loose [] XP w s₀ mg mb s₁.heap->YP w s₁.heap ->
   s₁.heap.get? fa=ζ o->o.data=.func (docDef d.name d.params d.body d.scope pm cd doc)->s₁.heap.CodeRec cd d.name->mg d.name=ζ (.ref fa) ->
   s₁.heap.get? a=ζ {cls:=.type "list",data:=.seq vs.toArray}->On vs ns->ns.length<=n->s₁.gens = #[] ->
   Pi (Α l.prog w) Yj (.call (.ref fa) ⟨[.ref a],[]⟩) (λr s'=>r=.ok (.ret (.bool δ))/\OldK s₁.heap s'.heap/\s'.os=s₁.os/\WY s'.gens) s₁) :
  WalkO q loose XP YP l.row.toRowW d [] (λf vs=>ZA f vs):=by
 intro w s₀ s₁ mg mb G Y fa o pm cd doc dV kV ho hd IT hD Ro hg args vals as Lu hlay hrd QT hlo;obtain rfl:dV=.none:=Dflts.none hD N0;obtain rfl:kV=.none:=Dflts.noKw hD;obtain⟨a,vs,ns,rfl,rfl,Mp,hints,hlen⟩:=vL hn Lu QT;refine enter_call (Xb (call w s₀ s₁ mg mb fa o pm cd doc a vs ns G Y ho (fd_plain hd) IT Ro Mp hints hlen hg) λr s' hq=>?_);obtain⟨rfl,h2,h3,h4⟩:=hq;exact⟨.inl ⟨.bool δ,.bool δ,[],rfl,λ_=>rfl,.bool δ,uU l _,λ_=>⟨YL,λ_ hm=>(nomatch hm)⟩⟩,h2,h3,h4⟩
variable {L:ι}
section
variable {prog:Ε}{w:Ξ}{A:Ρ}{E:η->θ->Prop}{s:θ}{K:Frag}
noncomputable def oj(h:Υ):Υ:={h with objs:=#[]}
theorem lD(h:Υ)(b:ι):(oj h).get? b=ε:=by
 cases e:(oj h).get? b with
 |none=>rfl
 |some o=>exact absurd (ρ e) (i8 _)
noncomputable def ledger(h:Υ)(L d:ι):List (ι×na):=(bv h.objs.size).filterMap λa=>if a=L\/a=d then ε else(h.get? a).map λo=>(a,o)
theorem gE{h:Υ}{d a:ι}{o:na}:(a,o)∈ledger h L d↔a≠L/\a≠d/\h.get? a=ζ o:=by
 unfold ledger;rw[W0];constructor
 .rintro⟨b,_,e⟩;split at e
  .cases e
  .rename_i hb;obtain⟨o',ho,e'⟩:=aa.mp e;cases e';exact⟨λq=>hb (.inl q),λq=>hb (.inr q),ho⟩
 .rintro⟨n1,n2,ho⟩;refine⟨a,Tk.mpr (ρ ho),?_⟩;rw[if_neg (show¬ (a=L\/a=d) fromλq=>q.elim n1 n2),ho]<;>rfl
theorem C7{h:Υ}{m:Str->Option η}(n:h.Ns L m):Fr (oj h) L h m:=
 ⟨n,λb o e=>(by rw[lD]at e;cases e),cf _⟩
end
end Att
namespace L2
open PySem PySem.Spec PyProof.Rows
theorem mU:∀{vs:List η}{ns:List Int},On vs ns->aL (ns.map V.int) vs
 |_,_,.nil=>.nil
 |_,_,.cons n t h=>.cons ⟨t,rfl⟩ (mU h)
def CV(H:Hp):Prop:=∀b,H b=ε\/∃o xs,H b=ζ (.JA o (.lst xs))
theorem zm{P:Ε}{w:Ξ}{K:ψ}{mg mb:Str->Option η}{CX:nU}{k:Nat}{fa a:ι}{fd:sK}{x:Str}{sp:Sp}{s₁:θ}{vs:List η}{ns:List Int}
  (KX:K.In s₁.heap) (Ky:s₁.heap.Ns bn mg) (hb:s₁.heap.Ns Zc mb) (hbb:∀x:Str,x≠"__name__"->mb x=Op x) (LA:s₁.heap.NoLimit) (hg:s₁.gens = #[])
  (ha:s₁.heap.get? a=ζ {cls:=.type "list",data:=.seq vs.toArray}) (hi:On vs ns) (hl:ns.length<=Ζ) (hr:eF k Yj)
  (F:∀base:Υ,K.In base->base.Ns bn mg->kj P w K mg base CX k fa fd [x] sp) (N5:∀(s:θ) (u:η),à s fd ⟨[u],[]⟩ [(x,u)])
  (Kq:∀H:Hp,CV H->jK K H a (ns.map V.int)->sp [.ref a] H (λv _=>v=.bl δ) λ_ _ _=>False)
  (RT:∀H e s',CX [] H s₁ (λ_ _ _=>False) e s'->False) :
  Pi (Α P w) Yj (.call (.ref fa) ⟨[.ref a],[]⟩) (λr s'=>r=.ok (.ret (.bool δ))/\OldK s₁.heap s'.heap/\s'.os=s₁.os/\WY s'.gens) s₁:=by
 have rv:=mU hi;have QH:=hi.length;have core:∀H:Hp,CV H->jK K H a (ns.map V.int)->gY P w H s₁.heap->(∀b,H b≠ε->b=a)->(H a≠ε->K.lookup a=ε) ->
   Pi (Α P w) Yj (.call (.ref fa) ⟨[.ref a],[]⟩) (λr s'=>r=.ok (.ret (.bool δ))/\OldK s₁.heap s'.heap/\s'.os=s₁.os/\WY s'.gens) s₁:=by
  intro H hO hS Ib hA hK;have Kt:∀{b:ι}{o:na},s₁.heap.get? b=ζ o->H b=ε->(pF s₁.heap H).get? b=ζ o:=λe n=>yG e n
  have Nu:∀{b:ι}{o:na}{es:Array AT}{ep:Nat},s₁.heap.get? b=ζ o->o.data=.dict es ep->H b=ε:=λ{b o es ep} e d=>by
   cases q:H b with
   |none=>rfl
   |some u=>
    have e':b=a:=hA b (by rw[q];simp);subst e';rw[ha]at e;cases e;have d':Data.seq vs.toArray _=Į es ep:=d;cases d'
  have OW:∀{b:ι}{m:Str->Option η},s₁.heap.Ns b m->(pF s₁.heap H).Ns b m:=λ{b m} ⟨o,es,ep,e,d,r⟩=>⟨o,es,ep,Kt e (Nu e d),d,r⟩
  have Wl:K.In (pF s₁.heap H):=λb o e=>Kt (KX b o e) (by
   cases q:H b with
   |none=>rfl
   |some u=>
    have e':b=a:=hA b (by rw[q];simp);subst e';rw[hK (by rw[q];simp)]at e;cases e)
  have hM:Mod K mg (pF s₁.heap H):=⟨Wl,OW Ky,⟨mb,OW hb,hbb⟩,let ⟨mc,h1,h2⟩:=LA;⟨mc,OW h1,h2⟩⟩;have e0:uX P w K mg (pF s₁.heap H) Yj [] s₁ H:=⟨rfl,hM,λb o e=>Av e,i6 (vj _ _),trivial,λb hb=>absurd (show b∈([]:List ι)from hb) (by simp),Ib,.of_eq hg⟩;refine Xb ((F _ Wl (OW Ky)).run Yj [] s₁ H ⟨[.ref a],[]⟩ [.ref a] [.ref a] _ _ hr e0 (N5 s₁ (.ref a)) (.cons rfl .nil) (Kq H hO hS)) λr s' h=>?_
  cases r with
  |error e=>exact(RT H e s' h).elim
  |ok fl=>
   cases fl with
   |next=>exact Χ h
   |brk=>exact Χ h
   |cont=>exact Χ h
   |ret u=>
    obtain⟨v,H',os,bare,un,Rj,r',q⟩:=h;have q':v=.bl δ:=q;subst q';obtain rfl:u=WW δ:=r';refine⟨rfl,OldK.of_keep λb o e=>?_,os,bare⟩;cases q:H b with
    |none=>exact un.keep b o e q (by intro z;exact absurd (show b∈([]:List ι)from z) (by simp)) (by simp)
    |some u=>
     rcases hO b with z|⟨ob,xs,z⟩
     .rw[q]at z;cases z
     .have z2:=un.IV b ob _ z;obtain⟨e1,_⟩:=Ib b _ z;obtain⟨e2,_⟩:=Rj b _ z2;rw[e]at e1;cases e1;exact e2
 cases hk:K.lookup a with
 |some o=>
  have e:=KX a o hk;rw[ha]at e;cases e;refine core (λ_=>ε) (λ_=>.inl rfl) (.inr ⟨_,vs.toArray,_,hk,rfl,rfl,rfl,by rw[aq,QH];exact hl,by simpa using rv⟩) (λb u z=>by have z':(ε:Option HO)=ζ u:=z;cases z') (λb z=>absurd rfl z) λz=>absurd rfl z
 |none=>
  refine core (λb=>if b=a then ζ (.JA {cls:=.type "list",data:=.seq vs.toArray} (.lst (ns.map V.int)))else ε) (λb=>?_) (.inl (.inr ⟨{cls:=.type "list",data:=.seq vs.toArray},if_pos rfl⟩)) (λb u z=>?_) (λb z=>?_) λ_=>hk
  .by_cases hb:b=a
   .exact .inr ⟨_,_,if_pos hb⟩
   .exact .inl (if_neg hb)
  .by_cases hb:b=a
   .have z':=(if_pos hb).symm.trans z;cases z';subst hb;exact⟨ha,by rw[aj];exact hl,vs,_,rv,ha⟩
   .have z':=(if_neg hb).symm.trans z;cases z'
  .by_cases hb:b=a
   .exact hb
   .exact absurd (if_neg hb) z
end L2
namespace L2
open PySem PySem.Spec PyProof.Rows
theorem Br{l:ZS}{n k:Nat}{q:Ε}{loose:List Str}{XP:(Str->Option η)->Υ->Prop}{YP:Ξ->Υ->Prop}{d:DefRec}{K:Yr->ψ}{CX:Ξ->nU}{sp:Ξ->Sp}{x:Str}
  (hn:l.most=ζ n) (Pj:n<=Ζ) (N0:d.params.defaults=[]) (hr:eF k Yj)
  (hY:∀(w:Ξ) (h:Υ),YP w h->(K w.params).In h)
  (F:∀(w:Ξ) (mg:Str->Option η) (fa:ι) (h:Υ),(K w.params).In h->h.Ns bn mg->mg d.name=ζ (.ref fa) ->
   ∃fd:sK,(∀(s:θ) (u:η),à s fd ⟨[u],[]⟩ [(x,u)]) /\
    ∀base:Υ,(K w.params).In base->base.Ns bn mg->kj l.prog w (K w.params) mg base (CX w) k fa fd [x] (sp w))
  (Kq:∀(w:Ξ) (H:Hp) (a:ι) (ns:List Int),ns.length<=n->CV H->jK (K w.params) H a (ns.map V.int)->sp w [.ref a] H (λv _=>v=.bl δ) λ_ _ _=>False)
  (RT:∀(w:Ξ) (H:Hp) (s:θ) (e:η) (s':θ),CX w [] H s (λ_ _ _=>False) e s'->False) :
  è q loose XP YP l.row.toRowW d [] (λf vs=>ZA f vs):=by
 refine Att.pJ hn N0 λw s₀ s₁ mg mb fa o pm cd doc a vs ns G Y ho hd IT Ro Mp hints hlen hg=>?_
 have KX:=hY w _ Y;obtain⟨fd,hb,hF⟩:=F w mg fa _ KX G.T.g Ro;exact zm KX G.T.g G.T.b G.T.builtins G.T.nolimit hg Mp hints (a8 hlen Pj) hr hF hb (λH hO hS=>Kq w H a ns hlen hO hS) λH e s'=>RT w H s₁ e s'
end L2
namespace L2
open PySem PySem.Spec PyProof.Rows
noncomputable abbrev pG:nU:=λ_ _ _ _ _ _=>False
noncomputable abbrev E0:XK:=λ_ _ _=>False
variable {X:Cx}
theorem B4:iI pG X E0:=λ_ _ _ _ _ _ _ h=>h.elim
structure lY(K:ψ)(x qual:Str)(st:xL)(f:ι)(fd:sK):Prop where
 ex:∃(oc:η) (od:Option ι) (kV doc pm:η) (an:Option ι) (cdv ct:η) (Kl:Array (Option η)),
  fd=wT x qual (dF st) (aV st) (aB st) .none kV doc pm an cdv ct/\K.lookup f=ζ ⟨oc,od,.func fd,Kl⟩/\Xk K cdv qual=δ
 kp:Ο K (.ref f)=δ
variable {f:ι}{fd:sK}{ps:List Str}{qual x:Str}{st:xL}
section
variable {P:Ε}{w:Ξ}{K:ψ}{mg:Str->Option η}{base:Υ}
theorem lY.ok{N:List Str}{k:Nat}{sp:Sp}(F:lY K x qual st f fd)(S:aW N ps (aB st))(len:∀vs H Q E,sp vs H Q E->vs.length=ps.length)
  (IU:∀(cdv:η) (A:Ρ) (outer:List Yo) (s:θ) (H:Hp) (vs:List V) (Q:VK) (E:XK),eF k (A.deeper (im qual (aB st) s.heap.objs.size f cdv))->sp vs H Q E ->
   ∃t,gT (aX pG P w K mg base N qual (aB st) f cdv A outer s H E).IL (aV st) t/\t {nx:=λ_ H'=>Q .Ii H',rt:=Q} (start N vs) H):kj P w K mg base pG (k+1) f fd ps sp:=by
 obtain⟨oc,od,kV,doc,pm,an,cdv,ct,Kl,rfl,lk,IT⟩:=F.ex;refine E7 lk IT S len λA outer s H vs Q E hr Kq=>?_
 obtain⟨t,h,q⟩:=IU cdv A outer s H vs Q E hr Kq;exact⟨t,h.IL,q⟩
theorem lY.binds(F:lY K x qual st f fd)
  (h:∀(kV doc pm:η) (an:Option ι) (cdv ct:η) (us:List η),us.length=ps.length->UF (wT x qual (dF st) (aV st) (aB st) .none kV doc pm an cdv ct) ⟨us,[]⟩=pure (ps.zip us)):Binds K fd ps []:=by
 obtain⟨oc,od,kV,doc,pm,an,cdv,ct,Kl,rfl,lk,IT⟩:=F.ex;exact .all (h kV doc pm an cdv ct)
theorem Ds{st:xL}{oc:η}{od an:Option ι}{Kl:Array (Option η)}{kV doc pm cdv ct:η}(l:K.lookup f=ζ ⟨oc,od,.func (wT x qual (dF st) (aV st) (aB st) .none kV doc pm an cdv ct),Kl⟩)
  (c:Xk K cdv qual=δ) (k:Ο K (.ref f)=δ):lY K x qual st f (wT x qual (dF st) (aV st) (aB st) .none kV doc pm an cdv ct):=⟨⟨oc,od,kV,doc,pm,an,cdv,ct,Kl,rfl,l,c⟩,k⟩
end
variable {pos:W3}
section
variable {X:Cx}
theorem pv(i:Nat)(hN:X.N[i]? = ζ x:=by rfl)(hv:zU X.env.scope x:=by first|exact Or.inl rfl|exact ĉ (Or.inl rfl)|exact ĉ (ĉ rfl))(hd:(x==("__debug__" : Str))=γ:=by decide)
  (IT:(x==("__classdict__" : Str))=γ:=by decide):PE X (.Name x pos) (qy i):=oN hN hv hd IT
end
def aG(H H':Hp):Prop:=∀b o,H b=ζ o->H' b=ζ o
theorem aG.refl(H:Hp):aG H H:=λ_ _ h=>h
variable {H:Hp}
theorem aG.trans{H1 H2:Hp}(a:aG H H1)(b:aG H1 H2):aG H H2:=λc o h=>b c o (a c o h)
variable {u:η}{y:V}
section
variable {κ:Type}[DecidableEq κ]
noncomputable def pe(kvs:List (κ×V))(k:κ):Option V:=(kvs.find? λkv=>decide (kv.1=k)).map (·.2)
noncomputable def putK(kvs:List (κ×V))(k:κ)(v:V):List (κ×V):=
 if(kvs.any λkv=>decide (kv.1=k))=δ then kvs.map (λkv=>if kv.1=k then(kv.1,v)else kv)else kvs ++ [(k,v)]
theorem jI{p:κ×V}{r:List (κ×V)}{k:κ}(e:p.1=k):pe (p::r) k=ζ p.2:=by simp[pe,Go,e]
theorem jH{p:κ×V}{r:List (κ×V)}{k:κ}(e:¬ p.1=k):pe (p::r) k=pe r k:=by simp[pe,Go,e]
theorem lq(k:κ):∀kvs:List (κ×V),(kvs.any λkv=>decide (kv.1=k))=(pe kvs k).isSome
 |[]=>rfl
 |p::r=>by
  rw[iu];by_cases e:p.1=k
  .simp only[jI e,decide_eq_true e,Bool.true_or,Zq]
  .rw[jH e,bj e,Ù];exact lq k r
theorem iE(kvs:List (κ×V))(k:κ)(v:V):(putK kvs k v).length<=kvs.length+1:=by
 unfold putK;split
 .rw[aj];omega
 .rw[aw,av,du];omega
theorem uP.Jw{o:Option V}{u:Option η}(r:uP o u):o.isSome=u.isSome:=by
 cases o with
 |none=>cases u with
  |none=>rfl
  |some _=>exact(show False from r).elim
 |some _=>cases u with
  |none=>exact(show False from r).elim
  |some _=>rfl
theorem KV.val{kvs:List (κ×V)}{vs:List (κ×η)}(r:KV kvs vs)(k:κ):uP (pe kvs k) (KB vs k):=by
 unfold KV at r
 induction r with
 |nil=>exact Xr
 |@cons p q ps qs h t ih=>
  obtain⟨h1,h2⟩:=h;by_cases e:p.1=k
  .have e':q.1=k:=h1.symm.trans e;have b:KB (q::qs) k=ζ q.2:=by simp[KB,Go,e']
   rw[jI e,b];exact h2
  .have e':¬ q.1=k:=λz=>e (h1.trans z)
   have b:KB (q::qs) k=KB qs k:=by simp[KB,Go,e']
   rw[jH e,b];exact ih
theorem KV.any{kvs:List (κ×V)}{vs:List (κ×η)}(r:KV kvs vs)(k:κ):(kvs.any λkv=>decide (kv.1=k))=vs.any λkv=>decide (kv.1=k):=by
 unfold KV at r
 induction r with
 |nil=>rfl
 |cons h t ih=>rw[iu,iu,ih,h.1]
theorem KV.L5{kvs:List (κ×V)}{vs:List (κ×η)}(r:KV kvs vs)(k:κ)(ry:RelV y u) :
  KV (kvs.map λkv=>if kv.1=k then(kv.1,y)else kv) (vs.map λkv=>if kv.1=k then(kv.1,u)else kv):=by
 unfold KV at r ⊢
 induction r with
 |nil=>exact .nil
 |@cons p q ps qs h t ih=>
  rw[a9,a9];refine .cons ?_ ih;obtain⟨h1,h2⟩:=h;by_cases e:p.1=k
  .rw[if_pos e,if_pos (h1.symm.trans e)];exact⟨h1,ry⟩
  .rw[if_neg e,if_neg (λz=>e (h1.trans z))];exact⟨h1,h2⟩
theorem KV.put{kvs:List (κ×V)}{vs:List (κ×η)}(r:KV kvs vs)(k:κ)(ry:RelV y u):KV (putK kvs k y) (stored vs k u):=by
 unfold putK stored;rw[r.any k];by_cases e:(vs.any λkv=>decide (kv.1=k))=δ
 .rw[if_pos e,if_pos e];exact r.L5 k ry
 .rw[if_neg e,if_neg e];exact Ú r ⟨rfl,ry⟩
theorem KV.length{kvs:List (κ×V)}{vs:List (κ×η)}(r:KV kvs vs):kvs.length=vs.length:=Xv r
end
variable {P:Ε}{w:Ξ}
theorem zq{k:Key}(r:RelV (kV k) u):(aM P w).is k u=δ:=by
 cases k with
 |inl i=>obtain⟨t,e⟩:=(show∃t,u=Ω i t from r);subst e;exact eS P w i t
 |inr x=>obtain⟨t,e⟩:=(show∃t,u=Xy x t from r);subst e;exact iF P w x t
theorem jP:∀{ks:List Key}{us:List η},aL (ks.map kV) us->ItemsAre (aM P w) ks us
 |[],_,r=>by rw[g9]at r;cases r;exact .nil
 |k::ks,_,r=>by
  rw[a9]at r;cases r with
  |cons h t=>exact .cons (zq h) (jP t)
noncomputable abbrev KT(H:Hp):List (List Key×V)->List (List Key×ι×η)->Prop:=X9 λp q=>p.1=q.1/\H q.2.1=ζ (.tup (p.1.map kV))/\RelV p.2 q.2.2
variable {kvs:List (List Key×V)}{xs:List (List Key×ι×η)}
theorem KT.val(r:KT H kvs xs)(k:List Key):uP (pe kvs k) ((Zi xs k).map (·.2)):=by
 induction r with
 |nil=>exact Xr
 |@cons p q ps qs h t ih=>
  obtain⟨h1,_,h2⟩:=h;by_cases e:p.1=k
  .have e':q.1=k:=h1.symm.trans e;have b:Zi (q::qs) k=ζ q.2:=by simp[Zi,Go,e']
   rw[jI e,b];exact h2
  .have e':¬ q.1=k:=λz=>e (h1.trans z)
   have b:Zi (q::qs) k=Zi qs k:=by simp[Zi,Go,e']
   rw[jH e,b];exact ih
theorem KT.L5(r:KT H kvs xs)(k:List Key)(ry:RelV y u) :
  KT H (kvs.map λkv=>if kv.1=k then(kv.1,y)else kv) (xs.map (putAt k u)):=by
 induction r with
 |nil=>exact .nil
 |@cons p q ps qs h t ih=>
  rw[a9,a9];refine .cons ?_ ih;obtain⟨h1,h2,h3⟩:=h;unfold putAt;by_cases e:p.1=k
  .rw[if_pos e,if_pos (h1.symm.trans e)];exact⟨h1,h2,ry⟩
  .rw[if_neg e,if_neg (λz=>e (h1.trans z))];exact⟨h1,h2,h3⟩
variable {b:ι}
theorem KT.put(r:KT H kvs xs)(k:List Key)(hb:H b=ζ (.tup (k.map kV)))(ry:RelV y u) :
  KT H (putK kvs k y) (storedH xs k b u):=by
 have e:(kvs.any λkv=>decide (kv.1=k))=(Zi xs k).isSome:=by
  rw[lq,(r.val k).Jw,ZB]
 unfold putK storedH;rw[e];by_cases q:(Zi xs k).isSome=δ
 .rw[if_pos q,if_pos q];exact r.L5 k ry
 .rw[if_neg q,if_neg q];exact Ú r ⟨rfl,hb,ry⟩
variable {H':Hp}
theorem KT.keeps(r:KT H kvs xs)(ht:∀b ys,H b=ζ (.tup ys)->H' b=ζ (.tup ys)):KT H' kvs xs:=
 Paired.Mb r λ_ _ z=>⟨z.1,ht _ _ z.2.1,z.2.2⟩
section
variable {P:Ε}{w:Ξ}{H:Hp}{h:Υ}{a:ι}
theorem Cs{u:HO}(ok:gY P w H h)(e:Rd H a u):bU P w H h a u:=e.ok ok
theorem tY{kvs:List (Key×V)}(ok:gY P w H h)(e:Rd H a (.dK kvs)):kvs.length<=Ζ/\(a==Ch)=γ/\∃vs,KV kvs vs/\h.DictOf (aM P w) a vs:=
 show bU P w H h a (.dK kvs)from Cs ok e
theorem yk{kvs:List (Key×V)}(ok:gY P w H h)(e:H a=ζ (.dK kvs)):kvs.length<=Ζ/\(a==Ch)=γ/\∃vs,KV kvs vs/\h.DictOf (aM P w) a vs:=tY ok (.inl e)
theorem vZ{ks:List Key}(ok:gY P w H h)(e:H a=ζ (.tup (ks.map kV))):(Xi (aM P w)).is h ks a:=by
 obtain⟨_,its,r,o,h1,h2,n,h3⟩:=(show bU P w H h a (.tup (ks.map kV))from ok a _ e);exact⟨o,its.toArray,n,h1,h2,h3,by simpa using jP r⟩
theorem xV(ok:gY P w H h)(e:Rd H a (.dT kvs)):kvs.length<=Ζ/\(a==Ch)=γ /\
  ∃xs,KT H kvs xs/\h.DictOfH (Xi (aM P w)) a xs:=by
 obtain⟨z,y,xs,r,o,es,ep,h1,h2,h3,h4,h5⟩:=(show bU P w H h a (.dT kvs)from Cs ok e);refine⟨z,y,xs,r,o,es,ep,h1,h2,h3,h4,λx hx=>?_,h5⟩;have all:∀{l:List (List Key×V)}{m:List (List Key×ι×η)},KT H l m->∀x∈m,(Xi (aM P w)).is h x.1 x.2.1:=by
  intro l m q
  induction q with
  |nil=>intro x hx;exact nomatch hx
  |@cons p q ps qs hq t ih=>
   intro x hx;rcases c9.mp hx with e|hx
   .subst e;exact vZ ok (by rw[<-hq.1];exact hq.2.1)
   .exact ih x hx
 exact all r x hx
theorem Fw(ok:gY P w H h)(e:H a=ζ (.dT kvs)):kvs.length<=Ζ/\(a==Ch)=γ /\
  ∃xs,KT H kvs xs/\h.DictOfH (Xi (aM P w)) a xs:=xV ok (.inl e)
end
noncomputable def mI(H:Hp)(a:ι)(y v:V)(H':Hp):Prop:=
 (∃kvs k,H a=ζ (.dK kvs)/\y=kV k/\kvs.length<Ζ/\H'=upd H a (.dK (putK kvs k v))) \/
 ∃kvs k b,H a=ζ (.dT kvs)/\y=.ref b/\H b=ζ (.tup (k.map kV))/\kvs.length<Ζ/\H'=upd H a (.dT (putK kvs k v))
variable {a:ι}
theorem mI.k{kvs:List (Key×V)}{k:Key}{v:V}(e:H a=ζ (.dK kvs))(hl:kvs.length<Ζ):mI H a (kV k) v (upd H a (.dK (putK kvs k v))):=.inl ⟨kvs,k,e,rfl,hl,rfl⟩
theorem mI.t{kvs:List (List Key×V)}{k:List Key}{v:V}(e:H a=ζ (.dT kvs))(eb:H b=ζ (.tup (k.map kV)))(hl:kvs.length<Ζ) :
  mI H a (.ref b) v (upd H a (.dT (putK kvs k v))):=.inr ⟨kvs,k,b,e,rfl,eb,hl,rfl⟩
variable {h':Υ}
section
variable {X:Cx}{pins:List (ι×na)}{σ:St}{H:Hp}{s:θ}{a:ι}{y v:V}{u r:η}{o:Option V}{A:Ρ}{E:η->θ->Prop}
theorem Inv.WE(I:Inv X pins σ H s):Ch<s.heap.objs.size:=by
 have h:bn<s.heap.objs.size:=(I.mod.glob.keeps I.bk).lt;exact Nat.lt_trans (by decide) h
theorem kH{t':Nat}{ob:HO}(I:Inv X pins σ H s)(mu:qW (H a))(hs:Yh a s.heap h')(he:∃q,h'.get? a=ζ q)(new:bU X.prog X.w (upd H a ob) h' a ob) :
  Inv X pins σ (upd H a ob) {s with heap:=h',toks:=t' }:=
 I.write (x:=a) (e:=a) mu (.inl rfl) (λb q hb z=>(hs.2 b hb).trans z) he new
theorem wN{kvs:List (Key×V)}{vs:List (Key×η)}(z:kvs.length<=Ζ)(hd:(a==Ch)=γ)(rel:KV kvs vs)(dd:h'.DictOf (aM P w) a vs) :
  bU P w H' h' a (.dK kvs):=⟨z,hd,vs,rel,dd⟩
theorem m6{Q:Unit->θ->Prop}(hu:A.units+1<W8)(I:Inv X pins σ H s)(g:mI H a y v H')(ry:RelV y u)(rv:RelV v r)(h:∀s',Inv X pins σ H' s'->Q () s') :
  υ (Α X.prog X.w) A (Ř (.ref a) u r) Q E s:=by
 rcases g with⟨kvs,k,e,ey,l,eH⟩|⟨kvs,k,b,e,ey,eb,l,eH⟩
 .subst ey eH;obtain⟨z,hd,vs,rel,dd⟩:=yk I.Ib e;have hz:vs.length<=Ζ:=by rw[<-rel.length];exact z
  have hl:(putK kvs k v).length<=Ζ:=by have:=iE kvs k v;omega
  refine wpAny_setItem_pairs (hsz:=hz) (zq ry) dd λh' MQ hs=>h _ ?_
  have he:∃q,h'.get? a=ζ q:=let ⟨q,_,_,hq,_⟩:=MQ;⟨q,hq⟩;exact kH I (by rw[e];exact Xr) hs he (wN hl hd (rel.put k rv) MQ)
 .subst ey eH;cases(show u=Μ b from ry);obtain⟨z,hd,xs,rel,dd⟩:=Fw I.Ib e;have hz:xs.length<=Ζ:=by rw[<-Xv rel];exact z
  have hl:(putK kvs k v).length<=Ζ:=by have:=iE kvs k v;omega
  refine wpAny_setItem_heap (hsz:=hz) (W6 hu) (vZ I.Ib eb) dd λh' MQ hs=>h _ ?_
  obtain⟨q,es,ep,hq,h2,h3,h4,_,h5⟩:=MQ;refine kH I (by rw[e];exact Xr) hs ⟨q,hq⟩ ⟨hl,hd,_,(rel.put k eb rv).keeps λc ys ec=>?_,q,es,ep,hq,h2,h3,h4,h5⟩;rw[aE (Fp ec e (λz=>nomatch z))];exact ec
end
section
variable {X:Cx}{pins:List (ι×na)}{σ:St}{H:Hp}{s:θ}{a:ι}{kvs:List (Key×V)}{k:Key}{u:η}{A:Ρ}{E:η->θ->Prop}
end
section
variable {X:Cx}{o i e value:Expr}{pos pos' PU:W3}{td ty tv:TE}
end
theorem qH(h:Υ)(hb:Ch<h.objs.size):bU P w H (h.push {cls:=.type "dict",data:=.dict #[]}) h.objs.size (.dK []):=
 ⟨cf _,beq_eq_false_iff_ne.mpr (cj (az hb)),[],.nil,ļ h⟩
def yM:TE:=λ_ H Q=>∀p,H p=ε->Q (.ref p) (upd H p (.dK []))
section
variable {X:Cx}{pos:W3}
theorem vX:PE X (.Dict [] [] pos) yM:=λpins s σ H Q I h=>
 wpAny_Dict_empty ⟨.ref s.heap.objs.size,_,I.laid (a:=s.heap.objs.size) (o:=.dK []) (t':=s.toks) (λ_ _ q=>ξ _ q) (ao _) (qH s.heap I.WE),rfl,h _ (I.Ib.fresh (ao _))⟩
end
noncomputable def kK:List (TE×TE)->St->Hp->(List (V×V)->Hp->Prop)->Prop
 |[],_,H,Q=>Q [] H
 | (tk,tv)::r,σ,H,Q=>tk σ H λx H1=>tv σ H1 λy H2=>kK r σ H2 λps H3=>Q ((x,y)::ps) H3
noncomputable abbrev VV:List (V×V)->List (η×η)->Prop:=X9 λp q=>RelV p.1 q.1/\RelV p.2 q.2
noncomputable def GC(X:Cx)(pos:W3)(keys:List (Option Expr))(values:List Expr)(LK:List (TE×TE)):Prop:=
 ∀(pins:List (ι×na)) (s:θ) (σ:St) (H:Hp) (Q:List (V×V)->Hp->Prop),Inv X pins σ H s->kK LK σ H Q ->
  υ (Α X.prog X.w) X.A (evalPairs (pairTrees keys values X.env pos)) (λvs s'=>∃ps H',Inv X pins σ H' s'/\VV ps vs/\Q ps H') X.xe s
theorem AH:GC X pos [] [] []:=λpins s σ H Q I h=>pairTrees_nil_walk ⟨[],H,I,.nil,h⟩
variable {LK:List (TE×TE)}
theorem xW{k v:Expr}{ks:List (Option Expr)}{vs:List Expr}{tk tv:TE}(hk:PE X k tk)(hv:PE X v tv)(hr:GC X pos ks vs LK) :
  GC X pos (ζ k::ks) (v::vs) ((tk,tv)::LK):=λpins s σ H Q I h=>
 pairTrees_cons_walk (bT (hk pins s σ H _ I h) λu s1 ⟨x,H1,I1,rx,q1⟩=>bT (hv pins s1 σ H1 _ I1 q1) λw2 s2 ⟨y,H2,I2,ry,q2⟩=>
  bT (hr pins s2 σ H2 _ I2 q2) λws s3 ⟨ps,H3,I3,rel,q3⟩=>⟨(x,y)::ps,H3,I3,.cons ⟨rx,ry⟩ rel,q3⟩)
noncomputable def gN(kvs more:List (Key×V)):List (Key×V):=more.foldl (λacc kv=>putK acc kv.1 kv.2) kvs
theorem KV.merge:∀{more:List (Key×V)}{rs:List (Key×η)}{kvs:List (Key×V)}{vs:List (Key×η)},KV more rs->KV kvs vs->KV (gN kvs more) (merged vs rs):=by
 intro more rs kvs vs r;unfold KV at r
 induction r generalizing kvs vs with
 |nil=>intro q;exact q
 |@cons p q ps qs h t ih=>
  intro r0;have e:KV (putK kvs p.1 p.2) (stored vs q.1 q.2):=by
   have:=r0.put p.1 h.2;rw[<-h.1];exact this
  exact ih e
theorem iY:∀(more kvs:List (Key×V)),(gN kvs more).length<=kvs.length+more.length
 |[],kvs=>by show kvs.length<=kvs.length+0;omega
 |p::r,kvs=>by
  have h1:=iY r (putK kvs p.1 p.2);have h2:=iE kvs p.1 p.2;show(gN (putK kvs p.1 p.2) r).length<=_;rw[av];omega
theorem lK{P:Ε}{w:Ξ}:∀{kvs:List (Key×V)}{ws:List (η×η)},VV (kvs.map λkv=>(kV kv.1,kv.2)) ws->∃rs,Carries (aM P w) ws rs/\KV kvs rs
 |[],_,r=>by rw[g9]at r;cases r;exact⟨[],Xr,.nil⟩
 |p::kvs,_,r=>by
  rw[a9]at r;cases r with
  |@cons a b as bs h t=>
   obtain⟨rs,c,q⟩:=lK (P:=P) (w:=w) t;obtain⟨b1,b2⟩:=b;exact⟨(p.1,b2)::rs,⟨zq h.1,rfl,c⟩,.cons ⟨rfl,h.2⟩ q⟩
def Hl(LK:List (TE×TE)):TE:=λσ H Q=>∀p,H p=ε->kK LK σ (upd H p (.dK [])) λps H2=>H2 p=ζ (.dK [])/\∃kvs:List (Key×V),ps=kvs.map (λkv=>(kV kv.1,kv.2))/\kvs.length<=15/\Q (.ref p) (upd H2 p (.dK (gN [] kvs)))
theorem Am{keys:List (Option Expr)}{values:List Expr}(h:GC X pos keys values LK)(Mz:keys.all (·.isSome)=δ)(hl:keys.length=values.length)(h0:keys≠[])
  (Fx:keys.length<=15):PE X (.Dict keys values pos) (Hl LK):=by
 intro pins s σ H Q I q;have hn:=I.Ib.fresh (ao s.heap.objs.size);have I1:=I.laid (a:=s.heap.objs.size) (o:=.dK []) (h':=s.heap.push {cls:=.type "dict",data:=.dict #[]}) (t':=s.toks) (λ_ _ q=>ξ _ q) (ao _) (qH s.heap I.WE);refine wpAny_Dict_walk (knd:=aM X.prog X.w) Mz hl h0 Fx (bT (h pins _ σ _ _ I1 (q _ hn)) λws s2 ⟨ps,H2,I2,rel,e,kvs,ep,lk,q2⟩=>?_);subst ep;obtain⟨rs,c,rk⟩:=lK (P:=X.prog) (w:=X.w) rel;obtain⟨z,hd,vs0,r0,dd⟩:=yk I2.Ib e;cases r0;refine⟨rs,c,dd,λh' MQ hs=>⟨.ref s.heap.objs.size,_,?_,rfl,q2⟩⟩;have hz:(gN [] kvs).length<=Ζ:=by
  have h1:=iY kvs [];rw[du]at h1;rw[wE];omega
 have he:∃q,h'.get? s.heap.objs.size=ζ q:=let ⟨q,_,_,hq,_⟩:=MQ;⟨q,hq⟩;exact kH I2 (by rw[e];exact Xr) hs he (wN hz hd (rk.merge .nil) MQ)
end L2
end
section
namespace Pc
open PySem
inductive MV where
 |int (i:Int)
deriving Inhabited,DecidableEq
inductive D where
 |Ii|bl (b:Bool)|int (i:Int)|str (s:Str)|lst (xs:List D)|tup (xs:List D)
 |JI (kvs:List ((Int ⊕ Str)×Option Int))
 |IA (ks:List (Int×MV))|IK (ks:List (List Int))
deriving Inhabited
mutual
noncomputable def D.flat:D->Bool
 |.lst _=>γ
 |.tup xs=>D.Ig xs
 |.Ii=>δ
 |.bl _=>δ
 |.int _=>δ
 |.str _=>δ
 |.JI _=>δ
 |.IA _=>γ
 |.IK _=>γ
noncomputable def D.Ig:List D->Bool
 |[]=>δ
 |x::xs=>D.flat x&&D.Ig xs
end
noncomputable def vH(f:D->D->Option Bool):List D->List D->Option Bool
 |[],[]=>ζ δ
 |x::xs,y::ys=>(f x y).bind λa=>(vH f xs ys).map λb=>a&&b
 |_,_=>ε
noncomputable def D.JH:Nat->D->D->Option Bool
 |_+1,.int a,.int b=>ζ (a==b)
 |n+1,.lst a,.lst b=>if a.length=b.length then vH (D.JH n) a b else ζ γ
 |_,_,_=>ε
inductive Rs(α:Type) where
 |ok (a:α)|bad
noncomputable def Rs.bind{α β:Type}(x:Rs α)(f:α->Rs β):Rs β:=match x with
 |.ok a=>f a
 |.bad=>.bad
inductive Rt where
 |mv (R:List Nat)
 |sh (R:List Nat)
noncomputable def Rt.roots:Rt->List Nat
 |.mv R=>R
 |.sh R=>R
inductive Tg where
 |own|lk|sh (R:List Nat)
noncomputable abbrev Slot:=Option (D×Tg)
noncomputable abbrev En:=List Slot
noncomputable def lim:Nat:=1000000
inductive kh where
 |nm (i:Nat)|tp (is:List Nat)
inductive yn where
 |len|list|int|min2|all|sum|Lq (T:String)|sorted|Kx|KQ
inductive Fh where
 |Iu|JM
inductive qW where
 |append|extend
mutual
inductive Ex where
 |var (i:Nat)
 |cst (d:D)
 |Ic (k:Nat)
 |bin (op:FM) (a b:Ex)
 |neg (a:Ex)
 |cmp (op:Ya) (a b:Ex)
 |and (a b:Ex)
 |or (a b:Ex)
 |not (a:Ex)
 |ite (c a b:Ex)
 |lst (es:jR)
 |tup (es:jR)
 |ix (a i:Ex)
 |sl (a:Ex) (lo hi:jS)
 |call (f:Nat) (es:jR)
 |blt (b:yn) (es:jR)
 |Lo (m:Fh) (o:Ex) (es:jR)
 |comp (own:Nat) (pick:List Nat) (t:kh) (it:oY) (c:jS) (e:Ex)
 |KC
 |K5 (l:List (Nat×Int))
 |app (g:List D->Option D) (es:jR)
inductive jR where
 |nil|cons (e:Ex) (es:jR)
inductive jS where
 |none|some (e:Ex)
inductive oY where
 |seq (e:Ex)|Iq (a:Ex)|Jq (a b:Ex)|Jf (a b c:Ex)|enum (e:Ex)|zip (a b:Ex)
end
abbrev Ht:Ex:=.cst (.int 0)
abbrev Hu:Ex:=.cst (.int 2)
abbrev Hv:Ex:=.cst (.int 1)
abbrev Hw:Ex:=.cst (.int 6)
abbrev Hx:Ex:=.cst (.int 3)
abbrev Hy:Ex:=.cst (.int 4)
abbrev Hz:Ex:=.cst (.int 5)
abbrev HA:Ex:=.cst (.int 7)
abbrev HB:Ex:=.cst (.int 63)
abbrev HC:Ex:=.cst (.int 15)
abbrev HD:Ex:=.cst (.int 2147483399)
abbrev HE:Ex:=.cst (.int 8)
abbrev HF(n:Int):Ex:=.cst (.int n)
abbrev HG:Ex:=.var 0
abbrev HH:Ex:=.var 2
abbrev HI:Ex:=.var 3
abbrev HJ:Ex:=.var 1
abbrev HK:Ex:=.var 7
abbrev HL:Ex:=.var 4
abbrev HM:Ex:=.var 5
abbrev HN:Ex:=.var 6
abbrev HP:Ex:=.Ic 7
abbrev HR(a b:Ex):jR:=.cons a (.cons b .nil)
abbrev HQ(a:Ex):jR:=.cons a .nil
abbrev HS(a b c:Ex):jR:=.cons a (.cons b (.cons c .nil))
abbrev HU(a b c d:Ex):jR:=.cons a (.cons b (.cons c (.cons d .nil)))
abbrev HV(a:Ex):Ex:=.blt .len (HQ a)
mutual
inductive St where
 |asg (t:kh) (e:Ex) (mv:Bool)
 |mut (x:Nat) (path:jS) (m:qW) (es:jR)
 |Ir (x:Nat) (path:jS) (i:Ex) (e:Ex)
 |JN (x:Nat) (i v:Ex)
 |aug (x:Nat) (op:FM) (e:Ex)
 |expr (e:Ex)
 |ite (c:Ex) (a b:bV)
 |Ie (t:kh) (it:oY) (b:bV)
 |K8 (c:Ex) (b:bV)
 |ret (e:Ex)
inductive bV where
 |nil|cons (s:St) (r:bV)
end
abbrev HW(i:Nat)(e:Ex)(r:bV):bV:=.cons (.asg (.nm i) e γ) r
abbrev HX(e:Ex):bV:=.cons (.ret e) .nil
noncomputable def ck(n:Nat)(d:D):Option D:=if n<=lim then ζ d else ε
noncomputable def small(i:Int):Bool:=decide (-(2 ^ 64)<i/\i<2 ^ 64)
noncomputable def binI:FM->Int->Int->Option Int
 |.Add,i,j=>ζ (i+j)
 |.Sub,i,j=>ζ (i-j)
 |.Mult,i,j=>if small i || small j then ζ (i*j)else ε
 |.FloorDiv,i,j=>if 0<j/\j<1073741824 then ζ (i / j)else ε
 |.Mod,i,j=>if 0<j then ζ (i%j)else ε
 |.RShift,i,j=>if 0<=j then ζ (i / 2 ^ j.toNat)else ε
 |.BitAnd,i,j=>ζ (W1 i j)
 |.BitXor,i,j=>ζ (Xj i j)
 |_,_,_=>ε
noncomputable def qu(a:Str)(k:Nat):Str:=⟨(π k a.cps).foldl (λx y=>x++y) #[]⟩
noncomputable def lZ:FM->D->D->Option D
 |op,.int i,.int j=>(binI op i j).map .int
 |op,.str a,.str b=>match op with
  |.Add=>ck (a.length+b.length) (.str (a++b))
  |_=>ε
 |op,.lst a,.lst b=>match op with
  |.Add=>ck (a.length+b.length) (.lst (a++b))
  |_=>ε
 |op,.str a,.int k=>match op with
  |.Mult=>if 1<k/\k<=1000/\0<a.length/\a.length<=1000 then ζ (.str (qu a k.toNat))else ε
  |_=>ε
 |op,.lst a,.int k=>match op with
  |.Mult=>if -(2 ^ 63)<=k/\k<2 ^ 63 then(if D.Ig a then ck (a.length*k.toNat) (.lst (π k.toNat a).flatten)else ε)else ε
  |_=>ε
 |_,_,_=>ε
noncomputable def PM:Option Int->D
 |none=>.Ii
 |some i=>.int i
noncomputable def vq(kvs:List ((Int ⊕ Str)×Option Int))(k:Int ⊕ Str):Option (Option Int):=(kvs.find? λq=>decide (q.1=k)).map (·.2)
noncomputable def GJ(x y:Str):Bool:=!(xz y x 0 y.length 1).isEmpty
noncomputable def sD{α:Type}[BEq α](ks:List α)(k:α):List α:=if ks.contains k then ks else ks ++ [k]
noncomputable def Af(kvs:List (Int×MV))(k:Int)(m:MV):List (Int×MV):=if(kvs.any λq=>decide (q.1=k))=δ then kvs.map (λq=>if q.1=k then(q.1,m)else q)else kvs ++ [(k,m)]
noncomputable def vh:List D->Option (List Int)
 |[]=>ζ []
 |.int i::r=>(vh r).map (i :: ·)
 |_::_=>ε
noncomputable def QD:MV->D
 |.int i=>.int i
noncomputable def F9:D->Option MV
 |.int i=>ζ (.int i)
 |_=>ε
noncomputable def BQ(gl:Nat->D):List (Nat×Int)->List (Int×MV)->Option (List (Int×MV))
 |[],ks=>ζ ks
 |q::r,ks=>match gl q.1 with
  |.int i=>BQ gl r (Af ks i (.int q.2))
  |_=>ε
noncomputable def qg:D->Bool
 |.bl δ=>δ
 |_=>γ
noncomputable def iL(i j:Int):Bool:=!(i==42&&j==21)
noncomputable def asPair:(d:D)->Option {q:Int×Int // d=.tup [.int q.1,.int q.2]}
 |.tup [.int a,.int b]=>ζ ⟨(a,b),rfl⟩
 |_=>ε
noncomputable def B1:(d:D)->Option {k:Int // d=.int k}
 |.int k=>ζ ⟨k,rfl⟩
 |_=>ε
noncomputable def DO(ks:List (Int×MV))(y v:D):Option D:=match B1 y with
 |some k=>if ks.length<lim then(F9 v).map λm=>.IA (Af ks k.1 m)else ε
 |none=>(asPair y).bind λq=>if ks.isEmpty&&(qg v&&iL q.1.1 q.1.2)then ζ (.IK [[q.1.1,q.1.2]])else ε
noncomputable def C5(ks:List (List Int))(y v:D):Option D:=(asPair y).bind λq=>if(qg v&&iL q.1.1 q.1.2)&&decide (ks.length<lim)then ζ (.IK (sD ks [q.1.1,q.1.2]))else ε
noncomputable def sT(d y v:D):Option D:=match d with
 |.IA ks=>DO ks y v
 |.IK ks=>C5 ks y v
 |_=>ε
noncomputable def inD(x:D):D->Option Bool
 |.str y=>match x with
  |.str z=>ζ (GJ z y)
  |_=>ε
 |.IA ks=>(asPair x).bind λ_=>if ks.isEmpty then ζ γ else ε
 |.IK ks=>(asPair x).map λq=>ks.contains [q.1.1,q.1.2]
 |_=>ε
noncomputable def yX:D->Bool
 |.Ii=>δ
 |_=>γ
noncomputable def qa:Ya->D->D->Option Bool
 |.Lt,.int i,.int j=>ζ (decide (i<j))
 |.Gt,.int i,.int j=>ζ (decide (j<i))
 |.GtE,.int i,.int j=>ζ (decide (j<=i))
 |.Eq,x,y=>D.JH 40 x y
 |.NotEq,x,y=>(D.JH 40 x y).map (!·)
 |.In,x,y=>inD x y
 |.NotIn,x,y=>(inD x y).map (!·)
 |.IsNot,x,.Ii=>ζ (!yX x)
 |_,_,_=>ε
noncomputable def truth:D->Option Bool
 |.bl b=>ζ b
 |_=>ε
noncomputable def iZ(n:Nat)(i:Int):Option Nat:=if 0<=i then(if i<n then ζ i.toNat else ε)else if -(n:Int)<=i then ζ (i+n).toNat else ε
noncomputable def eO(n d:Nat):Option Int->Nat
 |none=>d
 |some v=>if v<0 then(v+(n:Int)).toNat else min v.toNat n
noncomputable def cut{α:Type}(xs:List α)(lo hi:Option Int):List α:=
 let a:=eO xs.length 0 lo
 (xs.drop a).take (eO xs.length xs.length hi-a)
noncomputable def tf(d:D):D->Option D
 |.int i=>match d with
  |.lst xs=>(iZ xs.length i).bind λj=>xs[j]?
  |.tup xs=>(iZ xs.length i).bind λj=>xs[j]?
  |.str s=>if s.length<=lim then((iZ s.cps.toList.length i).bind λj=>s.cps.toList[j]?).map λc=>.str ⟨#[c]⟩else ε
  |.JI kvs=>(vq kvs (.inl i)).map PM
  |.IA ks=>(ks.find? λq=>decide (q.1=i)).map λq=>QD q.2
  |_=>ε
 |_=>ε
noncomputable def xA:D->Option Int->Option Int->Option D
 |.lst xs,lo,hi=>ζ (.lst (cut xs lo hi))
 |.str s,lo,hi=>if s.length<=lim then ζ (.str ⟨(cut s.cps.toList lo hi).toArray⟩)else ε
 |_,_,_=>ε
noncomputable def D.inner:D->Bool
 |.lst xs=>D.Ig xs
 |.tup xs=>D.Ig xs
 |_=>δ
noncomputable def hZ(d:D)(R:List Nat):Rt:=if d.inner then .mv []else .sh R
noncomputable def rf(d:D)(r:Rt):Rt:=if d.flat then .mv []else .sh r.roots
noncomputable def dB:List Rt->Option (List Nat)
 |[]=>ζ []
 |.mv R::r=>(dB r).map (R ++ ·)
 |.sh _::_=>ε
noncomputable def aR(l:List Rt):List Nat:=(l.map Rt.roots).flatten
noncomputable def oS(l:List Rt):Rt:=match dB l with
 |some R=>if R.Nodup then .mv R else .sh R
 |none=>.sh (aR l)
noncomputable def zG(T:String):D->Bool
 |.Ii=>T == "NoneType"
 |.bl _=>T == "bool" || T == "int"
 |.int _=>T == "int"
 |.str _=>T == "str"
 |.lst _=>T == "list"
 |.tup _=>T == "tuple"
 |.JI _=>γ
 |.IA _=>γ
 |.IK _=>γ
noncomputable def D.JR:D->Bool
 |.bl _=>δ
 |_=>γ
noncomputable def allB:List D->Option Bool
 |[]=>ζ δ
 |.bl b::r=>if b then allB r else ζ γ
 |_::_=>ε
noncomputable def zM:Int->List D->Option Int
 |a,[]=>ζ a
 |a,.int i::r=>zM (a+i) r
 |_,_::_=>ε
noncomputable def ni:Int->List D->Option Int
 |a,[]=>ζ a
 |a,.int i::r=>ni (if i > a then i else a) r
 |_,_::_=>ε
noncomputable def bA:Int->Int->Nat->List D
 |_,_,0=>[]
 |a,s,n+1=>.int a::bA (a+s) s n
noncomputable def eK(i:Int):Bool:=decide (-(2 ^ 62)<=i/\i<2 ^ 62)
noncomputable def me:List D->Option (List (List Int))
 |[]=>ζ []
 |.tup xs::r=>(vh xs).bind λk=>if k.isEmpty then ε else(me r).map (k :: ·)
 |_::_=>ε
noncomputable def eN:List Int->List Int->Bool
 |[],[]=>γ
 |[],_::_=>δ
 |_::_,[]=>γ
 |a::x,b::y=>if a==b then eN x y else decide (a<b)
noncomputable def BE{α:Type}(f:Nat->Nat->Option Bool):ú α->Option α
 |.ret a=>ζ a
 |.ask i j k=>(f i j).bind λb=>BE f (k b)
noncomputable def xU(xs:List D):Option (List D):=if 2<=xs.length/\xs.length<64 then(me xs).bind λks=>
  (BE (λi j=>(ks[i]?).bind λa=>(ks[j]?).map λb=>eN a b) (PySem.W.kas_sort xs.length)).bind λp=>
   if p.size<=64 then ζ (p.toList.map λi=>xs.getD i .Ii)else ε
 else ε
noncomputable def vS:List D->Option D
 |[.lst xs]=>(xU xs).map .lst
 |_=>ε
noncomputable def E6:List D->Option D
 |[.lst xs]=>ζ (.int xs.length)
 |[.tup xs]=>ζ (.int xs.length)
 |[.str s]=>if s.length<=lim then ζ (.int s.length)else ε
 |[.IK ks]=>ζ (.int ks.length)
 |_=>ε
noncomputable def CU:List D->Option D
 |[.lst xs]=>ζ (.lst xs)
 |[.tup xs]=>ζ (.lst xs)
 |[.IA ks]=>if ks.length<=lim then ζ (.lst (ks.map λq=>.int q.1))else ε
 |_=>ε
noncomputable def cD(lt:Nat->Nat->Bool):Nat->Nat->Nat->Nat
 |0,_,m=>m
 |k+1,j,m=>cD lt k (j+1) (if lt j m then j else m)
noncomputable def minD(xs:List D):Option D:=if xs.isEmpty then ε else(me xs).bind λks=>xs[cD (λi j=>eN (ks.getD i []) (ks.getD j [])) (xs.length-1) 1 0]?
noncomputable def DM:List D->Option D
 |[.int i,.int j]=>ζ (.int (if j<i then j else i))
 |[.lst xs]=>minD xs
 |_=>ε
noncomputable def B8:List D->Option D
 |[.lst xs]=>if xs.all D.JR then(allB xs).map .bl else ε
 |_=>ε
noncomputable def B2:List D->Option D
 |[.lst xs]=>(zM 0 xs).map .int
 |_=>ε
noncomputable def FJ(T:String):List D->Option D
 |[.JI _]=>ε
 |[.IA _]=>ε
 |[.IK _]=>ε
 |[d]=>ζ (.bl (zG T d))
 |_=>ε
noncomputable def rh:List D->Option D
 |[.int n]=>if eK n=δ/\n<=1000000 then ζ (.lst (bA 0 1 n.toNat))else ε
 |[.int a,.int b]=>if eK a=δ/\eK b=δ/\b-a<=1000000 then ζ (.lst (bA a 1 (b-a).toNat))else ε
 |_=>ε
noncomputable def Gw:List D->Option D
 |[.str s]=>if s.length<=640 then(û s).map .int else ε
 |[.int i]=>ζ (.int i)
 |[.bl b]=>ζ (.int (if b then 1 else 0))
 |_=>ε
noncomputable def xt:List D->Option D
 |[.lst [],.int d]=>ζ (.int d)
 |[.lst (.int i::r),.int _]=>(ni i r).map .int
 |_=>ε
noncomputable def eA:yn->List D->Option D
 |.sorted,ds=>vS ds
 |.len,ds=>E6 ds
 |.list,ds=>CU ds
 |.min2,ds=>DM ds
 |.all,ds=>B8 ds
 |.sum,ds=>B2 ds
 |.Lq T,ds=>FJ T ds
 |.Kx,ds=>rh ds
 |.int,ds=>Gw ds
 |.KQ,ds=>xt ds
noncomputable def qG:List D->Option (List Str)
 |[]=>ζ []
 |.str s::r=>(qG r).map (s :: ·)
 |_::_=>ε
noncomputable def oU:Fh->D->List D->Option D
 |.Iu,.str x,[.str y]=>match xz x y 0 x.length 1 with
  |i::_=>ζ (.int (i:Int))
  |[]=>ε
 |.JM,.str x,[.lst xs]=>(qG xs).bind λys=>if(ys.map (·.length)).sum+ys.length*x.length<=lim then ζ (.str (YV x ys))else ε
 |_,_,_=>ε
noncomputable def Tg.drop(i:Nat):Tg->Tg
 |.sh R=>.sh (R.filter (· != i))
 |t=>t
noncomputable def bQ(d:D)(R:List Nat):Tg:=if d.flat then .own else .sh R
noncomputable def put(env:En)(i:Nat)(d:D)(t:Tg):En:=(env.map λ(s:Slot)=>s.map λ(p:D×Tg)=>(p.1,p.2.drop i)).set i (ζ (d,t))
noncomputable def iU(R:List Nat):Tg->Bool
 |.sh Q=>Q.any λq=>R.contains q
 |_=>γ
noncomputable def kill(R:List Nat)(env:En):En:=env.mapIdx λi (s:Slot)=>match s with
 |some (d,t)=>if R.contains i || iU R t then ε else ζ (d,t)
 |none=>ε
noncomputable def gK(env:En)(R:List Nat):Bool:=R.all λi=>match env[i]? with
 |some (ζ (_,.own))=>δ
 |_=>γ
noncomputable def bindM(f:D->Tg):List Nat->List D->En->Option En
 |[],[],env=>ζ env
 |i::is,d::ds,env=>if i<env.length then bindM f is ds (put env i d (f d))else ε
 |_,_,_=>ε
noncomputable def bP(R:List Nat):kh->D->En->Option En
 |.nm i,d,env=>if i<env.length then ζ (put env i d (bQ d R))else ε
 |.tp is,.tup ds,env=>bindM (λd=>bQ d R) is ds env
 |_,_,_=>ε
structure Tb where
 cl:Nat->List D->Rs (D×Bool)
 gl:Nat->D
 fuel:Nat
noncomputable def ku{α:Type}:Option α->Rs α
 |some a=>.ok a
 |none=>.bad
noncomputable def xT:D->Option (List D)
 |.lst xs=>ζ xs
 |.tup xs=>ζ xs
 |.str s=>if s.length<=lim then ζ (s.cps.toList.map λc=>.str ⟨#[c]⟩)else ε
 |_=>ε
noncomputable def tP:D->Option (List D)
 |.lst xs=>ζ xs
 |_=>ε
noncomputable def xP:D->Option (List D)
 |.lst xs=>ζ xs
 |.str s=>ζ (s.cps.toList.map λc=>.str ⟨#[c]⟩)
 |_=>ε
noncomputable def fH(f:D->Rs (Option (D×Rt))):List D->Rs (List (D×Rt))
 |[]=>.ok []
 |d::r=>(f d).bind λo=>(fH f r).bind λl=>.ok (match o with
  |some p=>p::l
  |none=>l)
noncomputable def cZ(o:Option En)(c:En->Rs Bool)(e:En->Rs (D×Rt)):Rs (Option (D×Rt)):=match o with
 |none=>.bad
 |some env=>(c env).bind λk=>if k then(e env).bind λq=>.ok (ζ q)else .ok ε
noncomputable def eV:Rt->Bool
 |.mv []=>δ
 |_=>γ
noncomputable def be(i:Nat):Tg->List Nat
 |.own=>[i]
 |.lk=>[i]
 |.sh R=>R
noncomputable def n6(env:En)(pick:List Nat):List Nat:=(pick.map λj=>match env[j]? with
 |some (ζ (_,t))=>be j t
 |_=>[]).flatten
noncomputable def bG(env:En)(own:Nat)(pick:List Nat):En:=π own ε++pick.map λi=>match env[i]? with
 |some (ζ (d,_))=>ζ (d,.sh [])
 |_=>ε
mutual
noncomputable def ev(T:Tb):Ex->En->Rs (D×Rt)
 |.var i,env=>match env[i]? with
  |some (ζ (d,t))=>.ok (d,if d.flat then .mv []else match t with
   |.own=>.mv [i]
   |.lk=>.mv [i]
   |.sh R=>.sh R)
  |_=>.bad
 |.cst d,_=>.ok (d,.mv [])
 |.Ic k,_=>.ok (T.gl k,.mv [])
 |.bin op a b,env=>(ev T a env).bind λp=>(ev T b env).bind λq=>(ku (lZ op p.1 q.1)).bind λd=>.ok (d,hZ d (p.2.roots++q.2.roots))
 |.neg a,env=>(ev T a env).bind λp=>match p.1 with
  |.int i=>.ok (.int (-i),.mv [])
  |_=>.bad
 |.cmp op a b,env=>(ev T a env).bind λp=>(ev T b env).bind λq=>(ku (qa op p.1 q.1)).bind λc=>.ok (.bl c,.mv [])
 |.and a b,env=>(ev T a env).bind λp=>match p.1 with
  |.bl δ=>ev T b env
  |.bl γ=>.ok (.bl γ,.mv [])
  |_=>.bad
 |.or a b,env=>(ev T a env).bind λp=>match p.1 with
  |.bl δ=>.ok (.bl δ,.mv [])
  |.bl γ=>ev T b env
  |_=>.bad
 |.not a,env=>(ev T a env).bind λp=>match p.1 with
  |.bl k=>.ok (.bl (!k),.mv [])
  |_=>.bad
 |.ite c a b,env=>(ev T c env).bind λp=>(ku (truth p.1)).bind λk=>if k then ev T a env else ev T b env
 |.lst es,env=>(aT T es env).bind λl=>if l.length<=lim then .ok (.lst (l.map (·.1)),oS (l.map (·.2)))else .bad
 |.tup es,env=>(aT T es env).bind λl=>if l.length<=lim then .ok (.tup (l.map (·.1)),oS (l.map (·.2)))else .bad
 |.ix a i,env=>(ev T a env).bind λp=>(ev T i env).bind λq=>(ku (tf p.1 q.1)).bind λd=>.ok (d,rf d p.2)
 |.sl a lo hi,env=>(ev T a env).bind λp=>(iX T lo env).bind λl=>(iX T hi env).bind λh=>(ku (xA p.1 l h)).bind λd=>.ok (d,hZ d p.2.roots)
 |.call f es,env=>(aT T es env).bind λl=>(T.cl f (l.map (·.1))).bind λr=>.ok (r.1,if r.2 then .mv []else .sh (aR (l.map (·.2))))
 |.blt b es,env=>(aT T es env).bind λl=>(ku (eA b (l.map (·.1)))).bind λd=>.ok (d,hZ d (aR (l.map (·.2))))
 |.Lo m o es,env=>(ev T o env).bind λp=>(aT T es env).bind λl=>(ku (oU m p.1 (l.map (·.1)))).bind λd=>.ok (d,hZ d (p.2.roots++aR (l.map (·.2))))
 |.comp own pick t it c e,env=>(cU T it env).bind λp=>(fH (λd=>cZ (bP [] t d (bG env own pick)) (jv T c) (ev T e)) p.1).bind λl=>
    if p.1.length<=lim then .ok (.lst (l.map (·.1)),if l.all (λq=>q.1.flat || eV q.2)then .mv []else .sh (p.2++n6 env pick))else .bad
 |.KC,_=>.ok (.IA [],.mv [])
 |.K5 l,_=>(ku (BQ T.gl l [])).bind λks=>.ok (.IA ks,.mv [])
 |.app g es,env=>(aT T es env).bind λl=>(ku (g (l.map (·.1)))).bind λd=>.ok (d,.mv [])
noncomputable def aT(T:Tb):jR->En->Rs (List (D×Rt))
 |.nil,_=>.ok []
 |.cons e es,env=>(ev T e env).bind λp=>(aT T es env).bind λl=>.ok (p::l)
noncomputable def iX(T:Tb):jS->En->Rs (Option Int)
 |.none,_=>.ok ε
 |.some e,env=>(ev T e env).bind λp=>match p.1 with
  |.int i=>.ok (ζ i)
  |_=>.bad
noncomputable def jv(T:Tb):jS->En->Rs Bool
 |.none,_=>.ok δ
 |.some e,env=>(ev T e env).bind λp=>ku (truth p.1)
noncomputable def cU(T:Tb):oY->En->Rs (List D×List Nat)
 |.seq e,env=>(ev T e env).bind λp=>(ku (xT p.1)).bind λl=>.ok (l,p.2.roots)
 |.Iq a,env=>(ev T a env).bind λp=>match p.1 with
  |.int j=>if eK j then .ok (bA 0 1 j.toNat,[])else .bad
  |_=>.bad
 |.Jq a b,env=>(ev T a env).bind λp=>(ev T b env).bind λq=>match p.1,q.1 with
  |.int i,.int j=>if eK i&&eK j then .ok (bA i 1 (j-i).toNat,[])else .bad
  |_,_=>.bad
 |.Jf a b c,env=>(ev T a env).bind λp=>(ev T b env).bind λq=>(ev T c env).bind λr=>match p.1,q.1,r.1 with
  |.int i,.int j,.int k=>if eK i&&eK j&&k != 0&&decide (k.natAbs<1073741824)then .ok (bA i k (Γ i j k).toNat,[])else .bad
  |_,_,_=>.bad
 |.enum e,env=>(ev T e env).bind λp=>(ku (xP p.1)).bind λl=>.ok (l.zipIdx.map λq=>.tup [.int q.2,q.1],p.2.roots)
 |.zip a b,env=>(ev T a env).bind λp=>(ev T b env).bind λq=>(ku (tP p.1)).bind λl=>(ku (tP q.1)).bind λm=>.ok ((l.zip m).map λz=>.tup [z.1,z.2],p.2.roots++q.2.roots)
end
noncomputable def D.Jn:D->Option Int->Option (List D)
 |.lst xs,ε=>ζ xs
 |.lst xs,ζ i=>(iZ xs.length i).bind λj=>match xs[j]? with
  |some (.lst ys)=>ζ ys
  |_=>ε
 |_,_=>ε
noncomputable def D.Jh:D->Option Int->List D->D
 |.lst _,ε,n=>.lst n
 |.lst xs,ζ i,n=>match iZ xs.length i with
  |some j=>.lst (xs.set j (.lst n))
  |none=>.lst xs
 |d,_,_=>d
noncomputable def yL:qW->List D->List D->Option (List D)
 |.append,xs,[d]=>ζ (xs ++ [d])
 |.extend,xs,[.lst ys]=>if D.Ig ys then ζ (xs++ys)else ε
 |_,_,_=>ε
inductive Fl where
 |nx (env:En)|rt (d:D) (fr:Bool)|bad
noncomputable def xr:Option En->Fl
 |some env=>.nx env
 |none=>.bad
noncomputable def sH(t:kh)(mv:Bool)(env:En)(p:D×Rt):Fl:=match t with
 |.nm i=>if i<env.length then(match p.2 with
  |.mv []=>.nx (put env i p.1 .own)
  |.mv R=>if mv then .bad else .nx (put env i p.1 (.sh (R.filter (· != i))))
  |.sh R=>.nx (put env i p.1 (.sh (R.filter (· != i)))))else .bad
 |.tp is=>match p.1 with
  |.tup ds=>match p.2 with
   |.mv []=>xr (bindM (λ_=>.own) is ds env)
   |r=>if is.all (λi=>!r.roots.contains i)then xr (bindM (λd=>bQ d r.roots) is ds env)else .bad
  |_=>.bad
noncomputable def Fl.andThen(f:Fl)(k:En->Fl):Fl:=match f with
 |.nx env=>k env
 |x=>x
noncomputable def gU{α:Type}(env:En)(x:Rs α)(k:α->Fl):Fl:=match x with
 |.ok a=>k a
 |.bad=>.bad
noncomputable def hV(t:kh)(R:List Nat)(b:En->Fl):List D->En->Fl
 |[],env=>.nx env
 |d::r,env=>match bP R t d env with
  |none=>.bad
  |some Ia=>match b Ia with
   |.nx e=>hV t R b r e
   |x=>x
noncomputable def iO(c:En->Rs Bool)(b:En->Fl):Nat->En->Fl
 |0,_=>.bad
 |n+1,env=>gU env (c env) λk=>if k then(match b env with
   |.nx e=>iO c b n e
   |x=>x)else .nx env
noncomputable def lock(R:List Nat)(env:En):En:=env.mapIdx λi (s:Slot)=>match s with
 |some (d,.own)=>if R.contains i then ζ (d,.lk)else ζ (d,.own)
 |s=>s
noncomputable def unlock(R:List Nat)(env0 env:En):En:=env.mapIdx λi (s:Slot)=>match s with
 |some (d,.lk)=>match env0[i]? with
  |some (ζ (_,.own))=>if R.contains i then ζ (d,.own)else ζ (d,.lk)
  |_=>ζ (d,.lk)
 |s=>s
noncomputable def qW.II:qW->Bool
 |.extend=>δ
 |_=>γ
noncomputable def iM(x:Nat)(path:Option Int)(env:En)(d:D)(ys:List D)(rs:List Rt):Fl:=match dB rs with
 |none=>.bad
 |some R=>if R.Nodup&&gK env R && !R.contains x&&decide (ys.length<=lim)then .nx ((kill (x::R) env).set x (ζ (d.Jh path ys,.own)))else .bad
noncomputable def ownAt(env:En)(x:Nat):Option D:=match env[x]? with
 |some (ζ (d,.own))=>ζ d
 |_=>ε
noncomputable def Es:FM->Int->Int->Option Int
 |.Add,i,j=>ζ (i+j)
 |.Sub,i,j=>ζ (i-j)
 |_,_,_=>ε
noncomputable def He(op:FM)(x:Nat)(a:Int)(env:En)(p:D×Rt):Fl:=match p.1 with
 |.int b=>(match Es op a b with
  |some c=>sH (.nm x) γ env (.int c,.mv [])
  |none=>.bad)
 |_=>.bad
noncomputable def intAt(env:En)(x:Nat):Option Int:=match env[x]? with
 |some (ζ (.int a,_))=>ζ a
 |_=>ε
mutual
noncomputable def cP(T:Tb):St->En->Fl
 |.asg t e mv,env=>gU env (ev T e env) (sH t mv env)
 |.mut x path m es,env=>match ownAt env x with
  |none=>.bad
  |some d=>gU env (iX T path env) λp=>match d.Jn p with
   |none=>.bad
   |some xs=>gU env (aT T es env) λl=>match yL m xs (l.map (·.1))with
    |none=>.bad
    |some ys=>if(aR (l.map (·.2))).contains x then .bad else iM x p env d ys (if m.II then[]else l.map (·.2))
 |.JN x i v,env=>match ownAt env x with
  |none=>.bad
  |some d=>gU env (ev T v env) λu=>gU env (ev T i env) λq=>match sT d q.1 u.1 with
   |none=>.bad
   |some d'=>.nx ((kill [x] env).set x (ζ (d',.own)))
 |.Ir x path i e,env=>match ownAt env x with
  |none=>.bad
  |some d=>gU env (ev T e env) λv=>gU env (iX T path env) λp=>match d.Jn p with
   |none=>.bad
   |some xs=>gU env (ev T i env) λq=>match q.1 with
    |.int i=>(match iZ xs.length i with
     |none=>.bad
     |some j=>iM x p env d (xs.set j v.1) [v.2])
    |_=>.bad
 |.aug x op e,env=>match intAt env x with
  |none=>.bad
  |some a=>gU env (ev T e env) (He op x a env)
 |.expr e,env=>gU env (ev T e env) λ_=>.nx env
 |.ite c a b,env=>gU env (ev T c env) λp=>match truth p.1 with
  |some δ=>aP T a env
  |some γ=>aP T b env
  |none=>.bad
 |.Ie t it b,env=>gU env (cU T it env) λp=>(match hV t p.2 (aP T b) p.1 (lock p.2 env)with
  |.nx e=>.nx (unlock p.2 env e)
  |x=>x)
 |.K8 c b,env=>iO (λenv=>(ev T c env).bind λp=>ku (truth p.1)) (aP T b) T.fuel env
 |.ret e,env=>gU env (ev T e env) λp=>.rt p.1 (match p.2 with
  |.mv R=>gK env R
  |.sh _=>γ)
noncomputable def aP(T:Tb):bV->En->Fl
 |.nil,env=>.nx env
 |.cons s r,env=>(cP T s env).andThen (aP T r)
end
structure Fn where
 ps:Nat
 slots:Nat
 body:bV
noncomputable def aJ(ds:List D)(n:Nat):En:=ds.map (λd=>ζ (d,bQ d []))++π (n-ds.length) ε
noncomputable def run(fns:List Fn)(gl:Nat->D)(fuel:Nat):Nat->Nat->List D->Rs (D×Bool)
 |0,_,_=>.bad
 |n+1,f,ds=>match fns[f]? with
  |none=>.bad
  |some F=>if ds.length=F.ps then(match aP ⟨run fns gl fuel n,gl,fuel⟩ F.body (aJ ds F.slots)with
   |.rt d fr=>.ok (d,fr)
   |.nx _=>.ok (.Ii,δ)
   |_=>.bad)else .bad
end Pc
end
section
namespace Pc
open PySem L2
noncomputable abbrev Frag:=ψ
inductive jz:List AT->List (Key×Option Int)->Prop where
 |nil:jz [] []
 |cons {e:AT}{es:List AT}{k v:Int}{kvs:List (Key×Option Int)}{t u:XY}(hh:e.hash=hashInt k) (hk:e.key=.int k t) (hv:e.val=.int v u) (r:jz es kvs):jz (e::es) ((.inl k,ζ v)::kvs)
 |si {e:AT}{es:List AT}{k:Str}{v:Int}{kvs:List (Key×Option Int)}{t u:XY}(hk:e.key=.str k t) (hv:e.val=.int v u) (r:jz es kvs):jz (e::es) ((.inr k,ζ v)::kvs)
 |sn {e:AT}{es:List AT}{k:Str}{kvs:List (Key×Option Int)}{t:XY}(hk:e.key=.str k t) (hv:e.val=.none) (r:jz es kvs):jz (e::es) ((.inr k,ε)::kvs)
def Fe(K:Frag)(a:ι)(kvs:List (Key×Option Int)):Prop:=∃o es ep,K.lookup a=ζ o/\o.ExactDict/\o.data=.dict es ep/\jz es.toList kvs/\(kvs.map (·.1)).Nodup
def rS(w:Ξ)(K:Frag):Prop:=∀a o es ep,K.lookup a=ζ o->o.data=.dict es ep->∀kvs,jz es.toList kvs->∀e∈es.toList,∀s t,e.key=.str s t->(a==Ch)=γ/\e.hash=ă w s
inductive ML where
 |l (vs:List V)|k (kvs:List (Key×V))|t (kvs:List (List Key×V))
noncomputable def ML.o:ML->HO
 |.l vs=>.lst vs
 |.k kvs=>.dK kvs
 |.t kvs=>.dT kvs
noncomputable def rG(ks:List (List Int)):List (List Key×V):=ks.map λk=>(k.map .inl,.bl δ)
noncomputable def wo:List V->Bool
 |[.int i,.int j]=>iL i j
 |_=>γ
noncomputable def j8(K:Frag)(H:Hp)(a:ι)(xs:List V):Prop:=
 H a=ζ (.tup xs) \/
  wo xs=γ/\∃(o:na) (its:Array η) (n:Nat),K.lookup a=ζ o/\o.cls=.type "tuple"/\o.data=.seq its n/\its.size<=Ζ/\aL xs its.toList
noncomputable def vO(K:Frag)(H:Hp):MV->V->Prop
 |.int i,v=>v=.int i
noncomputable def kD(K:Frag)(H:Hp):List (Int×MV)->List (Key×V)->Prop
 |[],[]=>True
 |q::r,p::s=>p.1=.inl q.1/\vO K H q.2 p.2/\kD K H r s
 |_,_=>False
variable {H H':Hp}{K:Frag}
theorem vO.keep(t:∀b vs,j8 K H b vs->j8 K H' b vs):∀{m:MV}{v:V},vO K H m v->vO K H' m v
 |.int _,_,h=>h
theorem kD.keep(t:∀b vs,j8 K H b vs->j8 K H' b vs):∀{q:List (Int×MV)}{x:List (Key×V)},kD K H q x->kD K H' q x
 |[],[],h=>h
 |_::_,_::_,⟨a,b,c⟩=>⟨a,b.keep t,c.keep t⟩
 |[],_::_,h=>h.elim
 |_::_,[],h=>h.elim
theorem kD.len:∀{q:List (Int×MV)}{x:List (Key×V)},kD K H q x->x.length=q.length
 |[],[],_=>rfl
 |_::_,_::_,⟨_,_,c⟩=>by rw[av,av,c.len]
 |[],_::_,h=>h.elim
 |_::_,[],h=>h.elim
variable {a:ι}
theorem j8.sq{xs:List V}(h:j8 K H a xs):nz K H a xs:=h.imp .inl And.right
mutual
inductive Rep(K:Frag) (H:Hp):D->V->List ι->Prop where
 |Ii:Rep K H .Ii .Ii []
 |bl (b:Bool):Rep K H (.bl b) (.bl b) []
 |int (i:Int):Rep K H (.int i) (.int i) []
 |str (s:Str):Rep K H (.str s) (.str s) []
 |lst {p:ι}{vs:List V}{ds:List D}{G:List ι}(h:Rd H p (.lst vs)) (r:aF K H ds vs G):Rep K H (.lst ds) (.ref p) (p::G)
 |tup {p:ι}{vs:List V}{ds:List D}{G:List ι}(h:j8 K H p vs) (r:aF K H ds vs G):Rep K H (.tup ds) (.ref p) G
 |JI {p:ι}{kvs:List (Key×Option Int)}(h:Fe K p kvs):Rep K H (.JI kvs) (.ref p) []
 |IA {p:ι}{ks:List (Int×MV)}{xs:List (Key×V)}(h:H p=ζ (.dK xs)) (r:kD K H ks xs):Rep K H (.IA ks) (.ref p) [p]
 |IK {p:ι}{ks:List (List Int)}(h:Rd H p (.dT (rG ks))):Rep K H (.IK ks) (.ref p) [p]
inductive aF(K:Frag) (H:Hp):List D->List V->List ι->Prop where
 |nil:aF K H [] [] []
 |cons {d:D}{v:V}{ds:List D}{vs:List V}{G G':List ι}(h:Rep K H d v G) (r:aF K H ds vs G'):aF K H (d::ds) (v::vs) (G++G')
end
variable {b:ι}
theorem ue(k:∀u:HO,H b=ζ u->H' b=ζ u){o:HO}(h:Rd H b o):Rd H' b o:=by
 rcases h with h|⟨u,h⟩
 .exact .inl (k _ h)
 .exact .inr ⟨u,k _ h⟩
def Hc(H H':Hp):Prop:=∀b o u,H b=ζ (.JA o u)->H' b=ζ (.JA o u)
variable {G:List ι}{d:D}{ds:List D}{v:V}{vs:List V}
section
variable {K:Frag}{H H':Hp}
theorem Rep.keep(t:∀b vs,j8 K H b vs->j8 K H' b vs)(z:Hc H H')(h:Rep K H d v G):(∀b∈G,∀u:HO,H b=ζ u->H' b=ζ u)->Rep K H' d v G:=
 Rep.rec (motive_1:=λd v G _=>(∀b∈G,∀u:HO,H b=ζ u->H' b=ζ u)->Rep K H' d v G) (motive_2:=λds vs G _=>(∀b∈G,∀u:HO,H b=ζ u->H' b=ζ u)->aF K H' ds vs G)
  (λ_=>.Ii) (λb _=>.bl b) (λi _=>.int i) (λs _=>.str s) (λh _ ih k=>.lst (ue (k _ ah) h) (ih λb hb=>k b (ae _ hb)))
  (λh _ ih k=>.tup (t _ _ h) (ih k)) (λh _=>.JI h) (λh r k=>.IA (k _ ah _ h) (r.keep t)) (λh k=>.IK (ue (k _ ah) h))
  (λ_=>.nil) (λ_ _ i1 i2 k=>.cons (i1 λb hb=>k b (au _ hb)) (i2 λb hb=>k b (ak _ hb))) h
theorem aF.keep(t:∀b vs,j8 K H b vs->j8 K H' b vs)(z:Hc H H')(h:aF K H ds vs G):(∀b∈G,∀u:HO,H b=ζ u->H' b=ζ u)->aF K H' ds vs G:=
 aF.rec (motive_1:=λd v G _=>True) (motive_2:=λds vs G _=>(∀b∈G,∀u:HO,H b=ζ u->H' b=ζ u)->aF K H' ds vs G)
  trivial (λ_=>trivial) (λ_=>trivial) (λ_=>trivial) (λ_ _ _=>trivial) (λ_ _ _=>trivial) (λ_=>trivial) (λ_ _=>trivial) (λ_=>trivial)
  (λ_=>.nil) (λh _ _ i2 k=>.cons (Rep.keep t z h λb hb=>k b (au _ hb)) (i2 λb hb=>k b (ak _ hb))) h
theorem aG.rd(e:aG H H'){o:HO}(h:Rd H b o):Rd H' b o:=by
 rcases h with h|⟨u,h⟩
 .exact .inl (e _ _ h)
 .exact .inr ⟨u,e _ _ h⟩
theorem aG.MY(e:aG H H')(h:j8 K H b vs):j8 K H' b vs:=by
 rcases h with h|h
 .exact .inl (e _ _ h)
 .exact .inr h
theorem aG.sqT(e:aG H H')(h:nz K H b vs):nz K H' b vs:=by
 rcases h with h|h
 .exact .inl (aG.rd e h)
 .exact .inr h
theorem Rep.same(e:aG H H')(h:Rep K H d v G):Rep K H' d v G:=h.keep (λ_ _=>aG.MY e) (λ_ _ _ h=>e _ _ h) λ_ _ _ h=>e _ _ h
theorem aF.same(e:aG H H'){d:List D}{v:List V}(h:aF K H d v G):aF K H' d v G:=h.keep (λ_ _=>aG.MY e) (λ_ _ _ h=>e _ _ h) λ_ _ _ h=>e _ _ h
theorem Rep.flat(h:Rep K H d v G):d.flat=δ->G=[]:=
 Rep.rec (motive_1:=λd v G _=>d.flat=δ->G=[]) (motive_2:=λds vs G _=>D.Ig ds=δ->G=[])
  (λ_=>rfl) (λ_ _=>rfl) (λ_ _=>rfl) (λ_ _=>rfl) (λ_ _ _ f=>by simp[D.flat]at f) (λ_ _ ih f=>ih (by simpa[D.flat]using f)) (λ_ _=>rfl) (λ_ _ f=>by simp[D.flat]at f) (λ_ f=>by simp[D.flat]at f)
  (λ_=>rfl) (λ_ _ i1 i2 f=>by
   simp only[D.Ig,ai]at f;rw[i1 f.1,i2 f.2];rfl) h
theorem aF.flat(h:aF K H ds vs G):D.Ig ds=δ->G=[]:=
 aF.rec (motive_1:=λd v G _=>True) (motive_2:=λds vs G _=>D.Ig ds=δ->G=[])
  trivial (λ_=>trivial) (λ_=>trivial) (λ_=>trivial) (λ_ _ _=>trivial) (λ_ _ _=>trivial) (λ_=>trivial) (λ_ _=>trivial) (λ_=>trivial)
  (λ_=>rfl) (λh _ _ i2 f=>by
   simp only[D.Ig,ai]at f;rw[Rep.flat h f.1,i2 f.2];rfl) h
theorem Rep.live(h:Rep K H d v G):∀a∈G,∃vs:ML,Rd H a vs.o:=
 Rep.rec (motive_1:=λd v G _=>∀a∈G,∃vs:ML,Rd H a vs.o) (motive_2:=λds vs G _=>∀a∈G,∃vs:ML,Rd H a vs.o)
  (λ_ h=>(nomatch h)) (λ_ _ h=>(nomatch h)) (λ_ _ h=>(nomatch h)) (λ_ _ h=>(nomatch h)) (λh _ ih a m=>(c9.mp m).elim (λe=>e ▸ ⟨.l _,h⟩) (ih a)) (λ_ _ ih=>ih) (λ_ _ h=>(nomatch h))
  (λh _ a m=>(gr.mp m) ▸ ⟨.k _,.inl h⟩) (λh a m=>(gr.mp m) ▸ ⟨.t _,h⟩)
  (λ_ h=>(nomatch h)) (λ_ _ i1 i2 a m=>(i9.mp m).elim (i1 a) (i2 a)) h
theorem aF.live(h:aF K H ds vs G):∀a∈G,∃vs:ML,Rd H a vs.o:=
 aF.rec (motive_1:=λd v G _=>True) (motive_2:=λds vs G _=>∀a∈G,∃vs:ML,Rd H a vs.o)
  trivial (λ_=>trivial) (λ_=>trivial) (λ_=>trivial) (λ_ _ _=>trivial) (λ_ _ _=>trivial) (λ_=>trivial) (λ_ _=>trivial) (λ_=>trivial)
  (λ_ h=>(nomatch h)) (λh _ _ i2 a m=>(i9.mp m).elim (Rep.live h a) (i2 a)) h
theorem Rd.Km{u:HO}(h:Rd H a u):H a≠ε:=by
 rcases h with h|⟨o,h⟩<;>rw[h]<;>simp
theorem Rep.nn(h:Rep K H d v G)(m:a∈G):H a≠ε:=let ⟨_,q⟩:=h.live a m;Rd.Km q
theorem aF.nn{d:List D}{v:List V}(h:aF K H d v G)(m:a∈G):H a≠ε:=let ⟨_,q⟩:=h.live a m;Rd.Km q
theorem aF.len:∀{ds:List D}{vs:List V}{G:List ι},aF K H ds vs G->ds.length=vs.length
 |_,_,_,.nil=>rfl
 |_,_,_,.cons _ r=>by simp[aF.len r]
theorem aF.get:∀{ds:List D}{vs:List V}{G:List ι}{i:Nat}{d:D},aF K H ds vs G->ds[i]? = ζ d->∃v G',vs[i]? = ζ v/\Rep K H d v G'/\G'.Sublist G
 |_,_,_,_,_,.nil,e=>by simp at e
 |_,_,_,0,_,.cons h r,e=>by
  simp at e;subst e;exact⟨_,_,rfl,h,List.sublist_append_left _ _⟩
 |_,_,_,i+1,d,.cons h r,e=>by
  obtain⟨v,G',a,b,c⟩:=aF.get (i:=i) (d:=d) r (by simpa using e);exact⟨v,G',by simpa using a,b,c.trans (YR _ _)⟩
theorem aF.append:∀{ds es:List D}{vs us:List V}{G G':List ι},aF K H ds vs G->aF K H es us G'->aF K H (ds++es) (vs++us) (G++G')
 |_,_,_,_,_,_,.nil,s=>s
 |_,_,_,_,_,_,.cons h r,s=>by
  rw[gy];exact .cons h (aF.append r s)
theorem aF.take:∀{ds:List D}{vs:List V}{G:List ι}(n:Nat),aF K H ds vs G->∃G',aF K H (ds.take n) (vs.take n) G'/\G'.Sublist G
 |_,_,_,0,_=>⟨[],by simpa using .nil,by simp⟩
 |_,_,_,_+1,.nil=>⟨[],by simpa using .nil,by simp⟩
 |_,_,_,n+1,.cons h r=>by
  obtain⟨G',a,b⟩:=aF.take n r;exact⟨_,by simpa using .cons h a,Ĩ (YS _) b⟩
theorem aF.drop:∀{ds:List D}{vs:List V}{G:List ι}(n:Nat),aF K H ds vs G->∃G',aF K H (ds.drop n) (vs.drop n) G'/\G'.Sublist G
 |_,_,_,0,r=>⟨_,by simpa using r,YS _⟩
 |_,_,_,_+1,.nil=>⟨[],by simpa using .nil,by simp⟩
 |_,_,_,n+1,.cons h r=>by
  obtain⟨G',a,b⟩:=aF.drop n r;exact⟨_,by simpa using a,b.trans (YR _ _)⟩
theorem aF.split:∀{ds:List D}{vs:List V}{G:List ι}{i:Nat}{d:D},aF K H ds vs G->ds[i]? = ζ d->∃v G1 G' G2,vs[i]? = ζ v/\G=G1++(G'++G2)/\Rep K H d v G' /\
  ∀(H':Hp) (d':D) (v':V) (N:List ι),(∀b vs,j8 K H b vs->j8 K H' b vs)->Hc H H'->(∀b∈G1++G2,∀u:HO,H b=ζ u->H' b=ζ u)->Rep K H' d' v' N->aF K H' (ds.set i d') (vs.set i v') (G1++(N++G2))
 |_,_,_,_,_,.nil,e=>by simp at e
 |_,_,_,0,_,.cons (G:=G) (G':=G') h r,e=>by
  simp at e;subst e;refine⟨_,[],_,_,rfl,rfl,h,λH' d' v' N t z k n=>?_⟩;show aF K H' (_::_) (_::_) (N++G');exact .cons n (r.keep t z λb hb=>k b (by simpa using hb))
 |_,_,_,i+1,d,.cons (G:=G) (G':=G') h r,e=>by
  obtain⟨v,G1,Gi,G2,a,b,c,f⟩:=aF.split (i:=i) (d:=d) r (by simpa using e);refine⟨v,G++G1,Gi,G2,by simpa using a,by rw[b];simp,c,λH' d' v' N t z k n=>?_⟩;have q:=aF.cons (h.keep t z λb hb=>k b (by simp[hb])) (f H' d' v' N t z (λb hb=>k b (by simp at hb ⊢;exact ĉ hb)) n);rw[<-gy]at q;exact q
end
noncomputable def aY:Tg->Bool
 |.own=>δ
 |.lk=>δ
 |.sh _=>γ
structure RE(K:Frag)(P:ι->Prop)(env:En)(σ:L2.St)(H:Hp)(F:Nat->List ι):Prop where
 len:env.length=σ.length
 val:∀i d t,env[i]? = ζ (ζ (d,t))->∃v,σ[i]? = ζ (ζ v)/\Rep K H d v (F i)
 Li:∀i,(∀d t,env[i]?≠ζ (ζ (d,t)))->F i=[]
 one:∀i d t,env[i]? = ζ (ζ (d,t))->aY t=δ->(F i).Nodup/\(∀a∈F i,∃vs:ML,H a=ζ vs.o) /\
  ∀a∈F i,∀j d' t',env[j]? = ζ (ζ (d',t'))->a∈F j->i∈be j t'
 wr:∀i d,env[i]? = ζ (ζ (d,.own))->∀a∈F i,¬ P a
 pl:∀a,P a->H a≠ε
structure bH(env:En)(F:Nat->List ι)(H:Hp)(r:Rt)(H':Hp)(G:List ι):Prop where
 cont:∀a∈G,H a=ε\/∃i d t,a∈F i/\env[i]? = ζ (ζ (d,t))/\∀q∈be i t,q∈r.roots
 mv:∀R,r=.mv R->G.Nodup/\(∀a∈G,∃vs:ML,H' a=ζ vs.o)/\∀a∈G,H a=ε\/∃i d t,i∈R/\a∈F i/\env[i]? = ζ (ζ (d,t))/\aY t=δ
variable {F:Nat->List ι}{env:En}{r:Rt}
theorem bH.nil:bH env F H r H' []:=⟨λ_ h=>(nomatch h),λ_ _=>⟨bu,λ_ h=>(nomatch h),λ_ h=>(nomatch h)⟩⟩
theorem RE.same{P:ι->Prop}{σ:L2.St}(r:RE K P env σ H F)(e:aG H H'):RE K P env σ H' F where
 len:=r.len
 val:=λi d t h=>let ⟨v,a,b⟩:=r.val i d t h;⟨v,a,b.same e⟩
 Li:=r.Li
 one:=λi d t h o=>let ⟨a,b,c⟩:=r.one i d t h o;⟨a,λx hx=>let ⟨vs,q⟩:=b x hx;⟨vs,e _ _ q⟩,c⟩
 wr:=r.wr
 pl:=λa h z=>by
  cases q:H a with
  |none=>exact r.pl a h q
  |some o=>rw[e _ _ q]at z;cases z
theorem aG.no(e:aG H H')(h:H' a=ε):H a=ε:=by
 cases q:H a with
 |none=>rfl
 |some o=>rw[e _ _ q]at h;cases h
variable {H1:Hp}
theorem bH.back(h:bH env F H1 r H' G)(e:aG H H1):bH env F H r H' G where
 cont:=λa ha=>(h.cont a ha).imp (aG.no e) id
 mv:=λR hr=>let ⟨a,b,c⟩:=h.mv R hr;⟨a,b,λx hx=>(c x hx).imp (aG.no e) id⟩
theorem bH.later(h:bH env F H r H1 G)(e:aG H1 H'):bH env F H r H' G where
 cont:=h.cont
 mv:=λR hr=>let ⟨a,b,c⟩:=h.mv R hr;⟨a,λx hx=>let ⟨vs,q⟩:=b x hx;⟨vs,e _ _ q⟩,c⟩
theorem bH.part{r':Rt}{G':List ι}(h:bH env F H r H' G)(hs:∀a∈G',a∈G)(hr:∀q∈r.roots,q∈r'.roots)(hn:∀R,r'≠.mv R):bH env F H r' H' G' where
 cont:=λa ha=>(h.cont a (hs a ha)).imp id λ⟨i,d,t,x,y,z⟩=>⟨i,d,t,x,y,λq hq=>hr q (z q hq)⟩
 mv:=λR e=>absurd e (hn R)
noncomputable def pT(F:Nat->List ι)(i:Nat)(G:List ι):Nat->List ι:=λj=>if j=i then G else F j
variable {i:Nat}
theorem dI:pT F i G i=G:=if_pos rfl
variable {j:Nat}
theorem dP(h:j≠i):pT F i G j=F j:=if_neg h
theorem sC(env:En)(i:Nat)(d:D)(t:Tg):(put env i d t).length=env.length:=by simp[put]
variable {t:Tg}
theorem dR(h:i<env.length):(put env i d t)[i]? = ζ (ζ (d,t)):=by
 unfold put;rw[Β (by simpa using h)]
theorem xO(h:j≠i):(put env i d t)[j]? = (env[j]?).map λs=>s.map λp=>(p.1,p.2.drop i):=by
 unfold put;rw[Θ (cj h),τ]
variable {d':D}
theorem iS{t':Tg}(h:j≠i)(e:(put env i d t)[j]? = ζ (ζ (d',t'))):∃t0,env[j]? = ζ (ζ (d',t0))/\t'=t0.drop i:=by
 rw[xO h]at e;cases q:env[j]? with
 |none=>rw[q]at e;cases e
 |some s=>
  rw[q]at e;cases s with
  |none=>cases e
  |some p=>
   obtain⟨a,b⟩:=p;simp only[cm,cz,fq]at e;obtain⟨rfl,rfl⟩:=e;exact⟨b,rfl,rfl⟩
theorem j9(t:Tg)(i:Nat):aY (t.drop i)=aY t:=by cases t<;>rfl
theorem km{k:Nat}(h:k∈be j t)(hk:k≠i):k∈be j (t.drop i):=by
 cases t with
 |own=>exact h
 |lk=>exact h
 |sh R=>
  simp only[be,Tg.drop,Xg]at h ⊢;exact⟨h,by simpa using hk⟩
section
variable {K:Frag}{P:ι->Prop}{env:En}{σ:L2.St}{H:Hp}{F:Nat->List ι}
theorem RE.nn(re:RE K P env σ H F)(h:env[j]? = ζ (ζ (d,t)))(m:a∈F j):H a≠ε:=let ⟨_,_,r⟩:=re.val j d t h;r.nn m
theorem RE.at'(re:RE K P env σ H F)(m:a∈F j):∃d t,env[j]? = ζ (ζ (d,t)):=by
 by_cases h:∃d t,env[j]? = ζ (ζ (d,t))
 .exact h
 .rw[re.Li j λd t e=>h ⟨d,t,e⟩]at m;cases m
theorem RE.put(re:RE K P env σ H F){t:Tg}(hi:i<env.length)(rp:Rep K H d v G)
  (ho:aY t=δ->G.Nodup/\(∀a∈G,∃vs:ML,H a=ζ vs.o)/\∀a∈G,∀j,j≠i->a∉F j) (hw:t=.own->∀a∈G,¬ P a)
  (hs:∀a∈G,∀j d' t',j≠i->env[j]? = ζ (ζ (d',t'))->aY t'=δ->a∈F j->j∈be i t):RE K P (put env i d t) (σ.set i (ζ v)) H (pT F i G) where
 len:=by rw[sC,ba];exact re.len
 val:=λj d' t' e=>by
  by_cases h:j=i
  .subst h;rw[dR hi]at e;cases e;exact⟨v,Β (by rw[<-re.len];exact hi),by rw[dI];exact rp⟩
  .obtain⟨t0,e0,rfl⟩:=iS h e;obtain⟨u,a,b⟩:=re.val j d' t0 e0;exact⟨u,by rw[Θ (cj h)];exact a,by rw[dP h];exact b⟩
 Li:=λj h=>by
  by_cases hj:j=i
  .subst hj;exact absurd (dR hi) (h d t)
  .rw[dP hj];refine re.Li j λd' t' e=>h d' (t'.drop i) ?_
   rw[xO hj,e];rfl
 one:=λj d' t' e o=>by
  by_cases h:j=i
  .subst h;rw[dR hi]at e;cases e;obtain⟨a,b,c⟩:=ho o;rw[dI];refine⟨a,b,λx hx k d2 t2 e2 m=>?_⟩;by_cases hk:k=j
   .subst hk;rw[dR hi]at e2;cases e2;cases t<;>simp_all [be,aY]
   .rw[dP hk]at m;exact absurd m (c x hx k hk)
  .obtain⟨t0,e0,rfl⟩:=iS h e;rw[j9]at o;obtain⟨a,b,c⟩:=re.one j d' t0 e0 o;rw[dP h];refine⟨a,b,λx hx k d2 t2 e2 m=>?_⟩;by_cases hk:k=i
   .subst hk;rw[dR hi]at e2;cases e2;rw[dI]at m;exact hs x m j d' t0 h e0 o hx
   .rw[dP hk]at m;obtain⟨t3,e3,rfl⟩:=iS hk e2;exact km (c x hx k d2 t3 e3 m) h
 wr:=λj d' e=>by
  by_cases h:j=i
  .subst h;rw[dR hi]at e;cases e;rw[dI];exact hw rfl
  .obtain⟨t0,e0,q⟩:=iS h e;rw[dP h];cases t0 with
   |own=>exact re.wr j d' e0
   |lk=>cases q
   |sh R=>cases q
 pl:=re.pl
end
theorem eU(R:List Nat)(env:En):(kill R env).length=env.length:=by simp[kill]
theorem dA{R:List Nat}(e:(kill R env)[i]? = ζ (ζ (d,t))):env[i]? = ζ (ζ (d,t))/\i∉R/\∀q∈R,q∉be i t:=by
 unfold kill at e;rw[ii]at e;cases q:env[i]? with
 |none=>rw[q]at e;cases e
 |some s=>
  rw[q]at e;cases s with
  |none=>cases e
  |some p=>
   obtain⟨a,b⟩:=p;simp only[cm,cz]at e;by_cases h:(R.contains i || iU R b)=δ
   .rw[if_pos h]at e;cases e
   .rw[if_neg h]at e;cases e;rw[eh,not_or]at h;have h1:i∉R:=λz=>h.1 (by simpa using z)
    refine⟨rfl,h1,λr hq z=>?_⟩;cases t with
    |own=>simp only[be,gr]at z;subst z;exact h1 hq
    |lk=>simp only[be,gr]at z;subst z;exact h1 hq
    |sh Q=>
     apply h.2;simp only[iU,é];exact⟨r,z,by simpa using hq⟩
variable {p:ι}{ws:List V}{x:Nat}{xs:List D}
section
variable {K:Frag}{P:ι->Prop}{env:En}{σ:L2.St}{H:Hp}{F:Nat->List ι}
variable {o:HO}
theorem kI(hp:H p=ζ (.lst ws))(h:j8 K H b vs):j8 K (upd H p o) b vs:=by
 rcases h with h|h
 .exact .inl (by rw[aE];exact h;intro z;subst z;rw[hp]at h;cases h)
 .exact .inr h
theorem yR{ws:ML}(hp:H p=ζ ws.o)(h:j8 K H b vs):j8 K (upd H p o) b vs:=by
 rcases h with h|h
 .exact .inl (by rw[aE];exact h;intro z;subst z;rw[hp]at h;cases ws<;>cases h)
 .exact .inr h
theorem EF{o':HO}(Ly:b≠p)(h:Rd H b o):Rd (upd H p o') b o:=by
 rcases h with h|⟨u,h⟩
 .exact .inl (by rw[aE Ly];exact h)
 .exact .inr ⟨u,by rw[aE Ly];exact h⟩
theorem jf{H:Hp}{ws:ML}(hp:H p=ζ ws.o):Hc H (L2.upd H p o):=λb ob u h=>by
 rw[aE λe=>?_]
 .exact h
 .subst e;rw[hp]at h;cases ws<;>cases h
theorem Rep.upd(hp:H p=ζ (.lst ws))(h:Rep K H d v G)(hn:p∉G):Rep K (upd H p o) d v G:=
 h.keep (λ_ _=>kI hp) (jf (ws:=.l _) hp) λb hb _ h=>(aE (λ(z:b=p)=>hn (z ▸ hb))).trans h
theorem Rep.PQ{ws:ML}(hp:H p=ζ ws.o)(h:Rep K H d v G)(hn:p∉G):Rep K (L2.upd H p o) d v G:=
 h.keep (λ_ _=>yR hp) (jf hp) λb hb _ h=>(aE (λ(z:b=p)=>hn (z ▸ hb))).trans h
theorem aF.upd{d:List D}{v:List V}(hp:H p=ζ (.lst ws))(h:aF K H d v G)(hn:p∉G):aF K (upd H p o) d v G:=
 h.keep (λ_ _=>kI hp) (jf (ws:=.l _) hp) λb hb _ h=>(aE (λ(z:b=p)=>hn (z ▸ hb))).trans h
noncomputable def mJ(F:Nat->List ι)(env:En)(x:Nat)(R:List Nat)(G:List ι):Nat->List ι:=λj=>if j=x then G else match(kill (x::R) env)[j]? with
 |some (ζ _)=>F j
 |_=>[]
theorem RE.Ko(re:RE K P env σ H F){d':D}{vs:ML}{R:List Nat}{N G:List ι}(hx:env[x]? = ζ (ζ (d,.own)))(hv:σ[x]? = ζ (ζ v))(hp:p∈F x)
  (rp:Rep K (upd H p vs.o) d' v G) (nd:G.Nodup) (sub:∀a∈G,a∈F x\/a∈N)
  (hN:∀a∈N,(∃vs:ML,H a=ζ vs.o)/\¬ P a/\∀(j:Nat) (d:D) (t:Tg),env[j]? = ζ (ζ (d,t))->a∈F j->∃q∈x::R,q∈be j t) :
  RE K P ((kill (x::R) env).set x (ζ (d',.own))) σ (upd H p vs.o) (mJ F env x R G):=by
 obtain⟨ndx,O8,onx⟩:=re.one x d .own hx rfl;obtain⟨ws,IG⟩:=O8 p hp;have NJ:x<(kill (x::R) env).length:=by
  rw[eU];exact(χ.mp hx).1
 have other:∀{j:Nat}{d2:D}{t2:Tg},j≠x->((kill (x::R) env).set x (ζ (d',.own)))[j]? = ζ (ζ (d2,t2))->(kill (x::R) env)[j]? = ζ (ζ (d2,t2)):=λ{j d2 t2} hj e=>by
  rw[Θ (cj hj)]at e;exact e
 have live:∀a,(∃vs:ML,H a=ζ vs.o)->∃ws:ML,upd H p vs.o a=ζ ws.o:=λa ⟨ws,h⟩=>by
  by_cases z:a=p
  .subst z;exact⟨vs,aK⟩
  .exact⟨ws,by rw[aE z];exact h⟩
 have apart:∀{j:Nat}{d2:D}{t2:Tg},j≠x->(kill (x::R) env)[j]? = ζ (ζ (d2,t2))->∀a∈F x,a∉F j:=λ{j d2 t2} hj e a ha hb=>by
  obtain⟨e0,_,h3⟩:=dA e;exact h3 x ah (onx a ha j d2 t2 e0 hb)
 have fj:∀{j:Nat}{d2:D}{t2:Tg},j≠x->(kill (x::R) env)[j]? = ζ (ζ (d2,t2))->mJ F env x R G j=F j:=λ{j d2 t2} hj e=>by
  unfold mJ;rw[if_neg hj,e]
 have fx:mJ F env x R G x=G:=if_pos rfl;refine⟨?_,λj d2 t2 e=>?_,λj h=>?_,λj d2 t2 e o=>?_,λj d2 e=>?_,λa h=>?_⟩
 .rw[ba,eU];exact re.len
 .by_cases hj:j=x
  .subst hj;rw[Β NJ]at e;cases e;exact⟨v,hv,by rw[fx];exact rp⟩
  .have e1:=other hj e;obtain⟨e0,_,_⟩:=dA e1;obtain⟨u,h1,h2⟩:=re.val j d2 t2 e0;exact⟨u,h1,by rw[fj hj e1];exact h2.PQ IG (apart hj e1 p hp)⟩
 .by_cases hj:j=x
  .subst hj;exact absurd (Β NJ) (h d' .own)
  .unfold mJ;rw[if_neg hj];split
   .rename_i q e;exact absurd (by rw[Θ (cj hj)];exact e) (h q.1 q.2)
   .rfl
 .by_cases hj:j=x
  .subst hj;rw[Β NJ]at e;cases e;rw[fx];refine⟨nd,λa ha=>live a ?_,λa ha k d3 t3 e3 m=>?_⟩
   .rcases sub a ha with q|q
    .exact O8 a q
    .exact (hN a q).1
   .by_cases hk:k=j
    .subst hk;rw[Β NJ]at e3;cases e3;simp[be]
    .have e4:=other hk e3;rw[fj hk e4]at m;rcases sub a ha with q|q
     .exact absurd m (apart hk e4 a q)
     .obtain⟨e0,_,h3⟩:=dA e4;obtain⟨r,r1,r2⟩:=(hN a q).2.2 k d3 t3 e0 m;exact absurd r2 (h3 r r1)
  .have e1:=other hj e;obtain⟨e0,_,_⟩:=dA e1;obtain⟨a,b,c⟩:=re.one j d2 t2 e0 o;rw[fj hj e1];refine⟨a,λy hy=>live y (b y hy),λy hy k d3 t3 e3 m=>?_⟩;by_cases hk:k=x
   .subst hk;rw[Β NJ]at e3;cases e3;rw[fx]at m;rcases sub y m with q|q
    .exact absurd hy (apart hj e1 y q)
    .obtain⟨_,_,h3⟩:=dA e1;obtain⟨r,r1,r2⟩:=(hN y q).2.2 j d2 t2 e0 hy;exact absurd r2 (h3 r r1)
   .have e4:=other hk e3;rw[fj hk e4]at m;exact c y hy k d3 t3 (dA e4).1 m
 .by_cases hj:j=x
  .subst hj;rw[fx];intro a ha;rcases sub a ha with q|q
   .exact re.wr j d hx a q
   .exact (hN a q).2.1
  .have e1:=other hj e;rw[fj hj e1];exact re.wr j d2 (dA e1).1
 .intro z;by_cases q:a=p
  .subst q;rw[aK]at z;cases z
  .rw[aE q]at z;exact re.pl a h z
theorem RE.Ma(re:RE K P env σ H F){R:List Nat}{N:List ι}(hx:env[x]? = ζ (ζ (d,.own)))(hv:σ[x]? = ζ (ζ v))(hp:p∈F x)
  (rp:Rep K (upd H p (.lst vs)) d' v G) (nd:G.Nodup) (sub:∀a∈G,a∈F x\/a∈N)
  (hN:∀a∈N,(∃vs:ML,H a=ζ vs.o)/\¬ P a/\∀(j:Nat) (d:D) (t:Tg),env[j]? = ζ (ζ (d,t))->a∈F j->∃q∈x::R,q∈be j t) :
  RE K P ((kill (x::R) env).set x (ζ (d',.own))) σ (upd H p (.lst vs)) (mJ F env x R G):=re.Ko (vs:=.l vs) hx hv hp rp nd sub hN
inductive PV(K:Frag) (H:Hp):V->Option Int->ι->Prop where
 |top (p:ι):PV K H (.ref p) ε p
 |item {q p:ι}{ws:List V}{i:Int}{j:Nat}(h:Rd H q (.lst ws)\/nz K H q ws) (hj:iZ ws.length i=ζ j) (e:ws[j]? = ζ (.ref p)):PV K H (.ref q) (ζ i) p
theorem ED{n:Nat}{i:Int}(h:iZ n i=ζ j):j<n:=by
 unfold iZ at h;split at h
 .split at h
  .cases h;omega
  .cases h
 .split at h
  .cases h;omega
  .cases h
theorem Rep.lst_inv(h:Rep K H (.lst ds) v G):∃p vs G',v=.ref p/\G=p::G'/\Rd H p (.lst vs)/\aF K H ds vs G':=by
 cases h with
 |lst a b=>exact⟨_,_,_,rfl,rfl,a,b⟩
inductive Py(K:Frag) (H':Hp) (p:ι) (G0 G:List ι) (xs:List D) (W:List D->Hp->List ι->Prop):Prop
 |mk (vs:List V) (Gx:List ι) (y0:H' p=ζ (.lst vs)) (y1:aF K H' xs vs Gx) (y2:p∈G0) (y3:∀a∈Gx,a∈G0) (y4:Gx.Nodup) (y5:p∉Gx) (y6:∀ys us Gy,aF K (upd H' p (.lst us)) ys us Gy->Gy.Nodup->p∉Gy->(∀a∈Gy,a∈Gx\/a∉G)->∃G',W ys (upd H' p (.lst us)) G'/\G'.Nodup/\∀a∈G',a∈G0\/a∈Gy):Py K H' p G0 G xs W
theorem t7(hl:∀a∈G,∃vs:ML,H' a=ζ vs.o)(hp:p∈G)(r:Rd H' p (.lst vs)):H' p=ζ (.lst vs):=by
 obtain⟨ws,q⟩:=hl p hp;rcases r with r|⟨o,r⟩
 .exact r
 .rw[q]at r;cases ws<;>cases r
theorem w4{i:Int}{G0:List ι}{q:ι}(r:aF K H ds vs G0)(hs:∀a∈G0,a∈G)(n0:G0.Nodup)(hq:Rd H q (.lst vs)\/nz K H q vs)(hv:v=.ref q)(hj:iZ ds.length i=ζ j)(he:ds[j]? = ζ (.lst xs)) :
  ∃p,PV K H v (ζ i) p/\∀H',aG H H'->(∀a∈G,∃vs:ML,H' a=ζ vs.o)->Py K H' p G0 G xs λys h G1=>aF K h (ds.set j (.lst ys)) vs G1:=by
 obtain⟨w0,g0,e0,r0,_⟩:=r.get he;have hlen:=r.len;obtain⟨p,ws0,Gx0,rfl,_,_,_⟩:=r0.lst_inv
 .refine⟨p,by rw[hv];exact .item hq (by rw[<-hlen];exact hj) e0,λH' e hl=>?_⟩;obtain⟨w,A,B,C,e1,e2,r1,f⟩:=(r.same e).split he;rw[e0]at e1;cases e1;subst e2;obtain⟨p',ws,Gx,ep,rfl,hr,r2⟩:=r1.lst_inv;cases ep
  .have M4:p∈A++(p::Gx++C):=ak _ (au _ ah);rw[el]at n0;obtain⟨nA,nB,NA⟩:=n0;rw[el]at nB;obtain⟨nB1,nC,VN⟩:=nB;obtain⟨np,nx⟩:=li.mp nB1;have IG:=t7 hl (hs p M4) hr;refine⟨ws,Gx,IG,r2,M4,λa ha=>ak _ (au _ (ae _ ha)),nx,np,λys us Gy ry ny hy VZ=>?_⟩;have hA:p∉A:=λz=>NA p z p (au _ ah) rfl
   have hC:p∉C:=λz=>VN p ah p z rfl
   have e3:=f (upd H' p (.lst us)) (.lst ys) (.ref p) (p::Gy) (λ_ _=>kI IG) (jf (ws:=.l _) IG) (λb hb _ h=>(aE λ(z:b=p)=>by
    subst z;rcases i9.mp hb with hb|hb
    .exact hA hb
    .exact hC hb).trans h) (.lst (.inl aK) ry)
   have aT:vs.set j (.ref p)=vs:=by
    obtain⟨hj',ej⟩:=χ.mp e0;rw[<-ej,List.set_getElem_self]
   rw[aT]at e3;refine⟨_,e3,?_,λa ha=>?_⟩
   .rw[el];refine⟨nA,?_,λa ha b hb z=>?_⟩
    .rw[el];refine⟨li.mpr ⟨hy,ny⟩,nC,λa ha b hb z=>?_⟩;subst z;rcases c9.mp ha with rfl|ha
     .exact hC hb
     .rcases VZ a ha with q|q
      .exact VN a (ae _ q) a hb rfl
      .exact q (hs a (ak _ (ak _ hb)))
    .subst z;rcases i9.mp hb with hb|hb
     .rcases c9.mp hb with rfl|hb
      .exact hA ha
      .rcases VZ a hb with q|q
       .exact NA a ha a (au _ (ae _ q)) rfl
       .exact q (hs a (au _ ha))
     .exact NA a ha a (ak _ hb) rfl
   .rcases i9.mp ha with ha|ha
    .exact .inl (au _ ha)
    .rcases i9.mp ha with ha|ha
     .rcases c9.mp ha with rfl|ha
      .exact .inl M4
      .exact .inr ha
     .exact .inl (ak _ (ak _ ha))
theorem uO{path:Option Int}(rp:Rep K H d v G)(nd:G.Nodup)(h:d.Jn path=ζ xs):∃p,PV K H v path p/\∀H',aG H H'->(∀a∈G,∃vs:ML,H' a=ζ vs.o)->Py K H' p G G xs λys h G'=>Rep K h (d.Jh path ys) v G':=by
 cases path with
 |none=>
  cases rp with
  |lst hr r=>
   rename_i p vs ds G0;cases h;obtain⟨n1,n2⟩:=li.mp nd;refine⟨p,.top p,λH' e hl=>⟨vs,G0,t7 hl ah (aG.rd e hr),r.same e,ah,λa ha=>ae _ ha,n2,n1,λys us Gy ry ny hy hs=>?_⟩⟩;exact⟨p::Gy,.lst (.inl aK) ry,li.mpr ⟨hy,ny⟩,λa ha=>(c9.mp ha).imp (λz=>by rw[z];exact ah) id⟩
  |_=>cases h
 |some i=>
  cases rp with
  |lst hr r=>
   rename_i q vs ds G0;have h:((iZ ds.length i).bind λj=>match ds[j]? with|some (.lst ys)=>ζ ys|_=>ε)=ζ xs:=h;rw[ag]at h;obtain⟨j,hj,h⟩:=h;have he:ds[j]? = ζ (.lst xs):=by
    split at h
    .rename_i ys e;cases h;exact e
    .cases h
   obtain⟨n1,n2⟩:=li.mp nd;obtain⟨p,a1,ff⟩:=w4 r (λa ha=>ae _ ha) n2 (.inl hr) rfl hj he;refine⟨p,a1,λH' e hl=>?_⟩;obtain⟨ws,Gx,a2,a3,a4,a5,a6,a7,f⟩:=ff H' e hl;have hqp:q≠p:=λz=>n1 (by rw[z];exact a4)
   refine⟨ws,Gx,a2,a3,ae _ a4,λa ha=>ae _ (a5 a ha),a6,a7,λys us Gy ry ny hy hs=>?_⟩;obtain⟨G1,b1,b2,b3⟩:=f ys us Gy ry ny hy hs;show∃G',Rep K _ (D.Jh (.lst ds) (ζ i) ys) _ G'/\_;have es:D.Jh (.lst ds) (ζ i) ys=.lst (ds.set j (.lst ys)):=by simp[D.Jh,hj]
   rw[es];refine⟨q::G1,.lst (EF hqp (aG.rd e hr)) b1,li.mpr ⟨λz=>?_,b2⟩,λa ha=>?_⟩
   .rcases b3 q z with z|z
    .exact n1 z
    .rcases hs q z with z|z
     .exact n1 (a5 q z)
     .exact z ah
   .rcases c9.mp ha with rfl|ha
    .exact .inl ah
    .exact (b3 a ha).imp (ae _) id
  |_=>cases h
end
end Pc
end
section
namespace Pc
open PySem PySem.Spec PyProof.Rows L2
theorem Rs.HY{α β:Type}{x:Rs α}{f:α->Rs β}{b:β}(h:x.bind f=.ok b):∃a,x=.ok a/\f a=.ok b:=by
 cases x with
 |ok a=>exact⟨a,rfl,h⟩
 |bad=>cases h
theorem bY{α:Type}{o:Option α}{a:α}(h:ku o=.ok a):o=ζ a:=by
 cases o with
 |none=>cases h
 |some b=>cases h;rfl
variable {H:Hp}{p:ι}
theorem aG.new{o:HO}(h:H p=ε):aG H (upd H p o):=λb u e=>by
 rw[aE];exact e;intro z;subst z;rw[h]at e;cases e
theorem oX:lim<=Ζ:=by decide
theorem hU{n:Nat}(h:n<=lim):n<=Ζ:=a8 h oX
inductive Args(K:Frag) (env:En) (F:Nat->List ι):Hp->Hp->List (D×Rt)->List V->List ι->Prop where
 |nil {H H':Hp}(e:aG H H'):Args K env F H H' [] [] []
 |cons {H H1 H':Hp}{p:D×Rt}{v:V}{G G':List ι}{l:List (D×Rt)}{vs:List V}(e:aG H H1) (r:Rep K H1 p.1 v G) (t:bH env F H p.2 H1 G) (s:Args K env F H1 H' l vs G'):Args K env F H H' (p::l) (v::vs) (G++G')
variable {G:List ι}{H':Hp}{l:List (D×Rt)}{q:D×Rt}{vs:List V}
section
variable {K:Frag}{env:En}{F:Nat->List ι}
theorem Args.same:∀{H H':Hp}{l:List (D×Rt)}{vs:List V}{G:List ι},Args K env F H H' l vs G->aG H H'
 |_,_,_,_,_,.nil e=>e
 |_,_,_,_,_,.cons e _ _ s=>e.trans s.same
theorem Args.Io:∀{H H':Hp}{l:List (D×Rt)}{vs:List V}{G:List ι},Args K env F H H' l vs G->aF K H' (l.map (·.1)) vs G
 |_,_,_,_,_,.nil _=>.nil
 |_,_,_,_,_,.cons _ r _ s=>.cons (r.same s.same) s.Io
theorem Args.cont:∀{H H':Hp}{l:List (D×Rt)}{vs:List V}{G:List ι},Args K env F H H' l vs G->∀a∈G,H a=ε\/∃i d t,a∈F i/\env[i]? = ζ (ζ (d,t))/\∀q∈be i t,q∈aR (l.map (·.2))
 |_,_,_,_,_,.nil _,a,h=>by cases h
 |_,_,_,_,_,.cons (p:=p) (l:=l) e r t s,a,h=>by
  have e1:aR ((p::l).map (·.2))=p.2.roots++aR (l.map (·.2)):=by simp[aR]
  rw[e1];rcases i9.mp h with h|h
  .exact (t.cont a h).imp id λ⟨i,d,t,x,y,z⟩=>⟨i,d,t,x,y,λq hq=>au _ (z q hq)⟩
  .exact (s.cont a h).imp (aG.no e) λ⟨i,d,t,x,y,z⟩=>⟨i,d,t,x,y,λq hq=>ak _ (z q hq)⟩
theorem Args.two{p:D×Rt}{x y:V}(ar:Args K env F H H' [p,q] [x,y] G) :
  ∃H1 G1 G2,G=G1++G2/\aG H H1/\Rep K H1 p.1 x G1/\bH env F H p.2 H1 G1/\aG H1 H'/\Rep K H' q.1 y G2:=by
 cases ar with
 |cons e r t s=>
  cases s with
  |cons e' r' t' s'=>
   cases s' with
   |nil Wv=>exact⟨_,_,_,by rw[bh],e,r,t,e'.trans Wv,r'.same Wv⟩
theorem Args.mv{P:ι->Prop}{σ:L2.St}:∀{H H':Hp}{l:List (D×Rt)}{vs:List V}{G:List ι}{R:List Nat},RE K P env σ H F->Args K env F H H' l vs G->dB (l.map (·.2))=ζ R->R.Nodup ->
  G.Nodup/\(∀a∈G,∃vs:ML,H' a=ζ vs.o)/\∀a∈G,H a=ε\/∃i d t,i∈R/\a∈F i/\env[i]? = ζ (ζ (d,t))/\aY t=δ
 |_,_,_,_,_,_,_,.nil _,_,_=>⟨bu,λ_ h=>(nomatch h),λ_ h=>(nomatch h)⟩
 |H,_,_,_,_,_,re,.cons (p:=p) (l:=l) (G:=G) (G':=G') e r t s,hm,nd=>by
  obtain⟨d,rt⟩:=p;cases rt with
  |sh Q=>simp[dB]at hm
  |mv R1=>
   simp only[a9,dB,aa]at hm;obtain⟨R2,h2,rfl⟩:=hm;obtain⟨n1,n2,QC⟩:=el.mp nd;obtain⟨a1,b1,c1⟩:=t.mv R1 rfl;obtain⟨a2,b2,c2⟩:=Args.mv (re.same e) s h2 n2;refine⟨el.mpr ⟨a1,a2,λx hx y hy z=>?_⟩,λx hx=>?_,λx hx=>?_⟩
   .subst z;rcases c2 x hy with q|⟨i2,d2,t2,m2,f2,e2,o2⟩
    .exact r.nn hx q
    .rcases c1 x hx with q|⟨i1,d1,t1,m1,f1,e1,o1⟩
     .obtain⟨v,_,rp⟩:=re.val i2 d2 t2 e2;exact rp.nn f2 q
     .have q:=(re.one i1 d1 t1 e1 o1).2.2 x f1 i2 d2 t2 e2 f2;have q':i1=i2:=by cases t2<;>simp_all [be,aY]
      exact QC i1 m1 i2 m2 q'
   .rcases i9.mp hx with hx|hx
    .obtain⟨vs,q⟩:=b1 x hx;exact⟨vs,s.same _ _ q⟩
    .exact b2 x hx
   .rcases i9.mp hx with hx|hx
    .exact (c1 x hx).imp id λ⟨i,d,t,m,z⟩=>⟨i,d,t,au _ m,z⟩
    .exact (c2 x hx).imp (aG.no e) λ⟨i,d,t,m,z⟩=>⟨i,d,t,ak _ m,z⟩
theorem Args.comb{P:ι->Prop}{σ:L2.St}(re:RE K P env σ H F)(ar:Args K env F H H' l vs G):bH env F H (oS (l.map (·.2))) H' G:=by
 unfold oS;cases hm:dB (l.map (·.2))with
 |none=>exact⟨ar.cont,λR e=>by cases e⟩
 |some R=>
  have er:∀(l:List Rt) (R:List Nat),dB l=ζ R->aR l=R:=by
   intro l
   induction l with
   |nil=>intro R h;simp[dB]at h;subst h;rfl
   |cons x r ih=>
    intro R h;cases x with
    |sh Q=>simp[dB]at h
    |mv Q=>
     simp only[dB,aa]at h;obtain⟨R2,h2,rfl⟩:=h;have:=ih R2 h2;simp only[aR,a9,cg,Rt.roots]at this ⊢;rw[this]
  have er:=er _ R hm;by_cases nd:R.Nodup
  .simp only[nd,if_true];obtain⟨a,b,c⟩:=ar.mv re hm nd;refine⟨λx hx=>?_,λR' e=>by cases e;exact⟨a,b,c⟩⟩;rcases c x hx with q|⟨i,d,t,m,f,e,o⟩
   .exact .inl q
   .exact .inr ⟨i,d,t,f,e,λq hq=>by cases t<;>simp_all [be,aY,Rt.roots]⟩
  .simp only[nd,if_false];exact⟨λx hx=>by have:=ar.cont x hx;rw[er]at this;exact this,λR' e=>by cases e⟩
end
structure eI(H H':Hp)(G0:List ι)(d:D)(G:List ι):Prop where
 same:aG H H'
 sub:∀a∈G,H a=ε\/a∈G0
 new:d.inner=δ->G.Nodup/\∀a∈G,H a=ε/\∃vs:ML,H' a=ζ vs.o
section
variable {K:Frag}{H:Hp}{G0:List ι}
theorem eI.nil{d:D}:eI H H G0 d []:=⟨aG.refl _,λ_ h=>(nomatch h),λ_=>⟨bu,λ_ h=>(nomatch h)⟩⟩
theorem fZ{ds:List D}(r:aF K H ds vs G)(hs:∀a∈G,a∈G0)(hp:H p=ε) :
  Rep K (upd H p (.lst vs)) (.lst ds) (.ref p) (p::G)/\eI H (upd H p (.lst vs)) G0 (.lst ds) (p::G):=by
 have e:=aG.new (o:=.lst vs) hp;refine⟨.lst (.inl aK) (r.same e),e,λa ha=>?_,λf=>?_⟩
 .rcases c9.mp ha with rfl|ha
  .exact .inl hp
  .exact .inr (hs a ha)
 .have:G=[]:=r.flat f;subst this;exact⟨by simp,λa ha=>by
   have:a=p:=by simpa using ha
   subst this;exact⟨hp,.l _,aK⟩⟩
theorem bH.new{env:En}{F:Nat->List ι}{H1:Hp}{d:D}{R:List Nat}(ar:Args K env F H H1 l vs G0)(nv:eI H1 H' G0 d G)(hR:∀q∈aR (l.map (·.2)),q∈R):bH env F H (hZ d R) H' G:=by
 unfold hZ;cases hi:d.inner with
 |true=>
  obtain⟨a,b⟩:=nv.new hi;have c:∀x∈G,H x=ε:=λx hx=>aG.no ar.same (b x hx).1
  exact⟨λx hx=>.inl (c x hx),λR' e=>⟨a,λx hx=>(b x hx).2,λx hx=>.inl (c x hx)⟩⟩
 |false=>
  refine⟨λx hx=>?_,λR' e=>by cases e⟩;rcases nv.sub x hx with q|q
  .exact .inl (aG.no ar.same q)
  .exact (ar.cont x q).imp id λ⟨i,d,t,f,e,z⟩=>⟨i,d,t,f,e,λq hq=>hR q (z q hq)⟩
end
variable {e:Expr}{t t':TS}
section
variable {X:Cx}
theorem bB{t t':TE}(h:PE X e t)(k:∀σ H Q,t' σ H Q->t σ H Q):PE X e t':=λpins s σ H Q I q=>h pins s σ H Q I (k σ H Q q)
theorem rz{t t':TT}(h:PT X e t)(k:∀σ H Q,t' σ H Q->t σ H Q):PT X e t':=λpins s σ H Q I q=>h pins s σ H Q I (k σ H Q q)
theorem zA{e:List Expr}{t t':TA}(h:PA X e t)(k:∀σ H Q,t' σ H Q->t σ H Q):PA X e t':=λpos pins s σ H Q I q=>h pos pins s σ H Q I (k σ H Q q)
theorem dJ{e:xL}(h:PS X e t)(k:∀D σ H,t' D σ H->t D σ H):PS X e t':=λpins s σ H D I q=>h pins s σ H D I (k D σ H q)
theorem iQ{e:List xL}(h:gT X e t)(k:∀D σ H,t' D σ H->t D σ H):gT X e t':=λpins s σ H D I q=>h pins s σ H D I (k D σ H q)
end
inductive Vn(K:Frag) (T:Tb) (c:Ex) (σ:L2.St) (H:Hp) (Q:VK):Prop
 |mk (P:_) (env:_) (F:_) (y0:RE K P env σ H F) (p:_) (y1:ev T c env=.ok p) (y2:∀v H' G,aG H H'->Rep K H' p.1 v G->bH env F H p.2 H' G->Q v H'):Vn K T c σ H Q
def tE(K:Frag)(T:Tb)(c:Ex):TE:=λσ H Q=>Vn K T c σ H Q
inductive GA(K:Frag) (T:Tb) (cs:jR) (σ:L2.St) (H:Hp) (Q:List V->Hp->Prop):Prop
 |mk (P:_) (env:_) (F:_) (y0:RE K P env σ H F) (l:_) (y1:aT T cs env=.ok l) (y2:∀vs H' G,Args K env F H H' l vs G->Q vs H'):GA K T cs σ H Q
def qV(K:Frag)(T:Tb)(cs:jR):TA:=λσ H Q=>GA K T cs σ H Q
inductive Gf(K:Frag) (T:Tb) (c:Ex) (σ:L2.St) (H:Hp) (Q:Bool->Hp->Prop):Prop
 |mk (P:_) (env:_) (F:_) (y0:RE K P env σ H F) (p:_) (b:_) (y1:ev T c env=.ok p) (y2:truth p.1=ζ b) (y3:∀H',aG H H'->Q b H'):Gf K T c σ H Q
def nr(K:Frag)(T:Tb)(c:Ex):TT:=λσ H Q=>Gf K T c σ H Q
section
variable {K:Frag}{T:Tb}{P:ι->Prop}{env:En}{F:Nat->List ι}{σ:L2.St}{H:Hp}
theorem two{ca cb:Ex}{r:R2}{Q:VK}{p:D×Rt}(re:RE K P env σ H F)(h1:ev T ca env=.ok p)(h2:ev T cb env=.ok q)(k:∀x y H2 G,Args K env F H H2 [p,q] [x,y] G->r x y H2 Q):Gd r (tE K T ca) (tE K T cb) σ H Q:=
 ⟨P,env,F,re,p,h1,λv1 H1 G1 s1 Ql Qi=>⟨P,env,F,re.same s1,q,h2,λv2 H2 G2 s2 Lc rt2=>k v1 v2 H2 _ (.cons s1 Ql Qi (.cons s2 Lc rt2 (.nil (aG.refl _))))⟩⟩
end
inductive Cf(K:Frag) (f:D->D->Option D) (x:V) (y:V) (H:Hp) (Q:VK):Prop
 |mk (d1:_) (d2:_) (d:_) (G:_) (y0:aF K H [d1,d2] [x,y] G) (y1:f d1 d2=ζ d) (y2:∀v H' G',Rep K H' d v G'->eI H H' G d G'->Q v H'):Cf K f x y H Q
noncomputable def Ah(K:Frag)(f:D->D->Option D):R2:=λx y H Q=>Cf K f x y H Q
inductive Cc(K:Frag) (x:V) (y:V) (H:Hp) (Q:VK):Prop
 |mk (d1:_) (d2:_) (d:_) (G:_) (y0:aF K H [d1,d2] [x,y] G) (y1:tf d1 d2=ζ d) (y2:∀v G',Rep K H d v G'->G'.Sublist G->Q v H):Cc K x y H Q
noncomputable def FV(K:Frag):R2:=λx y H Q=>Cc K x y H Q
section
variable {X:Cx}{T:Tb}{a b c:Expr}{ca cb cc:Ex}{pos:W3}
theorem CP{op:FM}(ho:jc X (IR op) (Ah X.K (lZ op)))(ha:PE X a (tE X.K T ca))(hb:PE X b (tE X.K T cb)):PE X (.BinOp a op b pos) (tE X.K T (.bin op ca cb)):=by
 refine bB (Fo ho ha hb) λσ H Q ⟨P,env,F,re,p0,HZ,k⟩=>?_
 unfold ev at HZ;obtain⟨p,h1,HZ⟩:=Rs.HY HZ;obtain⟨q,h2,HZ⟩:=Rs.HY HZ;obtain⟨d,h3,HZ⟩:=Rs.HY HZ;have h3:=bY h3;cases HZ;refine two re h1 h2 λx y H2 G ar=>⟨p.1,q.1,d,G,ar.Io,h3,λv H' G' rp nv=>k v H' G' (ar.same.trans nv.same) rp (bH.new ar nv λz hz=>by simpa[aR]using hz)⟩
theorem C4{op:Ya}(ho:jc X (wp op) (Ah X.K λx y=>(qa op x y).map .bl))(ha:PE X a (tE X.K T ca))(hb:PE X b (tE X.K T cb))(hm:At op b=γ):PE X (.Compare a [op] [b] pos) (tE X.K T (.cmp op ca cb)):=by
 refine bB (Ae ho ha hb hm) λσ H Q ⟨P,env,F,re,p0,HZ,k⟩=>?_
 unfold ev at HZ;obtain⟨p,h1,HZ⟩:=Rs.HY HZ;obtain⟨q,h2,HZ⟩:=Rs.HY HZ;obtain⟨d,h3,HZ⟩:=Rs.HY HZ;have h3:=bY h3;cases HZ;refine two re h1 h2 λx y H2 G ar=>⟨p.1,q.1,.bl d,G,ar.Io,by simp[h3],λv H' G' rp nv=>k v H' G' (ar.same.trans nv.same) rp ?_⟩
 have:G'=[]:=rp.flat rfl;subst this;exact bH.nil
theorem FY(ho:zS X (FV X.K))(ha:PE X a (tE X.K T ca))(hb:PE X b (tE X.K T cb))(hs:kA b):PE X (.Subscript a b pos) (tE X.K T (.ix ca cb)):=by
 refine bB (CF ho ha hb hs) λσ H Q ⟨P,env,F,re,p0,HZ,k⟩=>?_
 unfold ev at HZ;obtain⟨p,h1,HZ⟩:=Rs.HY HZ;obtain⟨q,h2,HZ⟩:=Rs.HY HZ;obtain⟨d,h3,HZ⟩:=Rs.HY HZ;have h3:=bY h3;cases HZ;refine two re h1 h2 λx y H2 G ar=>⟨p.1,q.1,d,G,ar.Io,h3,λv G' rp sl=>k v H2 G' ar.same rp ?_⟩
 unfold rf;cases hf:d.flat with
 |true=>
  have:G'=[]:=rp.flat hf;subst this;exact bH.nil
 |false=>
  obtain⟨H1,g1,g2,e1,s1,_,Qi,s2,Lc⟩:=ar.two;have hq:q.1.flat=δ:=by
   revert h3;intro h3;cases hq:q.1 with
   |int _=>rfl
   |str _=>rfl
   |_=>rw[hq]at h3;revert h3;cases p.1<;>exactλh3=>nomatch h3
  have Lc:=Lc.flat hq;have Ql:=Qi.later s2;subst Lc;rw[bh]at e1;subst e1;refine⟨λz hz=>?_,λR e=>by cases e⟩;exact Ql.cont z (sl.subset hz)
end
end Pc
end
section
namespace Pc
open PySem L2
structure jJ(P:ι->Prop)(H H':Hp):Prop where
 keep:∀a,P a->H' a=H a
 tup:∀b xs,H b=ζ (.tup xs)->H' b=ζ (.tup xs)
 fz:Hc H H'
theorem jJ.refl{P:ι->Prop}(H:Hp):jJ P H H:=⟨λ_ _=>rfl,λ_ _ h=>h,λ_ _ _ h=>h⟩
variable {H H1 H2:Hp}
theorem jJ.trans{P:ι->Prop}(a:jJ P H H1)(b:jJ P H1 H2):jJ P H H2:=⟨λx h=>(b.keep x h).trans (a.keep x h),λx xs h=>b.tup x xs (a.tup x xs h),λx o u h=>b.fz x o u (a.fz x o u h)⟩
variable {H':Hp}
theorem jJ.of_same{P:ι->Prop}(pl:∀a,P a->H a≠ε)(e:aG H H'):jJ P H H':=⟨λa h=>by
 cases q:H a with
 |none=>exact absurd q (pl a h)
 |some o=>exact e _ _ q,λ_ _=>e _ _,λ_ _ _ h=>e _ _ h⟩
theorem jJ.weak{P P':ι->Prop}(h:∀a,P a->P' a)(e:jJ P' H H'):jJ P H H':=⟨λa x=>e.keep a (h a x),e.tup,e.fz⟩
variable {K:Frag}{vs:List V}
theorem jJ.MY{P:ι->Prop}(e:jJ P H H'){b:ι}(h:j8 K H b vs):j8 K H' b vs:=by
 rcases h with h|h
 .exact .inl (e.tup b vs h)
 .exact .inr h
variable {G:List ι}
theorem jJ.Io{P:ι->Prop}(e:jJ P H H'){ds:List D}(h:aF K H ds vs G)(hp:∀a∈G,P a):aF K H' ds vs G:=
 h.keep (λ_ _=>e.MY) e.fz λb hb _ r=>(e.keep b (hp b hb)).trans r
def rT(env:En)(F:Nat->List ι)(Ia:En)(F':Nat->List ι):Prop:=∀(i:Nat) (d:D),Ia[i]? = ζ (ζ (d,.lk))->env[i]? = ζ (ζ (d,.lk))/\F' i=F i
theorem rT.refl(env:En)(F:Nat->List ι):rT env F env F:=λ_ _ h=>⟨h,rfl⟩
variable {F1 F2 F3:Nat->List ι}{e1 e2 e3:En}
theorem rT.trans(a:rT e1 F1 e2 F2)(b:rT e2 F2 e3 F3):rT e1 F1 e3 F3:=λi d h=>by
 obtain⟨h1,h2⟩:=b i d h;obtain⟨h3,h4⟩:=a i d h1;exact⟨h3,h2.trans h4⟩
structure After(K:Frag)(P Z:ι->Prop)(env:En)(F:Nat->List ι)(H:Hp)(Ia:En)(σ':L2.St)(H':Hp)(F':Nat->List ι):Prop where
 re:RE K P Ia σ' H' F'
 z:∀i,∀a∈F' i,Z a
 ev:jJ P H H'
 lk:rT env F Ia F'
theorem After.trans{P Z:ι->Prop}{H3:Hp}{σ2 σ3:L2.St}(a:After K P Z e1 F1 H1 e2 σ2 H2 F2)(b:After K P Z e2 F2 H2 e3 σ3 H3 F3):After K P Z e1 F1 H1 e3 σ3 H3 F3:=
 ⟨b.re,b.z,a.ev.trans b.ev,a.lk.trans b.lk⟩
noncomputable def post(K:Frag)(P Z:ι->Prop)(env:En)(F:Nat->List ι)(H:Hp)(D:Ends):Fl->Prop
 |.nx Ia=>∀σ' H' F',After K P Z env F H Ia σ' H' F'->D.nx σ' H'
 |.rt d fr=>∀v H' G,Rep K H' d v G->jJ P H H'->(∀a∈G,Z a)->(fr=δ->G.Nodup/\∀a∈G,¬ P a/\∃vs:ML,H' a=ζ vs.o)->D.rt v H'
 |.bad=>False
theorem post.trans{P Z:ι->Prop}{σ2:L2.St}{D:Ends}(a:After K P Z e1 F1 H1 e2 σ2 H2 F2):∀{f:Fl},post K P Z e1 F1 H1 D f->post K P Z e2 F2 H2 D f
 |.nx _,h=>λσ' H' F' b=>h σ' H' F' (a.trans b)
 |.rt _ _,h=>λv H' G r e z f=>h v H' G r (a.ev.trans e) z f
 |.bad,h=>h
variable {R:List Nat}{d:D}{env0:En}{i:Nat}{t:Tg}{v:V}
section
variable {K:Frag}{P Z:ι->Prop}{env:En}{σ:L2.St}{H:Hp}{F:Nat->List ι}
theorem kW(hi:i<env.length)(ht:t≠.lk):rT env F (put env i d t) (pT F i G):=λj d' e=>by
 by_cases h:j=i
 .subst h;rw[dR hi]at e;cases e;exact absurd rfl ht
 .obtain⟨t0,e0,q⟩:=iS h e;cases t0 with
  |lk=>exact⟨e0,dP h⟩
  |own=>cases q
  |sh R=>cases q
theorem qt(hz:∀i,∀a∈F i,Z a)(hg:∀a∈G,Z a):∀j,∀a∈pT F i G j,Z a:=λj a ha=>by
 by_cases h:j=i
 .subst h;rw[dI]at ha;exact hg a ha
 .rw[dP h]at ha;exact hz j a ha
theorem rV{D:Ends}{mv:Bool}{p:Pc.D×Rt}(re:RE K P env σ H F)(hz:∀i,∀a∈F i,Z a)(zp:∀a,¬ P a->Z a)(e:aG H H')(rp:Rep K H' p.1 v G)(rt:bH env F H p.2 H' G)
  (h:post K P Z env F H D (sH (.nm i) mv env p)):D.nx (σ.set i (ζ v)) H':=by
 have Np:=re.same e;have ez:∀a∈G,Z a:=λa ha=>by
  rcases rt.cont a ha with q|⟨j,_,_,f,_⟩
  .exact zp a λz=>re.pl a z q
  .exact hz j a f
 have iX:=jJ.of_same (P:=P) re.pl e;unfold sH at h;by_cases hi:i<env.length
 .simp only[hi,if_true]at h;have shared:∀R,p.2.roots=R->post K P Z env F H D (.nx (put env i p.1 (.sh (R.filter (· != i)))))->D.nx (σ.set i (ζ v)) H':=λR hR h=>by
   refine h _ H' (pT F i G) ⟨Np.put hi rp (λo=>by cases o) (λo=>by cases o) λa ha j d' t' hj ej o m=>?_,qt hz ez,iX,kW hi (by intro z;cases z)⟩;rcases rt.cont a ha with q|⟨k,d2,t2,f,e2,s⟩
   .exact absurd q (re.nn ej m)
   .have:=s j ((re.one j d' t' ej o).2.2 a m k d2 t2 e2 f);rw[hR]at this;simp only[be,Xg];exact⟨this,by simpa using hj⟩
  cases hr:p.2 with
  |sh R=>rw[hr]at h;exact shared R (by rw[hr];rfl) h
  |mv R=>
   rw[hr]at h;obtain⟨m1,m2,m3⟩:=rt.mv R hr;cases R with
   |nil=>
    have fresh:∀a∈G,H a=ε:=λa ha=>by
     rcases m3 a ha with q|⟨_,_,_,q,_⟩
     .exact q
     .cases q
    refine h _ H' (pT F i G) ⟨Np.put hi rp (λ_=>⟨m1,m2,λa ha j _ m=>?_⟩) (λ_ a ha z=>re.pl a z (fresh a ha)) λa ha j d' t' hj ej o m=>?_,qt hz ez,iX,kW hi (by intro z;cases z)⟩
    .obtain⟨d2,t2,e2⟩:=re.at' m;exact re.nn e2 m (fresh a ha)
    .exact absurd (fresh a ha) (re.nn ej m)
   |cons r0 R0=>
    cases mv with
    |false=>exact shared _ (by rw[hr];rfl) h
    |true=>exact h.elim
 .simp only[hi,if_false]at h;exact h.elim
noncomputable def setM:List Nat->List V->L2.St->L2.St
 |i::is,v::vs,σ=>setM is vs (σ.set i (ζ v))
 |_,_,σ=>σ
theorem nN:∀{is:List Nat}{ds:List D}{vs:List V}{G:List ι}{env Ia:En}{σ:L2.St}{F:Nat->List ι},RE K P env σ H F->(∀i,∀a∈F i,Z a)->aF K H ds vs G->G.Nodup->(∀a∈G,∃vs:ML,H a=ζ vs.o)->(∀a∈G,¬ P a)->(∀a∈G,Z a) ->
  (∀a∈G,∀j,a∉F j)->bindM (λ_=>.own) is ds env=ζ Ia->∃F',RE K P Ia (setM is vs σ) H F'/\(∀i,∀a∈F' i,Z a)/\rT env F Ia F'/\is.length=vs.length
 |[],_,_,_,env,Ia,σ,F,re,hz,.nil,_,_,_,_,_,h=>by
  simp only[bindM,cz]at h;subst h;exact⟨F,re,hz,rT.refl _ _,rfl⟩
 |i::is,_,_,_,env,Ia,σ,F,re,hz,.cons (G:=G1) (G':=G2) r rs,nd,ll,np,gz,ap,h=>by
  simp only[bindM]at h;by_cases hi:i<env.length
  .rw[if_pos hi]at h;obtain⟨n1,n2,QC⟩:=el.mp nd;have J4:=re.put (t:=.own) hi r (λ_=>⟨n1,λa ha=>ll a (au _ ha),λa ha j _=>ap a (au _ ha) j⟩) (λ_ a ha=>np a (au _ ha)) λa ha j _ _ _ _ _ m=>absurd m (ap a (au _ ha) j)
   obtain⟨F',a1,a2,a3,a4⟩:=nN J4 (qt hz λa ha=>gz a (au _ ha)) rs n2 (λa ha=>ll a (ak _ ha)) (λa ha=>np a (ak _ ha)) (λa ha=>gz a (ak _ ha)) (λa ha j m=>by
    by_cases hj:j=i
    .subst hj;rw[dI]at m;exact QC a m a ha rfl
    .rw[dP hj]at m;exact ap a (ak _ ha) j m) h
   exact⟨F',a1,a2,(kW hi (by intro z;cases z)).trans a3,by simp[a4]⟩
  .rw[if_neg hi]at h;cases h
 |[],_,_,_,_,_,_,_,_,_,.cons _ _,_,_,_,_,_,h=>by simp[bindM]at h
 |_::_,_,_,_,_,_,_,_,_,_,.nil,_,_,_,_,_,h=>by simp[bindM]at h
theorem qe:bQ d R≠.lk:=by unfold bQ;split<;>intro z<;>cases z
theorem tK(re:RE K P env σ H F)(hi:i<env.length)(rp:Rep K H d v G)(hs:∀a∈G,∀(j:Nat) (d':D) (t':Tg),env[j]? = ζ (ζ (d',t'))->aY t'=δ->a∈F j->j∈R) :
  RE K P (put env i d (bQ d R)) (σ.set i (ζ v)) H (pT F i G):=by
 unfold bQ;cases hf:d.flat with
 |true=>
  have:G=[]:=rp.flat hf;subst this;simp only[if_true];exact re.put hi rp (λ_=>⟨bu,λ_ h=>(nomatch h),λ_ h=>(nomatch h)⟩) (λ_ _ h=>(nomatch h)) λ_ h=>(nomatch h)
 |false=>
  simp only[cx,if_false];exact re.put hi rp (λo=>by cases o) (λo=>by cases o) λa ha j d' t' hj ej o m=>hs a ha j d' t' ej o m
theorem kO:∀{is:List Nat}{ds:List D}{vs:List V}{G:List ι}{env Ia:En}{σ:L2.St}{F:Nat->List ι},RE K P env σ H F->(∀i,∀a∈F i,Z a)->aF K H ds vs G->(∀a∈G,Z a) ->
  (∀a∈G,∀(j:Nat) (d':D) (t':Tg),env[j]? = ζ (ζ (d',t'))->aY t'=δ->a∈F j->j∈R)->bindM (λd=>bQ d R) is ds env=ζ Ia->∃F',RE K P Ia (setM is vs σ) H F'/\(∀i,∀a∈F' i,Z a)/\rT env F Ia F'/\is.length=vs.length
 |[],_,_,_,env,Ia,σ,F,re,hz,.nil,_,_,h=>by
  simp only[bindM,cz]at h;subst h;exact⟨F,re,hz,rT.refl _ _,rfl⟩
 |i::is,_,_,_,env,Ia,σ,F,re,hz,.cons (d:=d) (G:=G1) (G':=G2) r rs,gz,hs,h=>by
  simp only[bindM]at h;by_cases hi:i<env.length
  .rw[if_pos hi]at h;have J4:=tK re hi r λa ha=>hs a (au _ ha)
   obtain⟨F',a1,a2,a3,a4⟩:=kO J4 (qt hz λa ha=>gz a (au _ ha)) rs (λa ha=>gz a (ak _ ha)) (λa ha j d' t' ej o m=>by
    by_cases hj:j=i
    .subst hj;rw[dR hi]at ej;simp only[cz,fq]at ej;obtain⟨rfl,rfl⟩:=ej;rw[dI]at m;cases hf:d.flat with
     |true=>rw[r.flat hf]at m;cases m
     |false=>simp[bQ,hf,aY]at o
    .rw[dP hj]at m;obtain⟨t0,e0,rfl⟩:=iS hj ej;rw[j9]at o;exact hs a (ak _ ha) j d' t0 e0 o m) h
   exact⟨F',a1,a2,(kW hi qe).trans a3,by simp[a4]⟩
  .rw[if_neg hi]at h;cases h
 |[],_,_,_,_,_,_,_,_,_,.cons _ _,_,_,h=>by simp[bindM]at h
 |_::_,_,_,_,_,_,_,_,_,_,.nil,_,_,h=>by simp[bindM]at h
theorem qd(R:List Nat)(env:En):(lock R env).length=env.length:=by simp[lock]
theorem lH{env:En}(e:(lock R env)[i]? = ζ (ζ (d,t))) :
  (env[i]? = ζ (ζ (d,t))/\(t=.own->i∉R))\/(t=.lk/\i∈R/\env[i]? = ζ (ζ (d,.own))):=by
 unfold lock at e;rw[ii]at e;cases q:env[i]? with
 |none=>rw[q]at e;cases e
 |some s=>
  rw[q]at e;cases s with
  |none=>cases e
  |some p=>
   obtain⟨a,b⟩:=p;simp only[cm,cz]at e;cases b with
   |own=>
    simp only at e;by_cases h:R.contains i=δ
    .rw[if_pos h]at e;cases e;exact .inr ⟨rfl,by simpa using h,rfl⟩
    .rw[if_neg h]at e;cases e;exact .inl ⟨rfl,λ_ z=>h (by simpa using z)⟩
   |lk=>cases e;exact .inl ⟨rfl,λz=>by cases z⟩
   |sh Q=>cases e;exact .inl ⟨rfl,λz=>by cases z⟩
theorem xj{R:List Nat}{env:En}(e:env[i]? = ζ (ζ (d,t))):∃t',(lock R env)[i]? = ζ (ζ (d,t'))/\aY t'=aY t/\be i t'=be i t:=by
 unfold lock;rw[ii,e];cases t with
 |own=>
  simp only[cm];by_cases h:R.contains i=δ
  .exact⟨.lk,by rw[if_pos h],rfl,rfl⟩
  .exact⟨.own,by rw[if_neg h],rfl,rfl⟩
 |lk=>exact⟨.lk,rfl,rfl,rfl⟩
 |sh Q=>exact⟨.sh Q,rfl,rfl,rfl⟩
theorem dW{env:En}(e:(lock R env)[i]? = ζ (ζ (d,t))):∃t0,env[i]? = ζ (ζ (d,t0))/\aY t0=aY t/\be i t0=be i t:=by
 rcases lH e with⟨h,_⟩|⟨rfl,_,h⟩
 .exact⟨t,h,rfl,rfl⟩
 .exact⟨.own,h,rfl,rfl⟩
theorem RE.locked(re:RE K P env σ H F)(hg:∀a∈G,H a≠ε)(hc:∀a∈G,∀(i:Nat) (d:D) (t:Tg),env[i]? = ζ (ζ (d,t))->aY t=δ->a∈F i->i∈R) :
  RE K (λa=>P a\/a∈G) (lock R env) σ H F where
 len:=(qd R env).trans re.len
 val:=λi d t e=>let ⟨t0,e0,_⟩:=dW e;re.val i d t0 e0
 Li:=λi h=>re.Li i λd t e=>by
  obtain⟨t',e',_⟩:=xj (R:=R) e;exact h d t' e'
 one:=λi d t e o=>by
  obtain⟨t0,e0,o0,_⟩:=dW e;obtain⟨a,b,c⟩:=re.one i d t0 e0 (o0.trans o);refine⟨a,b,λx hx j d' t' ej m=>?_⟩;obtain⟨t1,e1,_,s1⟩:=dW ej;rw[<-s1];exact c x hx j d' t1 e1 m
 wr:=λi d e a ha z=>by
  rcases lH e with⟨h,hn⟩|⟨q,_⟩
  .rcases z with z|z
   .exact re.wr i d h a ha z
   .exact hn rfl (hc a z i d .own h rfl ha)
  .cases q
 pl:=λa h=>h.elim (re.pl a) (hg a)
theorem mG(R:List Nat)(env0 env:En):(unlock R env0 env).length=env.length:=by simp[unlock]
theorem je{env:En}(e:(unlock R env0 env)[i]? = ζ (ζ (d,t))) :
  (env[i]? = ζ (ζ (d,t))/\(t=.lk->¬ (i∈R/\∃d0,env0[i]? = ζ (ζ (d0,.own)))))\/(t=.own/\i∈R/\env[i]? = ζ (ζ (d,.lk))/\∃d0,env0[i]? = ζ (ζ (d0,.own))):=by
 unfold unlock at e;rw[ii]at e;cases q:env[i]? with
 |none=>rw[q]at e;cases e
 |some s=>
  rw[q]at e;cases s with
  |none=>cases e
  |some p=>
   obtain⟨a,b⟩:=p;simp only[cm,cz]at e;cases b with
   |own=>cases e;exact .inl ⟨rfl,λz=>by cases z⟩
   |sh Q=>cases e;exact .inl ⟨rfl,λz=>by cases z⟩
   |lk=>
    simp only at e;split at e
    .rename_i d0 q0;by_cases h:R.contains i=δ
     .rw[if_pos h]at e;cases e;exact .inr ⟨rfl,by simpa using h,rfl,d0,q0⟩
     .rw[if_neg h]at e;cases e;exact .inl ⟨rfl,λ_ z=>h (by simpa using z.1)⟩
    .rename_i nq;cases e;exact .inl ⟨rfl,λ_ ⟨_,d0,q0⟩=>nq d0 q0⟩
theorem eX{env:En}(e:(unlock R env0 env)[i]? = ζ (ζ (d,t))):∃t0,env[i]? = ζ (ζ (d,t0))/\aY t0=aY t/\be i t0=be i t:=by
 rcases je e with⟨h,_⟩|⟨rfl,_,h,_⟩
 .exact⟨t,h,rfl,rfl⟩
 .exact⟨.lk,h,rfl,rfl⟩
theorem sL{R:List Nat}{env0 env:En}(e:env[i]? = ζ (ζ (d,t))):∃t',(unlock R env0 env)[i]? = ζ (ζ (d,t')):=by
 unfold unlock;rw[ii,e];cases t with
 |own=>exact⟨.own,rfl⟩
 |sh Q=>exact⟨.sh Q,rfl⟩
 |lk=>
  simp only[cm];split
  .by_cases h:R.contains i=δ
   .exact⟨.own,by rw[if_pos h]⟩
   .exact⟨.lk,by rw[if_neg h]⟩
  .exact⟨.lk,rfl⟩
theorem After.JJ{Ia:En}{σ':L2.St}{F':Nat->List ι}(re:RE K P env σ H F)(a:After K (λa=>P a\/a∈G) Z (lock R env) F H Ia σ' H' F'):After K P Z env F H (unlock R env Ia) σ' H' F' where
 re:={
  len:=(mG R env Ia).trans a.re.len
  val:=λi d t e=>let ⟨t0,e0,_⟩:=eX e;a.re.val i d t0 e0
  Li:=λi h=>a.re.Li i λd t e=>by
   obtain⟨t',e'⟩:=sL (R:=R) (env0:=env) e;exact h d t' e'
  one:=λi d t e o=>by
   obtain⟨t0,e0,o0,_⟩:=eX e;obtain⟨x,y,c⟩:=a.re.one i d t0 e0 (o0.trans o);refine⟨x,y,λz hz j d' t' ej m=>?_⟩;obtain⟨t1,e1,_,s1⟩:=eX ej;rw[<-s1];exact c z hz j d' t1 e1 m
  wr:=λi d e b hb z=>by
   rcases je e with⟨h,_⟩|⟨_,hR,h,d0,h0⟩
   .exact a.re.wr i d h b hb (.inl z)
   .obtain⟨h1,h2⟩:=a.lk i d h;rw[h2]at hb;exact re.wr i d0 h0 b hb z
  pl:=λb h=>a.re.pl b (.inl h)}
 z:=a.z
 ev:=a.ev.weak λ_ h=>.inl h
 lk:=λi d e=>by
  rcases je e with⟨h,hn⟩|⟨q,_⟩
  .obtain⟨h1,h2⟩:=a.lk i d h;rcases lH h1 with⟨h3,_⟩|⟨_,hR,h3⟩
   .exact⟨h3,h2⟩
   .exact absurd ⟨hR,d,h3⟩ (hn rfl)
  .cases q
end
variable {path:Option Int}{rs:List Rt}{x:Nat}
section
variable {K:Frag}{P Z:ι->Prop}{env:En}{σ:L2.St}{H:Hp}{F:Nat->List ι}
theorem eM(h:ownAt env x=ζ d):env[x]? = ζ (ζ (d,.own)):=by
 unfold ownAt at h;split at h
 .rename_i d' q;cases h;exact q
 .cases h
theorem nH(re:RE K P env σ H F){xs:List D}(hx:ownAt env x=ζ d)(hv:σ[x]? = ζ (ζ v))(h:d.Jn path=ζ xs) :
  ∃p,PV K H v path p/\∀H',aG H H'->Py K H' p (F x) (F x) xs λys h G'=>Rep K h (d.Jh path ys) v G':=by
 have Jp:=eM hx;obtain⟨u,e,rp⟩:=re.val x d .own Jp;rw[hv]at e;cases e;obtain⟨a,b,_⟩:=re.one x d .own Jp rfl;obtain⟨p,pv,f⟩:=uO rp a h;exact⟨p,pv,λH' e=>f H' e λy hy=>let ⟨ws,q⟩:=b y hy;⟨ws,e _ _ q⟩⟩
theorem vz{D:Ends}{d:Pc.D}{ys:List Pc.D}(h:post K P Z env F H D (iM x path env d ys rs)):ys.length<=lim:=by
 unfold iM at h;cases hR:dB rs with
 |none=>rw[hR]at h;exact h.elim
 |some R=>
  rw[hR]at h;simp only at h;by_cases hc:(decide R.Nodup&&gK env R && !R.contains x&&decide (ys.length<=lim))=δ
  .simp only[ai,decide_eq_true_eq]at hc;exact hc.2
  .rw[if_neg hc]at h;exact h.elim
theorem qE{D:Ends}{d:Pc.D}{ys:List Pc.D}{p:ι}{us:List V}{N:List ι}
  (re:RE K P env σ H F) (hz:∀i,∀a∈F i,Z a) (zp:∀a,¬ P a->Z a) (e:aG H H1) (hx:ownAt env x=ζ d) (hv:σ[x]? = ζ (ζ v)) (hp:p∈F x)
  (hN:∀R,dB rs=ζ R->R.Nodup->N.Nodup/\(∀a∈N,∃vs:ML,H1 a=ζ vs.o)/\∀a∈N,H a=ε\/∃i d t,i∈R/\a∈F i/\env[i]? = ζ (ζ (d,t))/\aY t=δ)
  (Q1:(∀a∈N,a∉F x)->N.Nodup->∃G',Rep K (upd H1 p (.lst us)) (d.Jh path ys) v G'/\G'.Nodup/\∀a∈G',a∈F x\/a∈N)
  (h:post K P Z env F H D (iM x path env d ys rs)):D.nx σ (upd H1 p (.lst us)):=by
 unfold iM at h;cases hR:dB rs with
 |none=>rw[hR]at h;exact h.elim
 |some R=>
  rw[hR]at h;simp only at h;by_cases hc:(decide R.Nodup&&gK env R && !R.contains x&&decide (ys.length<=lim))=δ
  .rw[if_pos hc]at h;simp only[ai,decide_eq_true_eq,en]at hc;obtain⟨⟨⟨Pn,N1⟩,Wj⟩,hc4⟩:=hc;have hxR:x∉R:=λz=>by
    have:R.contains x=δ:=by simpa using z
    rw[this]at Wj;cases Wj
   obtain⟨n1,n2,n3⟩:=hN R hR Pn;have Jp:=eM hx;have ow:∀k∈R,∃d',env[k]? = ζ (ζ (d',.own)):=λk hk=>by
    have:=cq.mp N1 k hk;split at this
    .rename_i d' q;exact⟨d',q⟩
    .cases this
   have Qy:∀a∈N,a∉F x:=λa ha m=>by
    rcases n3 a ha with q|⟨i,d2,t2,hi,f,e2,o2⟩
    .exact re.nn Jp m q
    .have:=(re.one i d2 t2 e2 o2).2.2 a f x d .own Jp m;simp only[be,gr]at this;subst this;exact hxR hi
   obtain⟨G',g1,g2,g3⟩:=Q1 Qy n1;have J4:=re.same e;have pP:∀a∈N,¬ P a:=λa ha z=>by
    rcases n3 a ha with q|⟨i,d2,t2,hi,f,e2,o2⟩
    .exact re.pl a z q
    .obtain⟨d3,e3⟩:=ow i hi;exact re.wr i d3 e3 a f z
   have Qp:=J4.Ma (R:=R) (N:=N) Jp hv hp g1 g2 g3 λa ha=>⟨n2 a ha,pP a ha,λj dj tj ej m=>by
    rcases n3 a ha with q|⟨i,d2,t2,hi,f,e2,o2⟩
    .exact absurd q (re.nn ej m)
    .exact⟨i,ae _ hi,(re.one i d2 t2 e2 o2).2.2 a f j dj tj ej m⟩⟩
   obtain⟨_,O8,_⟩:=J4.one x d .own Jp rfl;obtain⟨ws,IG⟩:=O8 p hp;have QB:¬ P p:=re.wr x d Jp p hp;refine h σ _ _ ⟨Qp,λj a ha=>?_,(jJ.of_same re.pl e).trans ⟨λa z=>aE (λq=>QB (q ▸ z)),λb xs r=>?_,jf IG⟩,λj dj ej=>?_⟩
   .unfold mJ at ha;split at ha
    .rcases g3 a ha with q|q
     .exact hz x a q
     .exact zp a (pP a q)
    .split at ha
     .exact hz j a ha
     .cases ha
   .refine (aE (λq=>?_)).trans r;subst q;rw[IG]at r;cases ws<;>cases r
   .by_cases hj:j=x
    .subst hj;rw[Β (by rw[eU];exact(χ.mp Jp).1)]at ej;cases ej
    .rw[Θ (cj hj)]at ej;refine⟨(dA ej).1,?_⟩;unfold mJ;rw[if_neg hj,ej]
  .rw[if_neg hc]at h;exact h.elim
end
end Pc
end
section
namespace Pc
open PySem PySem.Spec PyProof.Rows L2
variable {G:List ι}{d:D}{ds:List D}{v y:V}
section
variable {K:Frag}{H:Hp}
theorem aF.inv2{e:D}{x:V}(h:aF K H [d,e] [x,y] G):∃G1 G2,Rep K H d x G1/\Rep K H e y G2/\G=G1++G2:=by
 cases h with
 |cons r s=>
  cases s with
  |cons r' s'=>cases s';exact⟨_,_,r,r',by rw[bh]⟩
theorem Rep.int_inv{i:Int}(h:Rep K H (.int i) v G):v=.int i/\G=[]:=by cases h;exact⟨rfl,rfl⟩
theorem Rep.IJ{i:Bool}(h:Rep K H (.bl i) v G):v=.bl i/\G=[]:=by cases h;exact⟨rfl,rfl⟩
theorem Rep.str_inv{i:Str}(h:Rep K H (.str i) v G):v=.str i/\G=[]:=by cases h;exact⟨rfl,rfl⟩
theorem Rep.JE(h:Rep K H .Ii v G):v=.Ii/\G=[]:=by cases h;exact⟨rfl,rfl⟩
theorem Rep.Im(h:Rep K H (.tup ds) v G):∃p vs,v=.ref p/\nz K H p vs/\aF K H ds vs G:=by
 cases h with
 |tup a b=>exact⟨_,_,rfl,a.sq,b⟩
theorem Rep.Jg(h:Rep K H (.tup ds) v G):∃p vs,v=.ref p/\j8 K H p vs/\aF K H ds vs G:=by
 cases h with
 |tup a b=>exact⟨_,_,rfl,a,b⟩
end
variable {H:Hp}{K:Frag}{j:Int}{n:Nat}{op:FM}{pins:List (ι×na)}{s:θ}{vs xs:List V}
section
variable {X:Cx}
theorem Inv.Lp{σ:L2.St}{l:ι}(I:Inv X pins σ H s)(hH:Rd H l (.lst xs)):xs.length<=Ζ/\∃(its:List η) (n:Nat),aL xs its/\xs.length=its.length/\s.heap.get? l=ζ {cls:=.type "list",data:=.seq its.toArray n}:=by
 obtain⟨z,its,n,r,e⟩:=hH.ok I.Ib;exact⟨z,its,n,r,r.length,e⟩
noncomputable def Ho:R2:=λx y H Q=>∃l b xs zs,x=.ref l/\y=.ref b/\Rd H l (.lst xs)/\Rd H b (.lst zs)/\xs.length+zs.length<=Ζ/\∀p,H p=ε->Q (.ref p) (upd H p (.lst (xs++zs)))
theorem BK:jc X (IR .Add) Ho:=by
 intro pins s σ H x y v u Q I rx ry h;obtain⟨l,b,xs,zs,rfl,rfl,hH,hB,hz,q⟩:=h;cases rx;cases ry;obtain⟨z,its,n,r,hl,e⟩:=Inv.Lp I hH;obtain⟨z2,Ke,n2,r2,NU,e2⟩:=Inv.Lp I hB;refine PySem.P.add_list e e2 ?_ (by rw[aq,aq];omega);have ea:its.toArray++Ke.toArray=(its++Ke).toArray:=by simp
 rw[ea];exact⟨.ref _,_,I.Mg (t':=s.toks) (r.append r2) (by rw[aw];omega),rfl,q _ I.fresh⟩
noncomputable def Fj:R2:=λx y H Q=>∃l k xs,x=.ref l/\y=.int k/\Rd H l (.lst xs)/\-(2 ^ 63)<=k/\k<2 ^ 63/\xs.length*k.toNat<=Ζ /\
 ∀p,H p=ε->Q (.ref p) (upd H p (.lst (π k.toNat xs).flatten))
theorem Bc:jc X (IR .Mult) Fj:=by
 intro pins s σ H x y v u Q I rx ry h;obtain⟨l,k,xs,rfl,rfl,hH,h1,h2,hz,q⟩:=h;cases rx;obtain⟨t,rfl⟩:=ry;obtain⟨z,its,n,r,hl,e⟩:=Inv.Lp I hH;have hlen:its.toArray.size*k.toNat<=Ζ:=by rw[aq,<-hl];exact hz
 have RL:¬ its.toArray.size*k.toNat > (2 ^ 63-1) / 8:=by
  have:(Ζ:Nat)<=(2 ^ 63-1) / 8:=by decide
  omega
 have RD:¬ (!Builtin.List.listFitsIndex k)=δ:=by
  rw[fitsIndex_both h1 h2];exact bo
 have KY:¬ Re (its.toArray.size*k.toNat)=δ:=by
  rw[pI hlen];exact bo
 have Lx:ZR (λx1 x2=>x1++x2) #[] (π (if its.toArray.isEmpty=δ then 0 else k.toNat) its.toArray)=(π k.toNat its).flatten.toArray:=by
  have f0:∀m:Nat,ZR (λx1 x2=>x1++x2) #[] (π m its.toArray)=(π m its).flatten.toArray:=λm=>by
   have:=foldl_rep its m [];rw[Yx]at this;exact this
  rw[f0];cases its with
  |nil=>simp
  |cons a r'=>rw[if_neg (by simp)]
 refine wpAny_binaryOp_repeat_ref (T:="list") (U:="int") (by decide) ⟨_,e,rfl⟩ (λs'=>Zg s' k t) noFill_list_mul F.fills_int_mul Ċ repeat_list F.slot_int_index.lookup
  (Zh Ċ (Zg s k t) F.entry_int_rmul (F.args_int_rmul_2 _ _) (int___rmul___int_list k t l its.toArray n)
   ⟨e,rfl,⟨_,e,rfl⟩,Zh F.slot_list_mul ⟨_,e,rfl⟩ F.entry_list_mul (F.args_list_mul_2 _ _) (Ŝ l its.toArray n k t RD RL KY) ⟨e,?_⟩⟩)
 rw[Lx];exact⟨.ref _,_,I.Mg (t':=s.toks) (r.rep k.toNat) (by rw[len_rep,ĕ];exact hz),rfl,q _ I.fresh⟩
theorem aF.rep(h:aF K H ds vs []):∀n:Nat,aF K H (π n ds).flatten (π n vs).flatten []
 |0=>.nil
 |n+1=>by
  rw[bq,bq,cg,cg];exact h.append (h.rep n)
theorem pz{e:D}(h:ck n d=ζ e):n<=lim/\e=d:=by
 unfold ck at h;split at h
 .cases h;exact⟨‹_›,rfl⟩
 .cases h
theorem n8{i:Int}:small i=δ↔(-(2 ^ 64)<i/\i<2 ^ 64):=by unfold small;exact decide_eq_true_iff
theorem Bz{i k:Int}(h:binI op i j=ζ k):jc X (IR op) (λx y H Q=>x=.int i/\y=.int j/\Q (.int k) H):=by
 intro pins s σ H x y v u Q I rx ry q;obtain⟨rfl,rfl,q⟩:=q;cases op with
 |Add=>cases h;exact EB pins s σ H _ _ v u Q I rx ry ⟨i,j,rfl,rfl,q⟩
 |Sub=>cases h;exact Ef pins s σ H _ _ v u Q I rx ry ⟨i,j,rfl,rfl,q⟩
 |Mult=>
  have h:(if small i || small j then ζ (i*j)else ε)=ζ k:=h;by_cases hc:(small i || small j)=δ
  .rw[if_pos hc]at h;cases h;refine D0 pins s σ H _ _ v u Q I rx ry ⟨i,j,rfl,rfl,?_,q⟩;rw[eh,n8,n8]at hc;exact hc
  .rw[if_neg hc]at h;cases h
 |FloorDiv=>
  have h:(if 0<j/\j<1073741824 then ζ (i / j)else ε)=ζ k:=h;by_cases hc:0<j/\j<1073741824
  .rw[if_pos hc]at h;cases h;exact Ap pins s σ H _ _ v u Q I rx ry ⟨i,j,rfl,rfl,hc,q⟩
  .rw[if_neg hc]at h;cases h
 |Mod=>
  have h:(if 0<j then ζ (i%j)else ε)=ζ k:=h;by_cases hc:0<j
  .rw[if_pos hc]at h;cases h;exact DE pins s σ H _ _ v u Q I rx ry ⟨i,j,rfl,rfl,hc,q⟩
  .rw[if_neg hc]at h;cases h
 |RShift=>
  have h:(if 0<=j then ζ (i / 2 ^ j.toNat)else ε)=ζ k:=h;by_cases hc:0<=j
  .rw[if_pos hc]at h;cases h;exact De pins s σ H _ _ v u Q I rx ry ⟨i,j,rfl,rfl,hc,q⟩
  .rw[if_neg hc]at h;cases h
 |BitAnd=>cases h;exact EE pins s σ H _ _ v u Q I rx ry ⟨i,j,rfl,rfl,q⟩
 |BitXor=>cases h;exact Dh pins s σ H _ _ v u Q I rx ry ⟨i,j,rfl,rfl,q⟩
 |_=>cases h
theorem mY(c:Array Nat):∀(k:Nat) (acc:Array Nat),((π k c).foldl (λx y=>x++y) acc).size=acc.size+c.size*k
 |0,acc=>rfl
 |k+1,acc=>by
  rw[bq,Yw,mY c k,Array.size_append,Nat.mul_succ];omega
theorem zN(a:Str)(k:Nat):(qu a k).length=a.length*k:=by
 have:=mY a.cps k #[];rw[show(#[]:Array Nat).size=0 from rfl,fg]at this;exact this
theorem rl:jc X (IR .Mult) (λx y H Q=>∃(a:Str) (n:Int),x=.str a/\y=.int n/\(1<n/\n<=1000/\0<a.length/\a.length<=1000)/\Q (.str (qu a n.toNat)) H):=by
 intro pins s σ H x y v u Q I rx ry h;obtain⟨a,n,rfl,rfl,⟨h1,h2,h3,h4⟩,q⟩:=h;obtain⟨t,rfl⟩:=rx;obtain⟨t',rfl⟩:=ry;have hn1:¬ n<1:=by omega
 have Pj:(n==1 || a.length==0)=γ:=by
  rw[Bool.or_eq_false_iff];exact⟨beq_false_of_ne (by omega),beq_false_of_ne (by omega)⟩
 have hm:a.length*n.toNat<=1000000:=a8 (Û h4 (show n.toNat<=1000 by omega)) (by decide);refine PySem.P.mul_str (by rw[bj (by omega),bj (by omega)];rfl) (λ_ _=>?_) (λ_ _=>?_) ?_
 .have:(1000:Int)<=(2 ^ 63-1) / n:=by
   rw[Int.le_ediv_iff_mul_le (by omega)];omega
  omega
 .unfold Ľ;rw[bj];rw[wE];omega
 .rw[if_neg hn1,if_neg (by rw[Pj];exact bo)];simp only[Made.post];refine⟨?_,.str (qu a n.toNat),H,I.tok _,⟨_,rfl⟩,q⟩;show(qu a n.toNat).length<=Ζ;rw[zN,wE];omega
theorem Bm(op:FM):jc X (IR op) (Ah X.K (lZ op)):=by
 intro pins s σ H x y v u Q I rx ry h;obtain⟨d1,d2,d,G,rs,hd,k⟩:=h;obtain⟨G1,G2,r1,r2,rfl⟩:=rs.inv2;cases d1 with
 |int i=>
  cases d2 with
  |int j=>
   obtain⟨rfl,rfl⟩:=r1.int_inv;obtain⟨rfl,rfl⟩:=r2.int_inv;have:lZ op (.int i) (.int j)=(binI op i j).map .int:=rfl;rw[this,aa]at hd;obtain⟨z,hz,rfl⟩:=hd;exact Bz hz pins s σ H _ _ v u Q I rx ry ⟨rfl,rfl,k _ H [] (.int z) eI.nil⟩
  |_=>cases hd
 |str a=>
  cases d2 with
  |str b=>
   cases op with
   |Add=>
    obtain⟨hl,rfl⟩:=pz hd;obtain⟨rfl,rfl⟩:=r1.str_inv;obtain⟨rfl,rfl⟩:=r2.str_inv;exact sO pins s σ H _ _ v u Q I rx ry ⟨a,b,rfl,rfl,hU hl,k _ H [] (.str _) eI.nil⟩
   |_=>cases hd
  |int n=>
   cases op with
   |Mult=>
    have hd:(if 1<n/\n<=1000/\0<a.length/\a.length<=1000 then ζ (D.str (qu a n.toNat))else ε)=ζ d:=hd;by_cases hc:1<n/\n<=1000/\0<a.length/\a.length<=1000
    .rw[if_pos hc]at hd;cases hd;obtain⟨rfl,rfl⟩:=r1.str_inv;obtain⟨rfl,rfl⟩:=r2.int_inv;exact rl pins s σ H _ _ v u Q I rx ry ⟨a,n,rfl,rfl,hc,k _ H [] (.str _) eI.nil⟩
    .rw[if_neg hc]at hd;cases hd
   |_=>cases hd
  |_=>cases hd
 |lst a=>
  obtain⟨p,vs,G',rfl,rfl,h1,h2⟩:=r1.lst_inv;cases d2 with
  |lst b=>
   cases op with
   |Add=>
    obtain⟨hl,rfl⟩:=pz hd;obtain⟨p',K9,U9,rfl,rfl,JF,Jc⟩:=r2.lst_inv;refine BK pins s σ H _ _ v u Q I rx ry ⟨p,p',vs,K9,rfl,rfl,h1,JF,by rw[<-h2.len,<-Jc.len];exact hU hl,λq hq=>?_⟩;obtain⟨n1,n2⟩:=fZ (G0:=p::G'++p'::U9) (h2.append Jc) (λa ha=>by simp at ha ⊢;rcases ha with ha|ha<;>simp[ha]) hq;exact k _ _ _ n1 n2
   |_=>cases hd
  |int n=>
   cases op with
   |Mult=>
    have hd:(if -(2 ^ 63)<=n/\n<2 ^ 63 then(if D.Ig a then ck (a.length*n.toNat) (.lst (π n.toNat a).flatten)else ε)else ε)=ζ d:=hd;by_cases hc : -(2 ^ 63)<=n/\n<2 ^ 63
    .rw[if_pos hc]at hd;by_cases hf:D.Ig a=δ
     .rw[if_pos hf]at hd;obtain⟨hl,rfl⟩:=pz hd;obtain⟨rfl,rfl⟩:=r2.int_inv;have eG:G'=[]:=h2.flat hf;subst eG;refine Bc pins s σ H _ _ v u Q I rx ry ⟨p,n,vs,rfl,rfl,h1,hc.1,hc.2,by rw[<-h2.len];exact hU hl,λq hq=>?_⟩;obtain⟨n1,n2⟩:=fZ (G0:=[p] ++ []) (h2.rep n.toNat) (λa ha=>(nomatch ha)) hq;exact k _ _ _ n1 n2
     .rw[if_neg hf]at hd;cases hd
    .rw[if_neg hc]at hd;cases hd
   |_=>cases hd
  |_=>cases hd
 |_=>cases hd
theorem lU{f:D->D->Option Bool}:∀{xs ys:List D}{b:Bool},vH f xs ys=ζ b->xs.length=ys.length/\∃e:Nat->Bool,(∀j x y,xs[j]? = ζ x->ys[j]? = ζ y->f x y=ζ (e j))/\b=(bv xs.length).all e
 |[],[],b,h=>by cases h;exact⟨rfl,λ_=>δ,λj x y hx=>by simp at hx,rfl⟩
 |x::xs,y::ys,b,h=>by
  simp only[vH,ag,aa]at h;obtain⟨a,h1,c,h2,rfl⟩:=h;obtain⟨hl,e,he,rfl⟩:=lU h2;refine⟨by simp[hl],λj=>match j with|0=>a|j+1=>e j,λj x' y' hx hy=>?_,?_⟩
  .cases j with
   |zero=>simp at hx hy;subst hx;subst hy;exact h1
   |succ j=>exact he j x' y' (by simpa using hx) (by simpa using hy)
  .rw[av,i7,g7,List.all_map];rfl
 |[],_::_,b,h=>by cases h
 |_::_,[],b,h=>by cases h
section
variable {pins:List (ι×na)}{σ:L2.St}{H:Hp}{s:θ}
theorem yJ(I:Inv X pins σ H s):∀(n:Nat) {d e:D}{v:V}{G G':List ι}{b:Bool},Rep X.K H d v G->Rep X.K H e v G'->D.JH n d e=ζ b->b=δ
 |0,_,_,_,_,_,_,_,_,h=>by cases h
 |n+1,d,e,v,G,G',b,r1,r2,h=>by
  have it:∀{xs ys:List D}{vs:List V}{g g':List ι}{c:Bool},aF X.K H xs vs g->aF X.K H ys vs g'->vH (D.JH n) xs ys=ζ c->c=δ:=λ{xs ys vs g g' c} a a' hc=>by
   obtain⟨hl,ee,he,rfl⟩:=lU hc;rw[cq];intro j hj;rw[Tk]at hj;obtain⟨v1,g1,e1,p1,_⟩:=a.get (i:=j) (d:=xs[j]) (by simp[hj]);obtain⟨v2,g2,e2,p2,_⟩:=a'.get (i:=j) (d:=ys[j]) (by simp);rw[e1]at e2;cases e2;exact yJ I n p1 p2 (he j _ _ (by simp[hj]) (by simp))
  cases d with
  |int a=>
   obtain⟨rfl,rfl⟩:=r1.int_inv;cases e with
   |int i=>obtain⟨z,rfl⟩:=r2.int_inv;cases z;cases h;exact iw _
   |_=>cases h
  |lst xs=>
   obtain⟨l,vs,g,rfl,rfl,a1,a2⟩:=r1.lst_inv;cases e with
   |lst ys=>
    obtain⟨m,ws,g',z,rfl,b1,b2⟩:=r2.lst_inv;cases z;obtain rfl:=I.IF (.inl a1) (.inl b1);have h:(if xs.length=ys.length then vH (D.JH n) xs ys else ζ γ)=ζ b:=h;rw[if_pos (a2.len.trans b2.len.symm)]at h;exact it a2 b2 h
   |_=>cases h
  |_=>cases h
theorem pO{n:Nat}(f:∀(d e:D) (v w:V) (G G':List ι) (u u':η) (b:Bool),Rep X.K H d v G->Rep X.K H e w G'->RelV v u->RelV w u'->D.JH n d e=ζ b->Zy A s u u' b){xs ys:List D}{vs ws:List V}{G1 G2:List ι}{its its':List η}{c:Bool}(a1:aF X.K H xs vs G1)(a2:aF X.K H ys ws G2)(b1:aL vs its)(b2:aL ws its')(hc:vH (D.JH n) xs ys=ζ c) :
  its.toArray.size=its'.toArray.size/\∃ee:Nat->Bool,c=(bv its.toArray.size).all ee/\∀j (h1:j<its.toArray.size) (h2:j<its'.toArray.size),Zy A s its.toArray[j] its'.toArray[j] (ee j):=by
 obtain⟨hl,ee,he,rfl⟩:=lU hc;have l1:=a1.len;have l2:=a2.len;have l3:=b1.length;have l4:=b2.length;have sz:its.toArray.size=xs.length:=by rw[aq];omega
 refine⟨by rw[aq,aq];omega,ee,by rw[sz],λj h1 h2=>?_⟩;have j1:j<xs.length:=by rw[<-sz];exact h1
 have j2:j<ys.length:=by omega
 obtain⟨v1,g1,e1,p1,_⟩:=a1.get (i:=j) (d:=xs[j]) (by simp[j1]);obtain⟨v2,g2,e2,p2,_⟩:=a2.get (i:=j) (d:=ys[j]) (by simp[j2]);obtain⟨u1,f1,t1⟩:=b1.get e1;obtain⟨u2,f2,t2⟩:=b2.get e2;have x1:its.toArray[j]=u1:=by
  have:=χ.mp f1;simpa using this.2
 have x2:its'.toArray[j]=u2:=by
  have:=χ.mp f2;simpa using this.2
 rw[x1,x2];exact f _ _ _ _ _ _ _ _ _ p1 p2 t1 t2 (he j _ _ (by simp[j1]) (by simp[j2]))
open SeqAt in
theorem yB(I:Inv X pins σ H s):∀(n:Nat) (A:Ρ) (d e:D) (v w:V) (G G':List ι) (u u':η) (b:Bool),A.units+n<W8->Rep X.K H d v G->Rep X.K H e w G'->RelV v u->RelV w u'->D.JH n d e=ζ b->RcAt A s u u' b/\EqAt A s u u' b
 |0,_,_,_,_,_,_,_,_,_,_,_,_,_,_,_,h=>by cases h
 |n+1,A,d,e,v,w,G,G',u,u',b,hu,r1,r2,q1,q2,h=>by
  have QY:A.in1.units+n<W8:=by show A.units+1+n<W8;omega
  have NK:A.units<W8:=by omega
  have items:=@pO X H s A.in1 n λd e v w G G' u u' b r1 r2 q1 q2 h=>(yB I n A.in1 d e v w G G' u u' b QY r1 r2 q1 q2 h).2
  have refs:∀{l m:ι}{c:Bool},(l=m->c=δ)->RcAt A s (.ref l) (.ref m) c->RcAt A s (.ref l) (.ref m) c/\EqAt A s (.ref l) (.ref m) c:=λ{l m c} hs hr=>⟨hr,by
   by_cases z:l=m
   .subst z;rw[hs rfl];exact EqAt.same _
   .exact EqAt.of_refs z hr⟩
  cases d with
  |int a=>
   obtain⟨rfl,rfl⟩:=r1.int_inv;obtain⟨t0,rfl⟩:=q1;cases e with
   |int i=>obtain⟨rfl,rfl⟩:=r2.int_inv;obtain⟨t,rfl⟩:=q2;cases h;exact⟨RcAt.int_int a t0 i t,EqAt.int_int a t0 i t⟩
   |_=>cases h
  |lst xs=>
   obtain⟨l,vs,g,rfl,rfl,a1,a2⟩:=r1.lst_inv;cases q1;obtain⟨its,rv,pl,_⟩:=I.list (.inl a1);cases e with
   |lst ys=>
    obtain⟨m,ws,g',rfl,rfl,b1,b2⟩:=r2.lst_inv;cases q2;obtain⟨its',Ln,L6,_⟩:=I.list (.inl b1);have same:l=m->b=δ:=λz=>by
     subst z;exact yJ I _ r1 r2 h
    have h:(if xs.length=ys.length then vH (D.JH n) xs ys else ζ γ)=ζ b:=h;by_cases hl:xs.length=ys.length
    .rw[if_pos hl]at h;obtain⟨hz,ee,rfl,he⟩:=items a2 b2 rv Ln h;exact refs same (RcAt.lists pl.isList L6.isList hz NK he)
    .rw[if_neg hl]at h;cases h;have hz:(its.toArray.size != its'.toArray.size)=δ:=by
      have l1:=a2.len;have l2:=b2.len;have l3:=rv.length;have l4:=Ln.length;simp only[bne_iff_ne,ne_eq,aq];omega
     exact refs same (RcAt.lists_lengths pl.isList L6.isList hz NK)
   |_=>cases h
  |_=>cases h
end
end
section
variable {X:Cx}{pins:List (ι×na)}{σ:L2.St}{H:Hp}{s:θ}
open SeqAt in
theorem GS(I:Inv X pins σ H s)(n:Nat)(A:Ρ)(d e:D)(v w:V)(G G':List ι)(u u':η)(b:Bool)(hu:A.units+n<W8)(r1:Rep X.K H d v G)(r2:Rep X.K H e w G')(q1:RelV v u)(q2:RelV w u')(h:D.JH n d e=ζ b):RcNeAt A s u u' (!b):=by
 cases n with
 |zero=>cases h
 |succ n=>
  have QY:A.in1.units+n<W8:=by show A.units+1+n<W8;omega
  have NK:A.units<W8:=by omega
  have items:=@pO X H s A.in1 n λd e v w G G' u u' b r1 r2 q1 q2 h=>(yB I n A.in1 d e v w G G' u u' b QY r1 r2 q1 q2 h).2
  have NB:∀{ys:List D}{w:V}{g:List ι}{u:η},Rep X.K H (.lst ys) w g->RelV w u->∃m its vs g',u=.ref m/\s.heap.IsList m its.toArray/\aL vs its/\aF X.K H ys vs g':=λ{ys w g u} r q=>by
   obtain⟨m,ws,g',rfl,rfl,a1,a2⟩:=r.lst_inv;cases q;obtain⟨its,rv,pl,_⟩:=I.list (.inl a1);exact⟨m,its,ws,g',rfl,pl.isList,rv,a2⟩
  cases d with
  |int a=>
   obtain⟨rfl,rfl⟩:=r1.int_inv;obtain⟨t0,rfl⟩:=q1;cases e with
   |int i=>obtain⟨rfl,rfl⟩:=r2.int_inv;obtain⟨t,rfl⟩:=q2;cases h;exact RcNeAt.int_int a t0 i t
   |_=>cases h
  |lst xs=>
   obtain⟨l,its,vs,g1,rfl,pl,rv,a2⟩:=NB r1 q1;cases e with
   |lst ys=>
    obtain⟨m,its',ws,g2,rfl,L6,Ln,b2⟩:=NB r2 q2;have h:(if xs.length=ys.length then vH (D.JH n) xs ys else ζ γ)=ζ b:=h;by_cases hl:xs.length=ys.length
    .rw[if_pos hl]at h;obtain⟨hz,ee,rfl,he⟩:=items a2 b2 rv Ln h;exact RcNeAt.lists pl L6 hz NK he
    .rw[if_neg hl]at h;cases h;have hz:(its.toArray.size != its'.toArray.size)=δ:=by
      have l1:=a2.len;have l2:=b2.len;have l3:=rv.length;have l4:=Ln.length;simp only[bne_iff_ne,ne_eq,aq];omega
     exact RcNeAt.lists_lengths pl L6 hz NK
   |_=>cases h
  |_=>cases h
end
variable {A:Ρ}{a p:ι}{kvs:List (Key×Option Int)}{u:η}
section
variable {X:Cx}
theorem kD.any(n:Int):∀{q:List (Int×MV)}{x:List (Key×V)},kD K H q x->(x.any λkv=>decide (kv.1=kw n))=q.any λkv=>decide (kv.1=n)
 |[],[],_=>rfl
 | (k,m)::q,p::x,⟨a,_,c⟩=>by
  rw[iu,iu,c.any n,a];congr 1;exact decide_eq_decide.mpr ⟨λe=>by injection e,λe=>by rw[e]⟩
 |[],_::_,h=>h.elim
 |_::_,[],h=>h.elim
theorem kD.val(n:Int):∀{q:List (Int×MV)}{x:List (Key×V)}{e:Int×MV},kD K H q x->(q.find? λkv=>decide (kv.1=n))=ζ e->∃v,pe x (.inl n)=ζ v/\vO K H e.2 v
 |[],[],_,_,h=>by cases h
 | (k,m)::q,p::x,e,⟨a,b,c⟩,h=>by
  by_cases hk:k=n
  .rw[List.find?_cons_of_pos (by simpa using hk)]at h;cases h;exact⟨p.2,jI (by rw[a,hk]),b⟩
  .rw[List.find?_cons_of_neg (by simpa using hk)]at h;rw[jH (by rw[a];exactλz=>hk (by injection z))];exact c.val n h
 |[],_::_,_,h,_=>h.elim
 |_::_,[],_,h,_=>h.elim
theorem vO.rep:∀{m:MV}{v:V},vO K H m v->Rep K H (QD m) v []
 |.int i,_,h=>by cases h;exact .int i
theorem mh:∀{a b:List Int},(a.map kw:List Key)=b.map kw->a=b
 |[],[],_=>rfl
 |[],_::_,e=>by simp at e
 |_::_,[],e=>by simp at e
 |x::xs,y::ys,e=>by
  rw[a9,a9]at e;injection e with e1 e2
  rw[È e1,mh e2]
theorem oB(n:List Int):∀ks:List (List Int),((rG ks).any λkv=>decide (kv.1=n.map kw))=ks.contains n
 |[]=>rfl
 |k::ks=>by
  show(decide ((k.map kw:List Key)=n.map kw) || (rG ks).any λkv=>decide (kv.1=n.map kw))=_;rw[oB n ks,dk];congr 1;by_cases e:k=n
  .subst e;simp
  .rw[bj (λz=>e (mh z)),beq_eq_false_iff_ne.mpr (cj e)]
theorem kC{i:Int}(h:aF K H [.int i,.int j] vs G):vs=[.int i,.int j]/\G=[]:=by
 cases h with
 |cons h r=>cases r with
  |cons h' r'=>
   cases r';obtain⟨rfl,rfl⟩:=h.int_inv;obtain⟨rfl,rfl⟩:=h'.int_inv;exact⟨rfl,rfl⟩
theorem xD{σ:L2.St}{ks:List Key}(I:Inv X pins σ H s)(h:nz X.K H a (ks.map kV)):(Xi (aM X.prog X.w)).is s.heap ks a:=by
 obtain⟨its,r,⟨o,h1,h2,n,h3⟩,_⟩:=I.tuple h;exact⟨o,its.toArray,n,h1,h2,h3,by simpa using jP r⟩
noncomputable def vV:Option Int->V
 |none=>.Ii
 |some i=>.int i
theorem AM:∀z:Option Int,Rep K H (PM z) (vV z) []
 |none=>.Ii
 |some i=>.int i
theorem xv(q:Key×Option Int)(kvs:List (Key×Option Int))(k:Key):vq (q::kvs) k=if q.1=k then ζ q.2 else vq kvs k:=by
 unfold vq;rw[Go];by_cases h:q.1=k
 .rw[bt h,if_pos h];rfl
 .rw[bj h,if_neg h]
theorem oa(q:Key×η)(kvs:List (Key×η))(k:Key):KB (q::kvs) k=if q.1=k then ζ q.2 else KB kvs k:=by
 unfold KB;rw[Go];by_cases h:q.1=k
 .rw[bt h,if_pos h];rfl
 .rw[bj h,if_neg h]
theorem jz.pairs{P:Ε}{w:Ξ}:∀{es:List AT}{kvs:List (Key×Option Int)},jz es kvs->(∀e∈es,∀s t,e.key=.str s t->e.hash=ă w s)->∃vs:List (Key×η),Pairs (aM P w) es vs/\vs.map (·.1)=kvs.map (·.1) /\
  (∀k,(∀z,vq kvs k=ζ z->∃u,RelV (vV z) u/\KB vs k=ζ u)/\(KB vs k).isSome=(vq kvs k).isSome)/\(∀e∈es,∃k,(aM P w).is k e.key=δ/\e.hash=(aM P w).hash k):=by
 have step:∀{e:AT}{es:List AT}{k:Key}{z:Option Int}{kvs:List (Key×Option Int)}{u:η},(aM P w).is k e.key=δ->e.hash=(aM P w).hash k->e.val=u->RelV (vV z) u ->
   (∃vs:List (Key×η),Pairs (aM P w) es vs/\vs.map (·.1)=kvs.map (·.1)/\(∀k,(∀z,vq kvs k=ζ z->∃u,RelV (vV z) u/\KB vs k=ζ u)/\(KB vs k).isSome=(vq kvs k).isSome)/\(∀e∈es,∃k,(aM P w).is k e.key=δ/\e.hash=(aM P w).hash k)) ->
   ∃vs:List (Key×η),Pairs (aM P w) (e::es) vs/\vs.map (·.1)=((k,z)::kvs).map (·.1)/\(∀k',(∀z',vq ((k,z)::kvs) k'=ζ z'->∃u,RelV (vV z') u/\KB vs k'=ζ u)/\(KB vs k').isSome=(vq ((k,z)::kvs) k').isSome)/\(∀e'∈e::es,∃k,(aM P w).is k e'.key=δ/\e'.hash=(aM P w).hash k):=by
  intro e es k z kvs u hk hh hv hr ⟨vs,p1,p2,p3,p4⟩;refine⟨(k,u)::vs,.cons hk hv p1,by rw[a9,a9,p2],λk'=>?_,λe' he=>?_⟩
  .rw[xv,oa];by_cases h:k=k'
   .rw[if_pos h,if_pos h];exact⟨λz' q=>by cases q;exact⟨u,hr,rfl⟩,rfl⟩
   .rw[if_neg h,if_neg h];exact p3 k'
  .rcases c9.mp he with rfl|he
   .exact⟨k,hk,hh⟩
   .exact p4 e' he
 intro es kvs h
 induction h with
 |nil=>exactλ_=>⟨[],.nil,rfl,λk=>⟨λz h=>(by cases h),rfl⟩,λ_ h=>(nomatch h)⟩
 |@cons e es k v kvs t u hh hk hv r ih=>exactλhs=>step (by rw[hk];exact eS P w k t) hh hv ⟨u,rfl⟩ (ih λe he=>hs e (ae _ he))
 |@si e es k v kvs t u hk hv r ih=>exactλhs=>step (by rw[hk];exact iF P w k t) (hs e ah k t hk) hv ⟨u,rfl⟩ (ih λe he=>hs e (ae _ he))
 |@sn e es k kvs t hk hv r ih=>exactλhs=>step (by rw[hk];exact iF P w k t) (hs e ah k t hk) hv (show RelV .Ii .none from rfl) (ih λe he=>hs e (ae _ he))
theorem D9{σ:L2.St}(hx:rS X.w X.K)(I:Inv X pins σ H s)(h:Fe X.K p kvs):∃vs,s.heap.DictOf (aM X.prog X.w) p vs /\
  (∀k,(∀z,vq kvs k=ζ z->∃u,RelV (vV z) u/\KB vs k=ζ u)/\(KB vs k).isSome=(vq kvs k).isSome)/\(∀z v r,kvs=(.inr z,v)::r->(p==Ch)=γ):=by
 obtain⟨o,es,ep,h1,h2,h3,h4,h5⟩:=h;obtain⟨vs,p1,p2,p3,p4⟩:=h4.pairs (P:=X.prog) (w:=X.w) λe he s t q=>(hx p o es ep h1 h3 kvs h4 e he s t q).2
 refine⟨vs,⟨o,es,ep,I.Jd _ o h1,h2,h3,λe he=>p4 e (by simpa using he),p1,by rw[p2];exact h5⟩,p3,λz v r q=>?_⟩;subst q;cases hl:es.toList with
 |nil=>rw[hl]at h4;cases h4
 |cons e l=>
  have hm:e∈es.toList:=by rw[hl];exact ah
  have hk:∃t,e.key=.str z t:=by
   rw[hl]at h4;cases h4 with
   |si hk hv r=>exact⟨_,hk⟩
   |sn hk hv r=>exact⟨_,hk⟩
  obtain⟨t,hk⟩:=hk;exact(hx p o es ep h1 h3 _ h4 e hm z t hk).1
noncomputable def QQ:D->Bool
 |.IA _=>δ
 |.IK _=>δ
 |_=>γ
theorem kG{E:η->θ->Prop}{σ:L2.St}{d1 d2:D}{x:V}{v:η}{G1 G2:List ι}{b:Bool}{Q:η->θ->Prop}(hu:A.units+1<W8)(I:Inv X pins σ H s)(r1:Rep X.K H d1 x G1)(r2:Rep X.K H d2 y G2)(rx:RelV x v)(ry:RelV y u)(hm:QQ d2=δ)(hb:inD d1 d2=ζ b) :
  ((∀s',Inv X pins σ H s'->Q (.bool b) s')->υ (Α X.prog X.w) A (wp .In v u) Q E s)/\((∀s',Inv X pins σ H s'->Q (.bool (!b)) s')->υ (Α X.prog X.w) A (wp .NotIn v u) Q E s):=by
 cases r2 with
 |@IA p ks xs hr kr=>
  have hb:((asPair d1).bind λ_=>if ks.isEmpty then ζ γ else ε)=ζ b:=hb;rw[ag]at hb;obtain⟨⟨⟨i,j⟩,rfl⟩,_,hb⟩:=hb;obtain⟨rfl,rfl⟩:ks=[]/\b=γ:=by
   cases ks with
   |nil=>cases hb;exact⟨rfl,rfl⟩
   |cons _ _=>cases hb
  .obtain⟨q,vs,rfl,a1,a2⟩:=r1.Im;obtain⟨rfl,rfl⟩:=kC a2;obtain rfl:u=.ref p:=ry;obtain rfl:v=.ref q:=rx;cases xs with
   |cons _ _=>exact kr.elim
   |nil=>
   obtain⟨z,hd,vs,rel,o,es,ep,h1,h2,h3,h4,h5,h6⟩:=tY I.Ib (.inl hr);cases rel;have NY:es.toList=[]:=by
    cases q:es.toList with
    |nil=>rfl
    |cons x r=>rw[q]at h5;cases h5
   have dd:s.heap.DictOfH (Xi (aM X.prog X.w)) p []:=⟨o,es,ep,h1,h2,h3,NY,λx hx=>(nomatch hx),bu⟩;have ky:(Xi (aM X.prog X.w)).is s.heap ([i,j].map kw) q:=xD I a1;exact⟨λh=>Ő (W6 hu) ky hd dd (h _ (I.tok _)),λh=>Ė (W6 hu) ky hd dd (h _ (I.tok _))⟩
 |@IK p ks hr=>
  have hb:((asPair d1).map λq=>ks.contains [q.1.1,q.1.2])=ζ b:=hb;rw[aa]at hb;obtain⟨⟨⟨i,j⟩,rfl⟩,_,rfl⟩:=hb;obtain⟨q,vs,rfl,a1,a2⟩:=r1.Im;obtain⟨rfl,rfl⟩:=kC a2;obtain rfl:u=.ref p:=ry;obtain rfl:v=.ref q:=rx;obtain⟨z,hd,xs,rel,dd⟩:=xV I.Ib hr;have ky:(Xi (aM X.prog X.w)).is s.heap ([i,j].map kw) q:=xD I a1;have e:ks.contains [i,j]=((Zi xs ([i,j].map kw))).isSome:=by
   have e1:=(rel.val ([i,j].map kw)).Jw;rw[ZB]at e1;rw[<-e1,<-lq,oB]
  refine⟨λh=>Ő (W6 hu) ky hd dd ?_,λh=>Ė (W6 hu) ky hd dd ?_⟩
  .rw[<-e];exact h _ (I.tok _)
  .rw[<-e];exact h _ (I.tok _)
 |_=>cases hm
theorem nE:∀{xs:List D}{k:List Int},vh xs=ζ k->xs=k.map D.int
 |[],k,h=>by cases h;rfl
 |.int i::r,k,h=>by
  have h:(vh r).map (i :: ·)=ζ k:=h;rw[aa]at h;obtain⟨k',h1,rfl⟩:=h;rw[nE h1];rfl
theorem tH:∀{ns:List Int}{vs:List V}{G:List ι}{us:List η},aF K H (ns.map D.int) vs G->aL vs us->On us ns
 |[],_,_,_,.nil,.nil=>.nil
 |n::ns,_,_,_,.cons h r,.cons x y=>by
  obtain⟨rfl,_⟩:=h.int_inv;obtain⟨t,rfl⟩:=x;exact .cons _ _ (tH r y)
theorem sZ(op:Ya)(hx:X.A.units+40<W8/\rS X.w X.K):jc X (wp op) (Ah X.K λx y=>(qa op x y).map .bl):=by
 have hu:=hx.1;intro pins s σ H x y v u Q I rx ry h;obtain⟨d1,d2,d,G,rs,hd,k⟩:=h;obtain⟨G1,G2,r1,r2,rfl⟩:=rs.inv2;rw[aa]at hd;obtain⟨b,hb,rfl⟩:=hd;have fin:Q (.bl b) H:=k _ H [] (.bl b) eI.nil;have ep:∀c,c=b->EP X pins σ Q (.bool c) s:=λc e=>⟨.bl b,H,I,by rw[e];rfl,fin⟩
 have Kc:∀{f:Int->Int->Bool},(∀i j,qa op (.int i) (.int j)=ζ (f i j))->(∀d1 d2,(∀i j,¬ (d1=.int i/\d2=.int j))->qa op d1 d2=ε)->jc X (wp op) (vQ λi j=>.bl (f i j))->υ (Α X.prog X.w) X.A (wp op v u) (EP X pins σ Q) X.xe s:=by
  intro f h1 h2 ho;by_cases hi:∃i j,d1=.int i/\d2=.int j
  .obtain⟨i,j,rfl,rfl⟩:=hi;rw[h1]at hb;cases hb;obtain⟨rfl,rfl⟩:=r1.int_inv;obtain⟨rfl,rfl⟩:=r2.int_inv;exact ho pins s σ H _ _ v u Q I rx ry ⟨i,j,rfl,rfl,fin⟩
  .rw[h2 d1 d2 λi j z=>hi ⟨i,j,z⟩]at hb;cases hb
 have L7:∀(op:Ya),(op = .Lt\/op = .Gt\/op = .GtE)->∀d1 d2:D,(∀i j,¬ (d1=.int i/\d2=.int j))->qa op d1 d2=ε:=by
  intro op ho d1 d2 hn;cases d1 with
  |int i=>
   cases d2 with
   |int j=>exact absurd ⟨rfl,rfl⟩ (hn i j)
   |_=>rcases ho with rfl|rfl|rfl<;>rfl
  |_=>rcases ho with rfl|rfl|rfl<;>rfl
 cases op with
 |Lt=>exact Kc (λ_ _=>rfl) (L7 .Lt (.inl rfl)) Hk
 |LtE=>cases hb
 |Gt=>exact Kc (λ_ _=>rfl) (L7 .Gt (.inr (.inl rfl))) FD
 |GtE=>exact Kc (λ_ _=>rfl) (L7 .GtE (.inr (.inr rfl))) GW
 |Eq=>
  have hb:D.JH 40 d1 d2=ζ b:=hb;exact(yB I 40 X.A d1 d2 x y G1 G2 v u b hu r1 r2 rx ry hb).1 _ _ _ _ (ep b rfl)
 |NotEq=>
  have hb:(D.JH 40 d1 d2).map (!·)=ζ b:=hb;rw[aa]at hb;obtain⟨c,hc,rfl⟩:=hb;exact GS I 40 X.A d1 d2 x y G1 G2 v u c hu r1 r2 rx ry hc _ _ _ _ (ep _ rfl)
 |Is=>cases hb
 |IsNot=>
  cases d2 with
  |Ii=>
   obtain⟨rfl,rfl⟩:=r2.JE;refine zZ pins s σ H _ _ v u Q I rx ry ⟨rfl,?_⟩;have hb:ζ (!yX d1)=ζ b:=hb;cases hb;have:(!decide (x=V.Ii)) = !yX d1:=by
    cases r1<;>rfl
   rw[this];exact fin
  |_=>cases hb
 |In=>
  have hb:inD d1 d2=ζ b:=hb;cases d2 with
  |str z=>
   cases d1 with
   |str w=>
    cases hb;obtain⟨rfl,rfl⟩:=r1.str_inv;obtain⟨rfl,rfl⟩:=r2.str_inv;exact uK pins s σ H _ _ v u Q I rx ry ⟨w,z,rfl,rfl,fin⟩
   |_=>cases hb
  |IA ks=>exact(kG (by omega) I r1 r2 rx ry rfl hb).1 λs' I'=>⟨.bl b,H,I',rfl,fin⟩
  |IK ks=>exact(kG (by omega) I r1 r2 rx ry rfl hb).1 λs' I'=>⟨.bl b,H,I',rfl,fin⟩
  |_=>cases hb
 |NotIn=>
  have hb:(inD d1 d2).map (!·)=ζ b:=hb;rw[aa]at hb;obtain⟨c,hi,rfl⟩:=hb;clear hb;cases d2 with
  |str z=>
   cases d1 with
   |str w=>
    cases hi;obtain⟨rfl,rfl⟩:=r1.str_inv;obtain⟨rfl,rfl⟩:=r2.str_inv;exact og pins s σ H _ _ v u Q I rx ry ⟨w,z,rfl,rfl,fin⟩
   |_=>cases hi
  |IA ks=>exact(kG (by omega) I r1 r2 rx ry rfl hi).2 λs' I'=>⟨.bl _,H,I',rfl,fin⟩
  |IK ks=>exact(kG (by omega) I r1 r2 rx ry rfl hi).2 λs' I'=>⟨.bl _,H,I',rfl,fin⟩
  |_=>cases hi
theorem zE(n:Nat)(i:Int):Pc.iZ n i=L2.iZ n i:=rfl
theorem AS(hx:rS X.w X.K):zS X (FV X.K):=by
 intro value slice pins s σ H x y v u Q I rx ry h hs;obtain⟨d1,d2,d,G,rs,hd,k⟩:=h;obtain⟨G1,G2,r1,r2,rfl⟩:=rs.inv2;cases d2 with
 |int i=>
  obtain⟨rfl,rfl⟩:=r2.int_inv;rw[bh]at k;have seq:∀{xs:List D}{vs:List V}{g:List ι},aF X.K H xs vs g->((iZ xs.length i).bind λj=>xs[j]?)=ζ d->∃w g',A8 vs i=ζ w/\Rep X.K H d w g'/\g'.Sublist g:=λ{xs vs g} r e=>by
   rw[ag]at e;obtain⟨j,e1,e2⟩:=e;obtain⟨w,g',a,b,c⟩:=r.get e2;refine⟨w,g',?_,b,c⟩;unfold A8;rw[<-r.len,<-zE,e1];exact a
  cases d1 with
  |lst xs=>
   obtain⟨p,vs,g,rfl,rfl,a1,a2⟩:=r1.lst_inv;obtain⟨w,g',e1,e2,e3⟩:=seq a2 hd;exact tG value slice pins s σ H _ _ v u Q I rx ry ⟨p,vs,i,w,rfl,rfl,.inl a1,e1,k w g' e2 (e3.trans (List.sublist_cons_self _ _))⟩ hs
  |tup xs=>
   obtain⟨p,vs,rfl,a1,a2⟩:=r1.Im;obtain⟨w,g',e1,e2,e3⟩:=seq a2 hd;exact xF value slice pins s σ H _ _ v u Q I rx ry ⟨p,vs,i,w,rfl,rfl,a1,e1,k w g' e2 e3⟩ hs
  |str z=>
   obtain⟨rfl,rfl⟩:=r1.str_inv;have hd:(if z.length<=lim then((Pc.iZ z.cps.toList.length i).bind λj=>z.cps.toList[j]?).map (λc=>D.str ⟨#[c]⟩)else ε)=ζ d:=hd;by_cases hl:z.length<=lim
   .rw[if_pos hl,aa]at hd;obtain⟨c,hc,rfl⟩:=hd;exact CY value slice pins s σ H _ _ v u Q I rx ry ⟨z,i,c,rfl,rfl,hU hl,hc,k _ [] (.str _) (Yq _)⟩ hs
   .rw[if_neg hl]at hd;cases hd
  |JI kvs=>
   cases r1 with
   |JI hp=>
    have hd:(vq kvs (kw i)).map PM=ζ d:=hd;rw[aa]at hd;obtain⟨z,hz,rfl⟩:=hd;cases rx;obtain⟨t,rfl⟩:=ry;obtain⟨vs,dd,p3,_⟩:=D9 hx I hp;obtain⟨u',ru,hu⟩:=(p3 (.inl i)).1 z hz;have fin:EP X pins σ Q u' {s with toks:=s.toks+1}:=⟨vV z,H,I.tok _,ru,k _ [] (AM z) (Yq _)⟩;exact Xc (x:=u') dd.mapOf.typeIs ċ.lookup (ė (Q:=λr s'=>r=u'/\EP X pins σ Q r s') (eS X.prog X.w i t) dd.mapOf hu ⟨rfl,fin⟩) hs
  |IA ks=>
   cases r1 with
   |@IA p _ xs hr kr=>
    have hd:(ks.find? λq=>decide (q.1=i)).map (λq=>QD q.2)=ζ d:=hd;rw[aa]at hd;obtain⟨e,he,rfl⟩:=hd;obtain⟨v',hv',mr⟩:=kr.val i he;cases rx;obtain⟨t,rfl⟩:=ry;obtain⟨z,lo,vs,rel,dd⟩:=tY I.Ib (.inl hr);obtain⟨u',hu,ru⟩:∃u',KB vs (.inl i)=ζ u'/\RelV v' u':=by
     have:=rel.val (.inl i);rw[hv']at this;cases q:KB vs (.inl i)with
     |none=>rw[q]at this;exact this.elim
     |some u'=>rw[q]at this;exact⟨u',rfl,this⟩
    have fin:EP X pins σ Q u' {s with toks:=s.toks+1}:=⟨v',H,I.tok _,ru,k _ [] mr.rep (Yq _)⟩;exact Xc (x:=u') dd.mapOf.typeIs ċ.lookup (ė (Q:=λr s'=>r=u'/\EP X pins σ Q r s') (eS X.prog X.w i t) dd.mapOf hu ⟨rfl,fin⟩) hs
  |_=>cases hd
 |_=>cases hd
end
variable {E:XK}{F:Nat->List ι}{Q:VK}{e:Expr}{i:Nat}{x:Str}
section
variable {X:Cx}{T:Tb}{a b c:Expr}{ca cb cc:Ex}{pos:W3}
theorem Dy(hN:X.N[i]? = ζ x)(hv:zU X.env.scope x)(hd:(x==("__debug__" : Str))=γ) (IT:(x==("__classdict__" : Str))=γ):PE X (.Name x pos) (tE X.K T (.var i)):=by
 refine bB (oN hN hv hd IT) λσ H Q ⟨P,env,F,re,p,HZ,k⟩=>?_
 unfold ev at HZ;cases hs:env[i]? with
 |none=>rw[hs]at HZ;cases HZ
 |some o=>
  cases o with
  |none=>rw[hs]at HZ;cases HZ
  |some q=>
   obtain⟨d,t⟩:=q;rw[hs]at HZ;injection HZ with HZ
   subst HZ;obtain⟨v,e1,rp⟩:=re.val i d t hs;refine⟨v,e1,k v H (F i) (aG.refl _) rp ?_⟩;cases hf:d.flat with
   |true=>
    rw[rp.flat hf];exact bH.nil
   |false=>
    simp only[cx,if_false];have ow:aY t=δ->bH env F H (.mv [i]) H (F i):=λo=>by
     obtain⟨n1,n2,n3⟩:=re.one i d t hs o;refine⟨λa ha=>.inr ⟨i,d,t,ha,hs,λq hq=>by cases t<;>simp_all [be,aY,Rt.roots]⟩,λR e=>?_⟩;cases e;exact⟨n1,n2,λa ha=>.inr ⟨i,d,t,by simp,ha,hs,o⟩⟩
    cases t with
    |own=>exact ow rfl
    |lk=>exact ow rfl
    |sh R=>exact⟨λa ha=>.inr ⟨i,d,.sh R,ha,hs,λq hq=>hq⟩,λR' e=>by cases e⟩
theorem iG(h:PE X e (tC v))(hr:∀H,Rep X.K H d v []):PE X e (tE X.K T (.cst d)):=by
 refine bB h λσ H Q ⟨P,env,F,re,p,HZ,k⟩=>?_
 unfold ev at HZ;cases HZ;exact k v H [] (aG.refl _) (hr H) bH.nil
theorem Dt(h:PE X e (tC v))(hr:∀H,Rep X.K H (T.gl i) v []):PE X e (tE X.K T (.Ic i)):=by
 refine bB h λσ H Q ⟨P,env,F,re,p,HZ,k⟩=>?_
 unfold ev at HZ;cases HZ;exact k v H [] (aG.refl _) (hr H) bH.nil
theorem Em(ha:PE X a (tE X.K T ca)):PE X (.UnaryOp .USub a pos) (tE X.K T (.neg ca)):=by
 refine bB (Hh EK ha) λσ H Q ⟨P,env,F,re,p,HZ,k⟩=>?_
 unfold ev at HZ;obtain⟨q,h1,HZ⟩:=Rs.HY HZ;refine⟨P,env,F,re,q,h1,λv H1 G s rp rt=>?_⟩;cases hq:q.1 with
 |int i=>
  rw[hq]at HZ rp;cases HZ;obtain⟨rfl,rfl⟩:=rp.int_inv;exact⟨i,rfl,k _ H1 [] s (.int _) bH.nil⟩
 |_=>rw[hq]at HZ;cases HZ
theorem EM{op:Ya}(hu:X.A.units+40<W8/\rS X.w X.K)(ha:PE X a (tE X.K T ca))(hb:PE X b (tE X.K T cb))(hm:At op b=γ):PT X (.Compare a [op] [b] pos) (nr X.K T (.cmp op ca cb)):=by
 refine rz (BL (sZ op hu) ha hb hm) λσ H Q ⟨P,env,F,re,p0,bb,HZ,ht,k⟩=>?_
 unfold ev at HZ;obtain⟨p,h1,HZ⟩:=Rs.HY HZ;obtain⟨q,h2,HZ⟩:=Rs.HY HZ;obtain⟨d,h3,HZ⟩:=Rs.HY HZ;have h3:=bY h3;cases HZ;obtain rfl:d=bb:=c6 ht;refine two re h1 h2 λx y H2 G ar=>⟨p.1,q.1,.bl d,G,ar.Io,by simp[h3],λv H' G' rp nv=>?_⟩
 obtain⟨rfl,_⟩:=rp.IJ;exact⟨d,rfl,k H' (ar.same.trans nv.same)⟩
variable {rest:List Expr}
theorem EV(ha:PE X a (tE X.K T ca))(hb:PE X (.BoolOp .And (b::rest) pos) (tE X.K T cb)):PE X (.BoolOp .And (a::b::rest) pos) (tE X.K T (.and ca cb)):=by
 refine bB (oQ ha hb) λσ H Q ⟨P,env,F,re,p,HZ,k⟩=>?_
 unfold ev at HZ;obtain⟨q,h1,HZ⟩:=Rs.HY HZ;refine⟨P,env,F,re,q,h1,λv H1 G s rp rt=>?_⟩;cases hq:q.1 with
 |bl kb=>
  rw[hq]at HZ rp;obtain⟨rfl,rfl⟩:=rp.IJ;cases kb with
  |true=>exact⟨δ,rfl,by rw[if_pos rfl];exact⟨P,env,F,re.same s,p,HZ,λv H' G s' Kj Lb=>k v H' G (s.trans s') Kj (Lb.back s)⟩⟩
  |false=>
   cases HZ;exact⟨γ,rfl,by rw[if_neg bo];exact k _ H1 [] s (.bl _) bH.nil⟩
 |_=>rw[hq]at HZ;cases HZ
theorem Hi(ha:PE X a (tE X.K T ca))(hb:PE X (.BoolOp .Or (b::rest) pos) (tE X.K T cb)):PE X (.BoolOp .Or (a::b::rest) pos) (tE X.K T (.or ca cb)):=by
 refine bB (Fk ha hb) λσ H Q ⟨P,env,F,re,p,HZ,k⟩=>?_
 unfold ev at HZ;obtain⟨q,h1,HZ⟩:=Rs.HY HZ;refine⟨P,env,F,re,q,h1,λv H1 G s rp rt=>?_⟩;cases hq:q.1 with
 |bl kb=>
  rw[hq]at HZ rp;obtain⟨rfl,rfl⟩:=rp.IJ;cases kb with
  |false=>exact⟨γ,rfl,by rw[if_neg bo];exact⟨P,env,F,re.same s,p,HZ,λv H' G s' Kj Lb=>k v H' G (s.trans s') Kj (Lb.back s)⟩⟩
  |true=>
   cases HZ;exact⟨δ,rfl,by rw[if_pos rfl];exact k _ H1 [] s (.bl _) bH.nil⟩
 |_=>rw[hq]at HZ;cases HZ
theorem Eh(ha:PE X a (tE X.K T ca)):PE X (.UnaryOp .Not a pos) (tE X.K T (.not ca)):=by
 refine bB (o9 ha) λσ H Q ⟨P,env,F,re,p,HZ,k⟩=>?_
 unfold ev at HZ;obtain⟨q,h1,HZ⟩:=Rs.HY HZ;refine⟨P,env,F,re,q,h1,λv H1 G s rp rt=>?_⟩;cases hq:q.1 with
 |bl kb=>
  rw[hq]at HZ rp;obtain⟨rfl,rfl⟩:=rp.IJ;cases HZ;exact⟨kb,rfl,k _ H1 [] s (.bl _) bH.nil⟩
 |_=>rw[hq]at HZ;cases HZ
theorem CQ(ha:PT X a (nr X.K T ca))(hb:PW X (.BoolOp .And (b::rest) pos) (nr X.K T cb)):PW X (.BoolOp .And (a::b::rest) pos) (nr X.K T (.and ca cb)):=by
 intro wh pins s σ H Q I h;refine Ez ha hb wh pins s σ H Q I ?_;obtain⟨P,env,F,re,p,bb,HZ,ht,k⟩:=h;unfold ev at HZ;obtain⟨q,h1,HZ⟩:=Rs.HY HZ;cases hq:q.1 with
 |bl kb=>
  rw[hq]at HZ;cases kb with
  |true=>exact⟨P,env,F,re,q,δ,h1,by rw[hq];rfl,λH' s=>by show if δ=δ then _ else _;rw[if_pos rfl];exact⟨P,env,F,re.same s,p,bb,HZ,ht,λH2 s2=>k H2 (s.trans s2)⟩⟩
  |false=>
   cases HZ;cases ht;exact⟨P,env,F,re,q,γ,h1,by rw[hq];rfl,λH' s=>by show if γ=δ then _ else _;rw[if_neg bo];exact k H' s⟩
 |_=>rw[hq]at HZ;cases HZ
theorem GP(ha:PT X a (nr X.K T ca))(hb:PW X (.BoolOp .Or (b::rest) pos) (nr X.K T cb)):PW X (.BoolOp .Or (a::b::rest) pos) (nr X.K T (.or ca cb)):=by
 intro wh pins s σ H Q I h;refine w8 ha hb wh pins s σ H Q I ?_;obtain⟨P,env,F,re,p,bb,HZ,ht,k⟩:=h;unfold ev at HZ;obtain⟨q,h1,HZ⟩:=Rs.HY HZ;cases hq:q.1 with
 |bl kb=>
  rw[hq]at HZ;cases kb with
  |false=>exact⟨P,env,F,re,q,γ,h1,by rw[hq];rfl,λH' s=>by show if γ=δ then _ else _;rw[if_neg bo];exact⟨P,env,F,re.same s,p,bb,HZ,ht,λH2 s2=>k H2 (s.trans s2)⟩⟩
  |true=>
   cases HZ;cases ht;exact⟨P,env,F,re,q,δ,h1,by rw[hq];rfl,λH' s=>by show if δ=δ then _ else _;rw[if_pos rfl];exact k H' s⟩
 |_=>rw[hq]at HZ;cases HZ
theorem Dg(ha:PT X a (nr X.K T ca)):PT X (.UnaryOp .Not a pos) (nr X.K T (.not ca)):=by
 refine rz (kR ha) λσ H Q ⟨P,env,F,re,p,bb,HZ,ht,k⟩=>?_
 unfold ev at HZ;obtain⟨q,h1,HZ⟩:=Rs.HY HZ;cases hq:q.1 with
 |bl kb=>
  rw[hq]at HZ;cases HZ;cases ht;exact⟨P,env,F,re,q,kb,h1,by rw[hq];rfl,λH' s=>k H' s⟩
 |_=>rw[hq]at HZ;cases HZ
theorem Bh{b:Bool}(rp:Rep K H d v G)(h:truth d=ζ b):CM K v H b:=by
 cases rp with
 |bl c=>cases h;rfl
 |_=>cases h
theorem cH(h:PE X e (tE X.K T ca))(he:∀whole,Z8 e X.env whole=(do let v <- whole;Ą e.pos;Yi [v] (ķ v))):PT X e (nr X.K T ca):=by
 refine rz (yW h he) λσ H Q ⟨P,env,F,re,p,bb,HZ,ht,k⟩=>?_
 exact⟨P,env,F,re,p,HZ,λv H' G s rp rt=>⟨bb,Bh rp ht,k H' s⟩⟩
theorem ES(hc:PT X c (nr X.K T cc))(ha:PE X a (tE X.K T ca))(hb:PE X b (tE X.K T cb)):PE X (.IfExp c a b pos) (tE X.K T (.ite cc ca cb)):=by
 refine bB (wq hc ha hb) λσ H Q ⟨P,env,F,re,p,HZ,k⟩=>?_
 unfold ev at HZ;obtain⟨q,h1,HZ⟩:=Rs.HY HZ;obtain⟨kb,h2,HZ⟩:=Rs.HY HZ;refine⟨P,env,F,re,q,kb,h1,bY h2,λH' s=>?_⟩;cases kb with
 |true=>rw[if_pos rfl];exact⟨P,env,F,re.same s,p,HZ,λv H2 G s' Kj Lb=>k v H2 G (s.trans s') Kj (Lb.back s)⟩
 |false=>rw[if_neg bo];exact⟨P,env,F,re.same s,p,HZ,λv H2 G s' Kj Lb=>k v H2 G (s.trans s') Kj (Lb.back s)⟩
variable {es:List Expr}{cs:jR}
theorem rM:PA X [] (qV X.K T .nil):=by
 refine zA bS λσ H Q ⟨P,env,F,re,l,HZ,k⟩=>?_
 unfold aT at HZ;cases HZ;exact k [] H [] (.nil (aG.refl _))
theorem kB(ha:PE X a (tE X.K T ca))(hr:PA X es (qV X.K T cs))(hs:Δ (a::es) X.env=(γ,eval a X.env)::Δ es X.env):PA X (a::es) (qV X.K T (.cons ca cs)):=by
 refine zA (aI ha hr hs) λσ H Q ⟨P,env,F,re,l,HZ,k⟩=>?_
 unfold aT at HZ;obtain⟨p,h1,HZ⟩:=Rs.HY HZ;obtain⟨q,h2,HZ⟩:=Rs.HY HZ;cases HZ;exact⟨P,env,F,re,p,h1,λv H1 G s rp rt=>⟨P,env,F,re.same s,q,h2,λvs H2 G' ar=>k (v::vs) H2 _ (.cons s rp rt ar)⟩⟩
theorem bH.MU{env:En}{H1:Hp}{r:Rt}(h:bH env F H r H1 G)(e:aG H H1)(hp:H1 p=ε)(hl:∀a∈G,H1 a≠ε):bH env F H r (upd H1 p (.lst vs)) (p::G) where
 cont:=λa ha=>by
  rcases c9.mp ha with rfl|ha
  .exact .inl (aG.no e hp)
  .exact h.cont a ha
 mv:=λR hr=>by
  obtain⟨a,b,c⟩:=h.mv R hr;refine⟨li.mpr ⟨λz=>hl p z hp,a⟩,λx hx=>?_,λx hx=>?_⟩
  .rcases c9.mp hx with rfl|hx
   .exact⟨.l _,aK⟩
   .obtain⟨ws,q⟩:=b x hx;exact⟨ws,aG.new hp _ _ q⟩
  .rcases c9.mp hx with rfl|hx
   .exact .inl (aG.no e hp)
   .exact c x hx
theorem Eb(h:PA X es (qV X.K T cs)):PE X (.List es pos) (tE X.K T (.lst cs)):=by
 refine bB (wc h) λσ H Q ⟨P,env,F,re,p,HZ,k⟩=>?_
 unfold ev at HZ;obtain⟨l,h1,HZ⟩:=Rs.HY HZ;by_cases hl:l.length<=lim
 .rw[if_pos hl]at HZ;cases HZ;refine⟨P,env,F,re,l,h1,λvs H1 G ar=>?_⟩;have rs:=ar.Io;have hlen:=rs.len;rw[aj]at hlen;refine⟨by rw[<-hlen];exact hU hl,λq hq=>?_⟩;have e:=aG.new (o:=.lst vs) hq;exact k _ _ (q::G) (ar.same.trans e) (.lst (.inl aK) (rs.same e)) ((ar.comb re).MU ar.same hq λa ha=>rs.nn ha)
 .rw[if_neg hl]at HZ;cases HZ
theorem Dr{x1:Nat}(h:PA X es (qV X.K T cs)):PE X (.Tuple es x1 pos) (tE X.K T (.tup cs)):=by
 refine bB (EN h) λσ H Q ⟨P,env,F,re,p,HZ,k⟩=>?_
 unfold ev at HZ;obtain⟨l,h1,HZ⟩:=Rs.HY HZ;by_cases hl:l.length<=lim
 .rw[if_pos hl]at HZ;cases HZ;refine⟨P,env,F,re,l,h1,λvs H1 G ar=>?_⟩;have rs:=ar.Io;have hlen:=rs.len;rw[aj]at hlen;refine⟨by rw[<-hlen];exact hU hl,λq hq=>?_⟩;have e:=aG.new (o:=.tup vs) hq;exact k _ _ G (ar.same.trans e) (.tup (.inl aK) (rs.same e)) ((ar.comb re).later e)
 .rw[if_neg hl]at HZ;cases HZ
inductive Hm(K:Frag) (n:Nat) (f:List D->Rs (D×Bool)) (vs:List V) (H:Hp) (Q:VK) (E:XK):Prop
 |mk (ds:_) (G:_) (y0:ds.length=n) (y1:aF K H ds vs G) (r:_) (y2:f ds=.ok r) (y3:∀v H' G',aG H H'->Rep K H' r.1 v G'->(∀a∈G',H a=ε\/a∈G)->(r.2=δ->G'.Nodup/\∀a∈G',H a=ε/\∃vs:ML,H' a=ζ vs.o)->Q v H'):Hm K n f vs H Q E
def Az(K:Frag)(n:Nat)(f:List D->Rs (D×Bool)):Sp:=λvs H Q E=>Hm K n f vs H Q E
theorem kx{f:List D->Rs (D×Bool)}(h:Az K n f vs H Q E):vs.length=n:=by
 obtain⟨ds,G,h1,h2,_⟩:=h;rw[<-h1,h2.len]
theorem nS{f:Nat}{σ:L2.St}(hn:∀ds r,T.cl f ds=.ok r->ds.length=n)(h:tE X.K T (.call f cs) σ H Q):we (Az X.K n (T.cl f)) [] E0 (qV X.K T cs) σ H Q:=by
 obtain⟨P,env,F,re,p,HZ,k⟩:=h;unfold ev at HZ;obtain⟨l,h1,HZ⟩:=Rs.HY HZ;obtain⟨r,h2,HZ⟩:=Rs.HY HZ;cases HZ;refine⟨P,env,F,re,l,h1,λvs H1 G ar=>?_⟩;show Az X.K n (T.cl f) (vs ++ []) H1 Q E0;rw[bh];refine⟨l.map (·.1),G,hn _ _ h2,ar.Io,r,h2,λv H' G' s rp sub fr=>k v H' G' (ar.same.trans s) rp ?_⟩;cases hr:r.2 with
 |true=>
  obtain⟨a,b⟩:=fr hr;have c:∀x∈G',H x=ε:=λx hx=>aG.no ar.same (b x hx).1
  exact⟨λx hx=>.inl (c x hx),λR e=>⟨a,λx hx=>(b x hx).2,λx hx=>.inl (c x hx)⟩⟩
 |false=>
  refine⟨λx hx=>?_,λR e=>by cases e⟩;rcases sub x hx with q|q
  .exact .inl (aG.no ar.same q)
  .exact ar.cont x q
end
inductive Cg(K:Frag) (b:yn) (xs:List V) (H:Hp) (Q:VK):Prop
 |mk (ds:_) (d:_) (G:_) (y0:aF K H ds xs G) (y1:eA b ds=ζ d) (y2:∀v H' G',Rep K H' d v G'->eI H H' G d G'->Q v H'):Cg K b xs H Q
def mw(K:Frag)(b:yn):List V->Hp->VK->Prop:=λxs H Q=>Cg K b xs H Q
variable {cs:jR}{prog:Ε}{us:List η}{w:Ξ}
section
variable {X:Cx}{T:Tb}
theorem qq{b:yn}{σ:L2.St}(h:tE X.K T (.blt b cs) σ H Q):OO (mw X.K b) (qV X.K T cs) σ H Q:=by
 obtain⟨P,env,F,re,p,HZ,k⟩:=h;unfold ev at HZ;obtain⟨l,h1,HZ⟩:=Rs.HY HZ;obtain⟨d,h2,HZ⟩:=Rs.HY HZ;cases HZ;exact⟨P,env,F,re,l,h1,λvs H1 G ar=>⟨l.map (·.1),d,G,ar.Io,bY h2,λv H' G' rp nv=>k v H' G' (ar.same.trans nv.same) rp (bH.new ar nv λ_ z=>z)⟩⟩
theorem aF.Ji(h:aF K H [d] xs G):∃x,xs=[x]/\Rep K H d x G:=by
 cases h with
 |cons r s=>cases s;exact⟨_,rfl,by rw[bh];exact r⟩
theorem aF.of2{e:D}(h:aF K H [d,e] xs G):∃x y G1 G2,xs=[x,y]/\Rep K H d x G1/\Rep K H e y G2:=by
 cases h with
 |cons r s=>
  cases s with
  |cons r' s'=>cases s';exact⟨_,_,_,_,rfl,r,r'⟩
theorem EW(d:ι)(hd:(d==Ch)=γ):MeetsIn prog w (XC.«dict.__len__» ⟨[.ref d],[]⟩) (λ_ R s=>∃o es ep,s.heap.get? d=ζ o/\o.ExactDict/\o.data=.dict es ep/\R (.ok (.ret (.int es.size s.toks))) {s with toks:=s.toks+1}):=by
 intro A R s h;obtain⟨o,es,ep,h1,h2,h3,h⟩:=h;unfold XC.«dict.__len__»
 wp_walk
 rw[h3];unfold ĩ;rw[hd]
 wp_walk
 simpa using h
theorem vc:dH X (.builtin "len") (mw X.K .len):=by
 intro pins s σ H xs us Q I r h;obtain⟨ds,d,G,rs,hd,k⟩:=h
 match ds,hd with
 |[.lst ys],hd=>
  cases hd;obtain⟨x,rfl,rp⟩:=rs.Ji;obtain⟨p,vs,g,rfl,rfl,a1,a2⟩:=rp.lst_inv;exact ju pins s σ H _ us Q I r ⟨p,vs,rfl,.inl (.inl a1),by rw[<-a2.len];exact k _ H [] (.int _) eI.nil⟩
 |[.tup ys],hd=>
  cases hd;obtain⟨x,rfl,rp⟩:=rs.Ji;obtain⟨p,vs,rfl,a1,a2⟩:=rp.Im;exact ju pins s σ H _ us Q I r ⟨p,vs,rfl,.inr a1,by rw[<-a2.len];exact k _ H [] (.int _) eI.nil⟩
 |[.str z],hd=>
  have hd:(if z.length<=lim then ζ (D.int (z.length:Int))else ε)=ζ d:=hd;by_cases hl:z.length<=lim
  .rw[if_pos hl]at hd;cases hd;obtain⟨x,rfl,rp⟩:=rs.Ji;obtain⟨rfl,rfl⟩:=rp.str_inv;exact oM pins s σ H _ us Q I r ⟨z,rfl,hU hl,k _ H [] (.int _) eI.nil⟩
  .rw[if_neg hl]at hd;cases hd
 |[.IK ks],hd=>
  cases hd;obtain⟨x,rfl,rp⟩:=rs.Ji;obtain⟨u,rfl,rx⟩:=r.one;cases rp with
  |@IK p _ hr=>
   obtain rfl:u=.ref p:=rx;obtain⟨z,lo,xs,rel,dd⟩:=xV I.Ib hr;have Js:=dd.typeIs;obtain⟨o,es,ep,h1,h2,h3,h4,_,_⟩:=dd;have hl:ks.length=es.size:=by
    have e1:=Xv rel;have e2:=fk XO h4;unfold rG at e1;rw[aj]at e1 e2;rw[e1,<-e2,et]
   have hz:ks.length<=Ζ:=by
    unfold rG at z
    rwa [aj]at z
   rw[wE]at hz;refine call_len_slot (n:=(ks.length:Int)) Js Y3 (λQ' hQ'=>call_meetsIn Y3 Js PySem.F.entry_dict_len (PySem.F.args_dict_len_1 _) (EW p lo) ⟨o,es,ep,h1,h2,h3,?_⟩) (by omega) (by omega) ⟨.int _,H,(I.tok _).tok _,⟨_,rfl⟩,k _ H [] (.int _) eI.nil⟩;rw[<-hl];exact hQ'
theorem qz{σ:L2.St}(I:Inv X pins σ H s)(r:aL xs us)(rs:aF X.K H ds xs G)(hd:eA .list ds=ζ d)(k:∀v H' G',Rep X.K H' d v G'->eI H H' G d G'->Q v H')(hn:∀ks,ds≠[.IA ks]):υ (Α X.prog X.w) X.A (call (.type "list") us) (EP X pins σ Q) X.xe s:=by
 match ds,hd with
 |[.IA ks],hd=>exact absurd rfl (hn ks)
 |[.lst ys],hd=>
  cases hd;obtain⟨x,rfl,rp⟩:=rs.Ji;obtain⟨p,vs,g,rfl,rfl,a1,a2⟩:=rp.lst_inv;refine jt pins s σ H _ us Q I r ⟨p,vs,rfl,.inl (.inl a1),λl hl=>?_⟩;obtain⟨n1,n2⟩:=fZ (G0:=p::g) a2 (λa ha=>ae _ ha) hl;exact k _ _ _ n1 n2
 |[.tup ys],hd=>
  cases hd;obtain⟨x,rfl,rp⟩:=rs.Ji;obtain⟨p,vs,rfl,a1,a2⟩:=rp.Im;refine jt pins s σ H _ us Q I r ⟨p,vs,rfl,.inr a1,λl hl=>?_⟩;obtain⟨n1,n2⟩:=fZ (G0:=G) a2 (λa ha=>ha) hl;exact k _ _ _ n1 n2
end
def jq(K:Frag)(P:ι->Prop)(H0:Hp)(J:It)(ds:List D)(G:List ι):Prop:=∀H,jJ P H0 H->(∀(i:Nat) (d:D),ds[i]? = ζ d->J.go i H/\∀x H',J.Nd i H x H'->aG H H'/\∃G',Rep K H' d x G'/\∀a∈G',a∈G)/\J.stop ds.length H
inductive Vm(K:Frag) (T:Tb) (it:oY) (σ:L2.St) (H:Hp) (R:It->Hp->Prop):Prop
 |mk (P:_) (env:_) (F:_) (y0:RE K P env σ H F) (p:_) (y1:cU T it env=.ok p) (y2:∀J H' G,aG H H'->bH env F H (.sh p.2) H' G->(∀a∈G,H' a≠ε)->(∀P',(∀a∈G,P' a)->jq K P' H' J p.1 G)->R J H'):Vm K T it σ H R
noncomputable def tI(K:Frag)(T:Tb)(it:oY):TI:=λσ H R=>Vm K T it σ H R
variable {H0:Hp}
theorem vK{P:ι->Prop}(h1:Rd H0 p (.lst vs))(h2:aF K H0 ds vs G)(hp:∀a∈p::G,P a):jq K P H0 (U7 K p) ds (p::G):=λH e=>by
 have ep:=e.keep p (hp p ah);have JF:Rd H p (.lst vs):=by
  rcases h1 with q|⟨o,q⟩
  .exact .inl (ep.trans q)
  .exact .inr ⟨o,ep.trans q⟩
 have Jc:=e.Io h2 λa ha=>hp a (ae _ ha)
 refine⟨λi d hd=>?_,⟨vs,.inl JF,by rw[h2.len];exact ao _⟩⟩;obtain⟨v,G',a,b,c⟩:=Jc.get hd;refine⟨⟨vs,v,.inl JF,a⟩,λx H' ⟨e1,e2⟩=>?_⟩;subst e1;have:=e2 vs (.inl JF);rw[a]at this;cases this;exact⟨aG.refl _,G',b,λz hz=>ae _ (c.subset hz)⟩
theorem xI{P:ι->Prop}(h1:j8 K H0 p vs)(h2:aF K H0 ds vs G)(hp:∀a∈G,P a):jq K P H0 (U6 K p) ds G:=λH e=>by
 have JF:=e.MY h1;have Jc:=e.Io h2 hp;refine⟨λi d hd=>?_,⟨vs,JF.sq,by rw[h2.len];exact ao _⟩⟩;obtain⟨v,G',a,b,c⟩:=Jc.get hd;refine⟨⟨vs,v,JF.sq,a⟩,λx H' ⟨e1,e2⟩=>?_⟩;subst e1;have:=e2 vs JF.sq;rw[a]at this;cases this;exact⟨aG.refl _,G',b,λz hz=>c.subset hz⟩
noncomputable def GY(xs:List V):It:=⟨λi _=>i<xs.length,λi H x H'=>H'=H/\xs[i]? = ζ x,λi _=>xs.length<=i⟩
theorem n9{P:ι->Prop}(hr:∀H,aF K H ds vs []):jq K P H0 (GY vs) ds []:=λH e=>by
 have hl:=(hr H).len;refine⟨λi d hd=>?_,by show vs.length<=ds.length;omega⟩;obtain⟨v,G',a,b,c⟩:=(hr H).get hd;refine⟨by show i<vs.length;rw[<-hl];exact(χ.mp hd).1,λx H' ⟨e1,e2⟩=>?_⟩;subst e1;rw[a]at e2;cases e2;exact⟨aG.refl _,G',b,λz hz=>c.subset hz⟩
variable {P:Ε}{tg:Expr}
theorem nJ{it:ι}{Pv:Nat->η->Prop}{St:Nat->Υ->Prop}(W:∀A:Ρ,A.handled=ε->ZT P w A it [it] [it] xs.length Pv St)(hP:∀i v,Pv i v->∃x,xs[i]? = ζ x/\RelV x v)
  (ob:∀i h,St i h->∃o n vs,h.get? it=ζ o/\o.cls=.type n/\o.data=.fields vs/\["enumerate","zip","dict_itemiterator","dict_reverseitemiterator","odict_iterator","itertools.zip_longest","itertools.pairwise"].contains n=γ)
  (fr:∀i h h',St i h->(∀o,h.get? it=ζ o->h'.get? it=ζ o)->St i h') (le:∀i h,St i h->i<=xs.length) (L3:∀(A:Ρ) (i:Nat) (s:θ) (Q E:η->θ->Prop),St i s.heap->Q (.ref it) s->υ (Α P w) A (Yc (.ref it)) Q E s):Turn P w K tg (GY xs) [it] it St where
 mem:=by simp
 obj:=λi h st b hb=>by
  have e:b=it:=by simpa using hb
  subst e;obtain⟨o,n,vs,h1,h2,h3,_⟩:=ob i h st;exact⟨o,h1,λv z=>by rw[h3]at z;cases z⟩
 keep:=λi h h' st k=>fr i h h' st λo e=>k it (by simp) o e
 item:=by
  intro X hp hw hK hc i pins s σ H E I hf st hg;subst hp hw hK;obtain⟨f0,f1,f2,f3,f4,f5⟩:=hf it (by simp);refine(W X.A (I.ok.hd hc)).item i s _ _ hg st λv h' tk hv Jo kk=>?_
  obtain⟨x,ex,rx⟩:=hP i v hv;have I1:Inv X pins σ H {s with heap:=h',toks:=tk}:=I.turned (λb o hb e=>kk b o (by simpa using hb) e) f0 f1 f3 f4 f5;obtain⟨o,n,vs,h1,h2,h3,h4⟩:=ob (i+1) h' Jo;exact⟨v,rfl,v9 (s:={s with heap:=h',toks:=tk}) (n:=n) h1 h2 h3 h4 ⟨x,H,I1,rx,⟨rfl,ex⟩,Jo,λb hb=>(hf b hb).1⟩⟩
 done:=by
  intro X hp hw hK hc i pins s σ H E I hf st hg;subst hp hw hK;obtain⟨f0,f1,f2,f3,f4,f5⟩:=hf it (by simp);have hi:i=xs.length:=Ê (le i _ st) hg;subst hi;exact(W X.A (I.ok.hd hc)).done s _ _ st λh' tk kk=>⟨rfl,I.turned (λb o hb e=>kk b o (by simpa using hb) e) f0 f1 f3 f4 f5⟩
 self:=λA i s Q E st h=>L3 A i s Q E st h
noncomputable def dE(a c:Int)(n:Nat):List V:=(bv n).map λ(i:Nat)=>.int (a+(i:Int)*c)
theorem jn(a c:Int)(n:Nat):(dE a c n).length=n:=by simp[dE]
theorem gC{K:Frag}{H:Hp}(c:Int):∀(n:Nat) (a:Int),aF K H (bA a c n) (dE a c n) []
 |0,a=>.nil
 |n+1,a=>by
  have e:dE a c (n+1)=.int a::dE (a+c) c n:=by
   unfold dE;rw[i7,a9,gc];congr 1
   .simp
   .refine gj λi _=>?_
    refine fk V.int (?_:a+((i+1:Nat):Int)*c=a+c+(i:Int)*c)
    push_cast
    rw[Int.add_mul];omega
  rw[e];show aF K H (.int a::bA (a+c) c n) _ ([] ++ []);exact .cons (.int a) (gC c n (a+c))
theorem jC(a b c:Int)(hc:c≠0):0<=Γ a b c:=by
 unfold Γ;split
 .rename_i h;split
  .have:0<=(b-a-1) / c:=Ë (by omega) (by omega);omega
  .omega
 .split
  .have:0<=(a-b-1) / (-c):=Ë (by omega) (by omega);omega
  .omega
theorem qS{a b c:Int}(ha:eK a=δ)(hb:eK b=δ)(hc:c≠0)(hs:c.natAbs<1073741824):Yy a b c=δ:=by
 unfold eK at ha hb;have ha:=bg ha;have hb:=bg hb;have hn:=jC a b c hc;have hu:Γ a b c<2 ^ 63:=by
  unfold Γ;split
  .split
   .have:=ü (b:=c) (a:=b-a-1) (by omega);omega
   .decide
  .split
   .have:=ü (b:=-c) (a:=a-b-1) (by omega);omega
   .decide
 unfold Yy;simp only[Ę,ai,eh,decide_eq_true_eq,beq_iff_eq];refine⟨⟨⟨⟨⟨by omega,by omega⟩,by omega,by omega⟩,by omega,by omega⟩,by omega,hu⟩,.inr ?_⟩;split<;>simp only[ai,decide_eq_true_eq]<;>omega
variable {hi lo:Int}{t:XY}{tk:Nat}
section
variable {X:Cx}{tg:Expr}
theorem jU{σ:L2.St}{R:It->Hp->Prop}{E:η->θ->Prop}{c:Int}{u v:XY}(I:Inv X pins σ H s)(h1:eK lo=δ)(h2:eK hi=δ)(h3:c≠0)(h4:c.natAbs<1073741824)
  (q:R (GY (dE lo c (Γ lo hi c).toNat)) H):υ (Α X.prog X.w) X.A (Yc (.ref s.heap.objs.size)) (EY X pins σ tg R) E {s with heap:=s.heap.push {cls:=.type "range",data:=.fields #[.int lo t,.int hi u,.int c v]},toks:=tk}:=by
 refine wpAny_pyIter_range (Ì ..) (qS h1 h2 h3 h4) ?_;have I1:Inv X pins σ H {s with heap:=s.heap.push {cls:=.type "range",data:=.fields #[.int lo t,.int hi u,.int c v]},toks:=tk}:=I.kept λb o e=>ξ _ e
 have hn:=jC lo hi c h3;let n:=(Γ lo hi c).toNat;refine⟨(s.heap.push {cls:=.type "range",data:=.fields #[.int lo t,.int hi u,.int c v]}).objs.size,[(s.heap.push {cls:=.type "range",data:=.fields #[.int lo t,.int hi u,.int c v]}).objs.size],
  (λi h=>i<=n/\IsRangeIter h (s.heap.push {cls:=.type "range",data:=.fields #[.int lo t,.int hi u,.int c v]}).objs.size (lo+(i:Nat)*c) ((n:Int)-(i:Nat)) c),_,H,rfl,
  I1.kept (t':=tk) λb o e=>ξ _ e,nJ (Pv:=λi v=>i<n/\∃t,v=.int (lo+i*c) t) (λA hA=>?_) (λi v hv=>?_) (λi h st=>?_) (λi h h' st k=>⟨st.1,k _ st.2⟩) (λi h st=>by rw[jn];exact st.1) (λA i s Q E st h=>wpAny_pyIter_rangeiter st.2 h),?_,λb hb=>?_,q⟩
 .rw[jn];have W:=Walks.range (prog:=X.prog) (w:=X.w) hA (s.heap.push {cls:=.type "range",data:=.fields #[.int lo t,.int hi u,.int c v]}).objs.size lo c n;exact⟨W.sub,λi h h' st k=>⟨st.1,W.frame i h h' st.2 k⟩,λi s Q E hi st hQ=>W.item i s Q E hi st.2 λv h' tk hv Jo kk=>hQ v h' tk ⟨hi,hv⟩ ⟨hi,Jo⟩ kk,λs Q E st hQ=>W.done s Q E st.2 hQ,λi s Q E st h=>W.self i s Q E st.2 h⟩
 .obtain⟨NX,t',rfl⟩:=hv;exact⟨.int (lo+i*c),by unfold dE;rw[τ,List.getElem?_range NX];rfl,t',rfl⟩
 .exact⟨_,_,_,st.2,rfl,rfl,by decide⟩
 .refine⟨cf _,?_⟩;have e1:lo+((0:Nat):Int)*c=lo:=by simp
  have e2:((n:Nat):Int)-((0:Nat):Int)=Γ lo hi c:=by omega
  rw[e1,e2];exact Τ _ rfl
 .have e:b=(s.heap.push {cls:=.type "range",data:=.fields #[.int lo t,.int hi u,.int c v]}).objs.size:=by simpa using hb
  subst e;exact I1.Jt (ao _) (I1.Ib.fresh (ao _))
end
variable {c:Ex}{es:List Expr}{it:oY}{pos:W3}
section
variable {X:Cx}{tg:Expr}{T:Tb}{pins:List (ι×na)}{σ:L2.St}{H:Hp}{s:θ}{R:It->Hp->Prop}{E:η->θ->Prop}
theorem Aa(I:Inv X pins σ H s)(hq:jK X.K H a xs)(q:R (U7 X.K a) H):υ (Α X.prog X.w) X.A (Yc (.ref a)) (EY X pins σ tg R) E s:=by
 obtain⟨its,rv,p,hz⟩:=I.list hq;refine Xd p.isList ?_;refine⟨s.heap.objs.size,[s.heap.objs.size],_,_,H,rfl,I.kept (t':=s.toks) λb o e=>ξ _ e,uG a _,⟨_,Τ _ rfl,rfl,rfl⟩,λb hb=>?_,q⟩;have e:b=s.heap.objs.size:=by simpa using hb
 subst e;exact I.Jt (ao _) (I.Ib.fresh (ao _))
theorem xK(I:Inv X pins σ H s)(hq:nz X.K H a xs)(q:R (U6 X.K a) H):υ (Α X.prog X.w) X.A (Yc (.ref a)) (EY X pins σ tg R) E s:=by
 obtain⟨its,rv,p,hz⟩:=I.tuple hq;refine wpAny_pyIter_tuple (show s.heap.IsTuple a its.toArray from p) ?_;refine⟨s.heap.objs.size,[s.heap.objs.size],_,_,H,rfl,I.kept (t':=s.toks) λb o e=>ξ _ e,sV a _,⟨_,Τ _ rfl,rfl,rfl⟩,λb hb=>?_,q⟩;have e:b=s.heap.objs.size:=by simpa using hb
 subst e;exact I.Jt (ao _) (I.Ib.fresh (ao _))
noncomputable def oH(z:Str):List V:=z.cps.toList.map λc=>.str ⟨#[c]⟩
theorem CO{z:Str}(I:Inv X pins σ H s)(q:R (GY (oH z)) H):υ (Α X.prog X.w) X.A (Yc (.str z t)) (EY X pins σ tg R) E s:=by
 have hlen:(oH z).length=z.cps.size:=by simp[oH]
 have core:∀(nm:String) (hn:["enumerate","zip","dict_itemiterator","dict_reverseitemiterator","odict_iterator","itertools.zip_longest","itertools.pairwise"].contains nm=γ)
   (W:∀A:Ρ,A.handled=ε->ZT X.prog X.w A s.heap.objs.size [s.heap.objs.size] [s.heap.objs.size] z.cps.size (SignAt z) (λi h=>h.IsStrIter s.heap.objs.size nm z t i))
   (L3:∀(A:Ρ) (i:Nat) (s':θ) (Q E:η->θ->Prop),s'.heap.IsStrIter s.heap.objs.size nm z t i->Q (.ref s.heap.objs.size) s'->υ (Α X.prog X.w) A (Yc (.ref s.heap.objs.size)) Q E s'),
   EY X pins σ tg R (.ref s.heap.objs.size) {s with heap:=s.heap.push {cls:=.type nm,data:=.fields #[.str z t,.int 0 0]}}:=by
  intro nm hn W L3;refine⟨s.heap.objs.size,[s.heap.objs.size],(λi h=>i<=z.cps.size/\h.IsStrIter s.heap.objs.size nm z t i),_,H,rfl,I.kept (t':=s.toks) λb o e=>ξ _ e,
   nJ (Pv:=SignAt z) (λA hA=>?_) (λi v hv=>?_) (λi h st=>?_) (λi h h' st k=>⟨st.1,let ⟨o,ho,r⟩:=st.2;⟨o,k o ho,r⟩⟩) (λi h st=>by rw[hlen];exact st.1) (λA i s Q E st h=>L3 A i s Q E st.2 h),⟨cf _,⟨_,Τ _ rfl,rfl,rfl⟩⟩,λb hb=>?_,q⟩
  .rw[hlen];have W:=W A hA;exact⟨W.sub,λi h h' st k=>⟨st.1,W.frame i h h' st.2 k⟩,λi s Q E hi st hQ=>W.item i s Q E hi st.2 λv h' tk hv Jo kk=>hQ v h' tk hv ⟨hi,Jo⟩ kk,λs Q E st hQ=>W.done s Q E st.2 hQ,λi s Q E st h=>W.self i s Q E st.2 h⟩
  .obtain⟨c,u,e,rfl⟩:=hv;exact⟨.str ⟨#[c]⟩,by unfold oH;rw[τ,XF,e];rfl,u,rfl⟩
  .obtain⟨o,ho,hc,hd⟩:=st.2;exact⟨o,nm,_,ho,hc,hd,hn⟩
  .have e:b=s.heap.objs.size:=by simpa using hb
   subst e;exact I.Jt (ao _) (I.Ib.fresh (ao _))
 cases ha:z.cps.all (· < 128)
 .exact wpAny_pyIter_wide ha (core "str_iterator" (by decide) (λA' hA=>Walks.strWide hA _ z t) λA i s' Q E st h=>wpAny_pyIter_striter_wide st h)
 .exact wpAny_pyIter_ascii ha (core "str_ascii_iterator" (by decide) (λA' hA=>Walks.strAscii hA _ z t) λA i s' Q E st h=>wpAny_pyIter_striter_ascii st h)
theorem l7{H:Hp}:∀(cs:List Nat),aF K H (cs.map λc=>D.str ⟨#[c]⟩) (cs.map λc=>V.str ⟨#[c]⟩) []
 |[]=>.nil
 |c::cs=>by
  show aF K H (_::_) (_::_) ([] ++ []);exact .cons (.str _) (l7 cs)
theorem xh(h:PE X e (tE X.K T c)):PI X tg e (tI X.K T (.seq c)):=by
 intro pins s σ H R I hq;obtain⟨P,env,F,re,p,HZ,k⟩:=hq;unfold cU at HZ;obtain⟨q,h1,HZ⟩:=Rs.HY HZ;obtain⟨l,h2,HZ⟩:=Rs.HY HZ;have h2:=bY h2;cases HZ;refine bT (h pins s σ H (λv H'=>∃G,aG H H'/\Rep X.K H' q.1 v G/\bH env F H q.2 H' G) I ⟨P,env,F,re,q,h1,λv H' G s rp rt=>⟨G,s,rp,rt⟩⟩) λu s1 ⟨v,H1,I1,r1,G,e,rp,rt⟩=>?_
 have Lb:bH env F H (.sh q.2.roots) H1 G:=rt.part (λ_ h=>h) (λ_ h=>h) λR e=>by cases e
 cases hd:q.1 with
 |lst xs=>
  rw[hd]at rp h2;cases h2;obtain⟨a,vs,g,rfl,rfl,a1,a2⟩:=rp.lst_inv;cases r1;exact Aa I1 (.inl a1) (k _ H1 (a::g) e Lb (λb hb=>rp.nn hb) λP' hP=>vK a1 a2 hP)
 |tup xs=>
  rw[hd]at rp h2;cases h2;obtain⟨a,vs,rfl,a1,a2⟩:=rp.Jg;cases r1;exact xK I1 a1.sq (k _ H1 G e Lb (λb hb=>rp.nn hb) λP' hP=>xI a1 a2 hP)
 |str z=>
  rw[hd]at rp h2;simp only[xT]at h2;by_cases hl:z.length<=lim
  .rw[if_pos hl]at h2;cases h2;obtain⟨rfl,rfl⟩:=rp.str_inv;obtain⟨t,rfl⟩:=r1;exact CO I1 (k _ H1 [] e bH.nil (λ_ h=>(nomatch h)) λP' hP=>n9 λH=>l7 _)
  .rw[if_neg hl]at h2;cases h2
 |_=>rw[hd]at h2;cases h2
theorem ke(a b:Int):(Γ a b 1).toNat=(b-a).toNat:=by
 rw[ő];split<;>omega
theorem EJ{p:W3}{e0:Expr}{rest:List Expr}(NY:es=e0::rest)(hg:Gl X "range") (hm:X.mg "range" = ε) (ha:PA X es (qV X.K T cs)) (hs:Δ es X.env=(γ,eval e0 X.env)::Δ rest X.env) (IG:(Fa pos (Δ rest X.env)).any (·.1)=γ)
  (hit:∀env p,cU T it env=.ok p->p.2=[]/\∃l,aT T cs env=.ok l/\((∃j,l.map (·.1)=[.int j]/\eK j=δ/\p.1=bA 0 1 j.toNat)\/(∃i j,l.map (·.1)=[.int i,.int j]/\eK i=δ/\eK j=δ/\p.1=bA i 1 (j-i).toNat) \/
   ∃i j k,l.map (·.1)=[.int i,.int j,.int k]/\eK i=δ/\eK j=δ/\k≠0/\k.natAbs<1073741824/\p.1=bA i k (Γ i j k).toNat)) :
  PI X tg (.Call (.Name "range" p) es [] pos) (tI X.K T it):=by
 subst NY;intro pins s σ H R I hq;obtain⟨P,env,F,re,q,HZ,k⟩:=hq;obtain⟨hq2,l,hl,hc⟩:=hit env q HZ;refine ľ (gJ I hg hm boot_range (de (bT (ha pos pins s σ H (λvs H'=>∃G,Args X.K env F H H' l vs G) I ⟨P,env,F,re,l,hl,λvs H' G ar=>⟨G,ar⟩⟩) λus s1 ⟨vs,H1,I1,r1,G,ar⟩=>?_) hs IG));have rs:=ar.Io;have fin:∀(a c:Int) (n:Nat),q.1=bA a c n->R (GY (dE a c n)) H1:=λa c n e=>by
  refine k _ H1 [] ar.same bH.nil (λ_ h=>(nomatch h)) λP' _=>?_
  rw[e];exact n9 λH=>gC c n a
 have one:∀{d:D}{ds:List D}{vs:List V}{us:List η}{G:List ι},aF X.K H1 (d::ds) vs G->aL vs us->∀i,d=.int i->∃t LJ K9 G',us=.int i t::LJ/\vs=.int i::K9/\aF X.K H1 ds K9 G'/\aL K9 LJ:=by
  intro d ds vs us G r rv i e;subst e;cases r with
  |cons r rr=>
   obtain⟨rfl,rfl⟩:=r.int_inv;cases rv with
   |cons x y=>
    obtain⟨t,rfl⟩:=x;exact⟨t,_,_,_,rfl,rfl,rr,y⟩
 have nil:∀{vs:List V}{us:List η}{G:List ι},aF X.K H1 [] vs G->aL vs us->us=[]:=by
  intro vs us G r rv;cases r;cases rv;rfl
 rcases hc with⟨j,e1,e2,e3⟩|⟨i,j,e1,e2,e3,e4⟩|⟨i,j,c,e1,e2,e3,e4,e5,e6⟩
 .rw[e1]at rs;obtain⟨t,LJ,K9,G',rfl,_,rs,r1⟩:=one rs r1 j rfl;obtain rfl:=nil rs r1;refine ŝ (jU (c:=1) I1 (by decide) e2 (by decide) (by decide) ?_);refine fin _ _ _ ?_;rw[e3,ke];simp
 .rw[e1]at rs;obtain⟨t,LJ,K9,G',rfl,_,rs,r1⟩:=one rs r1 i rfl;obtain⟨t',PN,PL,U9,rfl,_,rs,r1⟩:=one rs r1 j rfl;obtain rfl:=nil rs r1;refine Ş (jU (c:=1) I1 e2 e3 (by decide) (by decide) ?_);refine fin _ _ _ ?_;rw[e4,ke]
 .rw[e1]at rs;obtain⟨t,LJ,K9,G',rfl,_,rs,r1⟩:=one rs r1 i rfl;obtain⟨t',PN,PL,U9,rfl,_,rs,r1⟩:=one rs r1 j rfl;obtain⟨t3,us3,vs3,G3,rfl,_,rs,r1⟩:=one rs r1 c rfl;obtain rfl:=nil rs r1;refine call_range_3 e4 (jU (c:=c) I1 e2 e3 e4 e5 ?_) (.inl (YQ e5));exact fin _ _ _ e6
end
variable {o':na}
theorem zt{h:Υ}{o:na}{b:ι}(e:(h.push o).get? b=ζ o'):(b=h.objs.size/\o'=o)\/h.get? b=ζ o':=by
 obtain⟨e1,e2⟩:=X6.mp e;by_cases hb:b=h.objs.size
 .left;subst hb;refine⟨rfl,?_⟩;have:(h.push o).objs[h.objs.size]? = ζ o:=by cases h;simp[Ŀ]
  rw[this]at e1;exact(c6 e1).symm
 .right;refine X6.mpr ⟨?_,e2⟩;cases h;simpa[Ŀ,Array.getElem?_push,hb]using e1
theorem iD{h:Υ}{b:ι}{o:na}(e:h.get? a=ζ o)(e':h.get? b=ζ o')(n:o.cls≠o'.cls):a≠b:=by
 rintro rfl;rw[e]at e';cases e';exact n rfl
theorem eW(b i j:Nat)(h:i≠j):(b+i:Nat)≠b+j:=by omega
theorem fY(b n i:Nat)(h:b+4<n)(hi:i<=4):b+i<n:=by omega
theorem D7(n b:Nat)(h:b=n+1\/b=n):n<=b:=by omega
theorem Bj(n b:Nat)(h:b=n+4\/b=n+2\/b=n+3\/b=n\/b=n+1):n<=b:=by omega
variable {h':Υ}
section
variable {X:Cx}{pins:List (ι×na)}{σ:L2.St}{H:Hp}{s:θ}
theorem gH{t':Nat}{ch:List ι}(I:Inv X pins σ H s)(k:∀b o,b∉ch->s.heap.get? b=ζ o->h'.get? b=ζ o)(hf:∀b∈ch,gX X pins H b):Inv X pins σ H {s with heap:=h',toks:=t' }:=by
 have Nv:∀b u,H b=ζ u->b∉ch:=λb u e z=>by
  have:=(hf b z).1;rw[this]at e;cases e
 refine I.step (g':=s.gens) (d':=s.drawn) (ch:=ch) (λb hb=>?_) (λb o _ _ hc e _=>k b o hc e) (λb o _ _ hc e _=>⟨o.slots,k b o hc e⟩) (λ_ _ _ _ n=>n)
  (λb o hc e=>⟨o,k b o hc e⟩) (λ_ _ e=>e) (λ_ _ _ e=>e) (λb ps e=>⟨#[],by rw[e];simp⟩) (λm hm=>?_) (λb u e=>?_) I.bare
 .obtain⟨f0,f1,f2,f3,f4,f5⟩:=hf b hb;exact⟨f3,f1,f4,f5⟩
 .obtain⟨o,es,ep,ho,r⟩:=hm;exact⟨o,es,ep,k _ o (λz=>(hf _ z).2.1 rfl) ho,r⟩
 .refine (I.Ib b u e).Iy (λc v hc q=>k c v ?_ q) (λ_ q=>q) λ_ _ q=>q
  rcases hc with z|z
  .rw[z];exact Nv b u e
  .exact Nv c _ z
theorem paired{t':Nat}{ch:List ι}{x:V}{v:η}(I:Inv X pins σ H s)(hu:RelV x u)(hv:RelV y v)(hT:h'.get? s.heap.objs.size=ζ {cls:=.type "tuple",data:=.seq #[u,v]})
  (k:∀b o,b∉ch->s.heap.get? b=ζ o->h'.get? b=ζ o) (hf:∀b∈ch,gX X pins H b) (hl:∀b∈ch,b<s.heap.objs.size):Inv X pins σ (upd H s.heap.objs.size (.tup [x,y])) {s with heap:=h',toks:=t' }:=by
 have I1:Inv X pins σ (upd H s.heap.objs.size (.tup [x,y])) {s with heap:=s.heap.push {cls:=.type "tuple",data:=.seq #[u,v]},toks:=t' }:=
  I.laid (λ_ _ q=>ξ _ q) (ao _) ⟨by show 2<=Ζ;decide,[u,v],.cons hu (.cons hv .nil),⟨_,Τ _ rfl,rfl,_,rfl⟩⟩
 refine gH (s:={s with heap:=s.heap.push {cls:=.type "tuple",data:=.seq #[u,v]},toks:=t' }) (ch:=ch) I1 (λb o hb q=>?_) λb hb=>?_
 .rcases zt q with⟨rfl,rfl⟩|q
  .exact hT
  .exact k b o hb q
 .obtain⟨f0,f⟩:=hf b hb;exact⟨by rw[aE (az (hl b hb))];exact f0,f⟩
end
noncomputable def WT(K:Frag)(l:ι):It:=⟨λi H=>∃xs x,jK K H l xs/\xs[i]? = ζ x,λi H v H'=>∃T x,v=.ref T/\H T=ε/\(∀xs,jK K H l xs->xs[i]? = ζ x)/\H'=upd H T (.tup [.int i,x]),λi H=>∃xs,jK K H l xs/\xs.length<=i⟩
variable {elts:List Expr}{x1:Nat}
theorem uI(l e it:ι)(Ly:e≠it):Turn P w K (.Tuple elts x1 pos) (WT K l) [e,it] e (λi h=>(∃old,IsEnum h e it (i:Nat) old)/\h.IsListIter it l i) where
 mem:=by simp
 obj:=λi h st b hb=>by
  obtain⟨⟨old,he⟩,hit⟩:=st;have hb:b=e\/b=it:=by simpa using hb
  rcases hb with rfl|rfl
  .exact⟨_,he,λv z=>by cases z⟩
  .obtain⟨o,e,c,d⟩:=hit;exact⟨o,e,λv z=>by rw[d]at z;cases z⟩
 keep:=λi h h' st k=>⟨let ⟨old,he⟩:=st.1;⟨old,k e (by simp) _ he⟩,st.2.at λo z=>k it (by simp) o z⟩
 item:=by
  intro X hP hw hK hc i pins s σ H E I hf st hg;subst hP hw hK;obtain⟨xs,x,hq,hx⟩:=hg;obtain⟨its,rv,p,hz⟩:=I.list hq;obtain⟨u,hu,ru⟩:=rv.get hx;obtain⟨⟨old,he⟩,hit⟩:=st;have Mc:∀b∈[e,it],b<s.heap.objs.size:=λb hb=>by
   have hb:b=e\/b=it:=by simpa using hb
   rcases hb with rfl|rfl
   .exact ρ he
   .obtain⟨o,e,_⟩:=hit;exact ρ e
  refine wpAny_pyNext_enum_item he hit p.isList (x:=u) (by simpa using hu) Ly λh' ho Mt hT hsz hk=>?_
  have I2:Inv X pins σ (upd H s.heap.objs.size (.tup [.int i,x])) {s with heap:=h',toks:=s.toks+1}:=
   paired (ch:=[e,it]) I ⟨s.toks,rfl⟩ ru hT (λb o hb q=>hk b o (λz=>hb (by simp[z])) (λz=>hb (by simp[z])) q) hf Mc
  have f2:∀b∈[e,it],gX X pins (upd H s.heap.objs.size (.tup [.int i,x])) b:=λb hb=>by
   obtain⟨f0,f⟩:=hf b hb;exact⟨by rw[aE (az (Mc b hb))];exact f0,f⟩
  refine⟨_,rfl,Zj (s:={s with heap:=h',toks:=s.toks+1}) ho λh2 M7 Mm=>?_⟩;refine⟨.ref s.heap.objs.size,_,gH (ch:=[e]) I2 (λb o hb q=>Mm.extBut b o (λz=>hb (by simp[z])) q) (λb hb=>f2 b (by simp at hb;simp[hb])),rfl,⟨_,x,rfl,I.fresh,λys hy=>by rw[I.IF hy hq];exact hx,rfl⟩,⟨⟨_,by simpa using M7⟩,Mt.at λo z=>Mm.extBut it o (cj Ly) z⟩,λb hb=>(f2 b hb).1⟩
 done:=by
  intro X hP hw hK hc i pins s σ H E I hf st hg;subst hP hw hK;obtain⟨xs,hq,hx⟩:=hg;obtain⟨its,rv,p,hz⟩:=I.list hq;obtain⟨⟨old,he⟩,hit⟩:=st;have hl:=rv.length;exact wpAny_pyNext_enum_end (I.ok.hd hc) he hit p.isList (by simp;omega) λh' eb=>⟨rfl,gH (t':=s.toks) (ch:=[it]) I (λb o hb q=>eb b o (λz=>hb (by simp[z])) q) λb hb=>hf b (by simp at hb;simp[hb])⟩
 self:=λA i s Q E st h=>by
  obtain⟨⟨old,he⟩,_⟩:=st;exact XD he h
theorem uS{P:ι->Prop}(h1:Rd H0 p (.lst vs))(h2:aF K H0 ds vs G)(hp:∀a∈p::G,P a):jq K P H0 (WT K p) (ds.zipIdx.map λq=>.tup [.int q.2,q.1]) (p::G):=λH e=>by
 have ep:=e.keep p (hp p ah);have JF:Rd H p (.lst vs):=by
  rcases h1 with q|⟨o,q⟩
  .exact .inl (ep.trans q)
  .exact .inr ⟨o,ep.trans q⟩
 have Jc:=e.Io h2 λa ha=>hp a (ae _ ha)
 refine⟨λi d hd=>?_,⟨vs,.inl JF,by rw[aj,ZU,h2.len];exact ao _⟩⟩;have hd:∃d',ds[i]? = ζ d'/\d=.tup [.int i,d']:=by
  rw[τ,Zr]at hd;cases q:ds[i]? with
  |none=>rw[q]at hd;cases hd
  |some d'=>rw[q]at hd;simp at hd;exact⟨d',rfl,hd.symm⟩
 obtain⟨d',Mx,rfl⟩:=hd;obtain⟨v,G',a,b,c⟩:=Jc.get Mx;refine⟨⟨vs,v,.inl JF,a⟩,λx H' ⟨T,x',e1,e2,e3,e4⟩=>?_⟩;subst e1 e4;have:=e3 vs (.inl JF);rw[a]at this;cases this;have sm:aG H (upd H T (.tup [.int i,v])):=aG.new e2;refine⟨sm,G',.tup (.inl aK) ?_,λz hz=>ae _ (c.subset hz)⟩;have r:=aF.cons (Rep.int (K:=K) (H:=upd H T (.tup [.int i,v])) (i:Int)) (aF.cons (b.same sm) .nil);rw[bh,Yx]at r;exact r
noncomputable def WS(K:Frag)(l m:ι):It:=⟨λi H=>∃xs ys x y,jK K H l xs/\jK K H m ys/\xs[i]? = ζ x/\ys[i]? = ζ y,
 λi H v H'=>∃T x y,v=.ref T/\H T=ε/\(∀xs,jK K H l xs->xs[i]? = ζ x)/\(∀ys,jK K H m ys->ys[i]? = ζ y)/\H'=upd H T (.tup [x,y]),λi H=>∃xs ys,jK K H l xs/\jK K H m ys/\(xs.length<=i\/ys.length<=i)⟩
theorem mX{h:Υ}{b l m:ι}{j:Nat}{xs ys:Array η}{v:η}(hz:IsZip h (b+4) (b+2) (b+3) .none)(KH:IsPair h (b+3) u v)(h1:h.IsListIter b l i)(h2:h.IsListIter (b+1) m j)
  (p:h.IsList l xs) (q:h.IsList m ys):ZipApart (b+4) (b+2) (b+3) b (b+1) l m:=by
 obtain⟨o1,e1,c1,_⟩:=h1;obtain⟨o2,e2,c2,_⟩:=h2;obtain⟨o3,e3,c3,_⟩:=p;obtain⟨o4,e4,c4,_⟩:=q;refine⟨eW b 2 4 (by decide),eW b 3 4 (by decide),eW b 0 4 (by decide),eW b 1 4 (by decide),eW b 2 3 (by decide),eW b 2 0 (by decide),eW b 2 1 (by decide),eW b 3 0 (by decide),eW b 3 1 (by decide),eW b 0 1 (by decide),?_,?_,?_,?_,?_,?_,?_,?_⟩
 .exact iD e3 hz (by rw[c3];simp)
 .exact iD e3 KH (by rw[c3];simp)
 .exact iD e3 e1 (by rw[c3,c1];simp)
 .exact iD e3 e2 (by rw[c3,c2];simp)
 .exact iD e4 hz (by rw[c4];simp)
 .exact iD e4 KH (by rw[c4];simp)
 .exact iD e4 e1 (by rw[c4,c1];simp)
 .exact iD e4 e2 (by rw[c4,c2];simp)
theorem zL(l m b:ι):Turn P w K (.Tuple elts x1 pos) (WS K l m) [b+4,b+2,b+3,b,b+1] (b+4)
  (λi h=>IsZip h (b+4) (b+2) (b+3) .none/\IsPair h (b+2) (.ref b) (.ref (b+1))/\(∃u v,IsPair h (b+3) u v)/\h.IsListIter b l i/\h.IsListIter (b+1) m i) where
 mem:=by simp
 obj:=λi h st c hc=>by
  obtain⟨hz,LV,⟨u,v,KH⟩,h1,h2⟩:=st;simp only[c9,br,or_false]at hc;rcases hc with rfl|rfl|rfl|rfl|rfl
  .exact⟨_,hz,λv z=>by cases z⟩
  .exact⟨_,LV,λv z=>by cases z⟩
  .exact⟨_,KH,λv z=>by cases z⟩
  .obtain⟨o,e,c,d⟩:=h1;exact⟨o,e,λv z=>by rw[d]at z;cases z⟩
  .obtain⟨o,e,c,d⟩:=h2;exact⟨o,e,λv z=>by rw[d]at z;cases z⟩
 keep:=λi h h' st k=>by
  obtain⟨hz,LV,⟨u,v,KH⟩,h1,h2⟩:=st;exact⟨k _ (by simp) _ hz,k _ (by simp) _ LV,⟨u,v,k _ (by simp) _ KH⟩,h1.at λo z=>k _ (by simp) o z,h2.at λo z=>k _ (by simp) o z⟩
 item:=by
  intro X hP hw hK hc i pins s σ H E I hf st hg;subst hP hw hK;obtain⟨xs,ys,x,y,hq,LU,hx,hy⟩:=hg;obtain⟨its,rv,p,_⟩:=I.list hq;obtain⟨its',Ln,p',_⟩:=I.list LU;obtain⟨u,hu,ru⟩:=rv.get hx;obtain⟨v,hv,rv2⟩:=Ln.get hy;obtain⟨hz,LV,⟨u0,v0,KH⟩,h1,h2⟩:=st;have A:=mX hz KH h1 h2 p.isList p'.isList;have Mc:∀c∈[b+4,b+3,b,b+1],c<s.heap.objs.size:=λc hc=>by
   have:=ρ hz;simp only[c9,br,or_false]at hc;rcases hc with rfl|rfl|rfl|rfl
   .exact fY _ _ 4 this (by decide)
   .exact fY _ _ 3 this (by decide)
   .exact fY _ _ 0 this (by decide)
   .exact fY _ _ 1 this (by decide)
  have hf':∀c∈[b+4,b+3,b,b+1],gX X pins H c:=λc hc=>hf c (by
   simp only[c9,br,or_false]at hc ⊢;rcases hc with rfl|rfl|rfl|rfl<;>simp)
  refine wpAny_pyNext_zip_item A hz LV KH h1 h2 p.isList p'.isList (x:=u) (y:=v) (by simpa using hu) (by simpa using hv) λh' a1 a2 a3 a4 a5 a6 hk=>?_
  have I2:Inv X pins σ (upd H s.heap.objs.size (.tup [x,y])) {s with heap:=h' }:=
   paired (t':=s.toks) (ch:=[b+4,b+3,b,b+1]) I ru rv2 a5 (λc o hc q=>hk c o (λz=>hc (by simp[z])) (λz=>hc (by simp[z])) (λz=>hc (by simp[z])) (λz=>hc (by simp[z])) q) hf' Mc
  have f2:∀c∈[b+4,b+2,b+3,b,b+1],gX X pins (upd H s.heap.objs.size (.tup [x,y])) c:=λc hc=>by
   obtain⟨f0,f⟩:=hf c hc;have:=ρ hz;have Ip:c<s.heap.objs.size:=by
    simp only[c9,br,or_false]at hc;rcases hc with rfl|rfl|rfl|rfl|rfl
    .exact fY _ _ 4 this (by decide)
    .exact fY _ _ 2 this (by decide)
    .exact fY _ _ 3 this (by decide)
    .exact fY _ _ 0 this (by decide)
    .exact fY _ _ 1 this (by decide)
   exact⟨by rw[aE (az Ip)];exact f0,f⟩
  refine⟨_,rfl,wpAny_letOwnedTupleGo_zip (s:={s with heap:=h' }) a1 λh3 hz3 NM=>?_⟩;refine⟨.ref s.heap.objs.size,_,gH (t':=s.toks) (ch:=[b+4]) I2 (λc o hc q=>NM.extBut c o (λz=>hc (by simp[z])) q) (λc hc=>f2 c (by simp at hc;simp[hc])),rfl,
   ⟨_,x,y,rfl,I.fresh,λzs hz=>by rw[I.IF hz hq];exact hx,λzs hz=>by rw[I.IF hz LU];exact hy,rfl⟩,
   ⟨hz3,NM.extBut _ _ A.TIz (hk _ _ A.TIz A.TITO A.TIi1 A.TIi2 LV),⟨_,_,NM.extBut _ _ A.TOz a2⟩,a3.at λo z=>NM.extBut _ o A.i1z z,a4.at λo z=>NM.extBut _ o A.i2z z⟩,λc hc=>(f2 c hc).1⟩
 done:=by
  intro X hP hw hK hc i pins s σ H E I hf st hg;subst hP hw hK;obtain⟨xs,ys,hq,LU,hx⟩:=hg;obtain⟨its,rv,p,_⟩:=I.list hq;obtain⟨its',Ln,p',_⟩:=I.list LU;have hl:=rv.length;have LB:=Ln.length;obtain⟨hz,LV,⟨u0,v0,KH⟩,h1,h2⟩:=st;have A:=mX hz KH h1 h2 p.isList p'.isList;refine wpAny_pyNext_zip_end (I.ok.hd hc) A hz LV KH h1 h2 p.isList p'.isList ?_ λh' hk=>⟨rfl,gH (t':=s.toks) (ch:=[b+4,b+3,b,b+1]) I (λc o hc q=>hk c o (λz=>hc (by simp[z])) (λz=>hc (by simp[z])) (λz=>hc (by simp[z])) (λz=>hc (by simp[z])) q) λc hc=>hf c ?_⟩
  .rcases hx with hx|hx
   .left;simp;omega
   .right;simp;omega
  .simp only[c9,br,or_false]at hc ⊢;rcases hc with rfl|rfl|rfl|rfl<;>simp
 self:=λA i s Q E st h=>ę st.1 h
theorem zf{P:ι->Prop}{q:ι}{us:List V}{es:List D}{G':List ι}(h1:Rd H0 p (.lst vs))(h2:aF K H0 ds vs G)(h3:Rd H0 q (.lst us))(h4:aF K H0 es us G')(hp:∀a∈(p::G)++(q::G'),P a) :
  jq K P H0 (WS K p q) ((ds.zip es).map λz=>.tup [z.1,z.2]) ((p::G)++(q::G')):=λH e=>by
 have ep:=e.keep p (hp p (by simp));have eq:=e.keep q (hp q (by simp));have JF:Rd H p (.lst vs):=by
  rcases h1 with q|⟨o,q⟩
  .exact .inl (ep.trans q)
  .exact .inr ⟨o,ep.trans q⟩
 have RW:Rd H q (.lst us):=by
  rcases h3 with q|⟨o,q⟩
  .exact .inl (eq.trans q)
  .exact .inr ⟨o,eq.trans q⟩
 have Jc:=e.Io h2 λa ha=>hp a (by simp[ha])
 have h4':=e.Io h4 λa ha=>hp a (by simp[ha])
 refine⟨λi d hd=>?_,⟨vs,us,.inl JF,.inl RW,?_⟩⟩
 .have hd:∃d1 d2,ds[i]? = ζ d1/\es[i]? = ζ d2/\d=.tup [d1,d2]:=by
   rw[τ]at hd;rw[aa]at hd;obtain⟨⟨d1,d2⟩,hd,rfl⟩:=hd;rw[List.getElem?_zip_eq_some]at hd;exact⟨d1,d2,hd.1,hd.2,rfl⟩
  obtain⟨d1,d2,hd1,hd2,rfl⟩:=hd;obtain⟨v1,g1,a1,b1,c1⟩:=Jc.get hd1;obtain⟨v2,g2,a2,b2,c2⟩:=h4'.get hd2;refine⟨⟨vs,us,v1,v2,.inl JF,.inl RW,a1,a2⟩,λx H' ⟨T,x',y',e1,e2,e3,e4,e5⟩=>?_⟩;subst e1 e5;have t1:=e3 vs (.inl JF);rw[a1]at t1;cases t1;have t2:=e4 us (.inl RW);rw[a2]at t2;cases t2;have sm:aG H (upd H T (.tup [v1,v2])):=aG.new e2;refine⟨sm,g1++(g2 ++ []),.tup (.inl aK) (.cons (b1.same sm) (.cons (b2.same sm) .nil)),λz hz=>?_⟩;simp only[bh,i9]at hz;rcases hz with hz|hz
  .exact au _ (ae _ (c1.subset hz))
  .exact ak _ (ae _ (c2.subset hz))
 .rw[aj,Yz,h2.len,h4.len];omega
variable {H':Hp}{R:List Nat}
section
variable {X:Cx}{T:Tb}
theorem jX{env:En}{l:List (D×Rt)}(ar:Args X.K env F H H' l vs G)(h:∀q,q∈aR (l.map (·.2))->q∈R):bH env F H (.sh R) H' G where
 cont:=λa ha=>(ar.cont a ha).imp id λ⟨i,d,t,x,y,z⟩=>⟨i,d,t,x,y,λq hq=>h q (z q hq)⟩
 mv:=λR e=>by cases e
theorem mP{l:List D}(h:tP d=ζ l):d=.lst l:=by
 cases d<;>simp[tP]at h
 rw[h]
end
inductive Vk(K:Frag) (T:Tb) (c:St) (D:Ends) (σ:L2.St) (H:Hp):Prop
 |mk (P:_) (Z:_) (env:_) (F:_) (y0:RE K P env σ H F) (y1:(∀i,∀a∈F i,Z a)) (y2:(∀a,¬ P a->Z a)) (y3:post K P Z env F H D (cP T c env)):Vk K T c D σ H
def tS(K:Frag)(T:Tb)(c:St):TS:=λD σ H=>Vk K T c D σ H
inductive GH(K:Frag) (T:Tb) (c:bV) (D:Ends) (σ:L2.St) (H:Hp):Prop
 |mk (P:_) (Z:_) (env:_) (F:_) (y0:RE K P env σ H F) (y1:(∀i,∀a∈F i,Z a)) (y2:(∀a,¬ P a->Z a)) (y3:post K P Z env F H D (aP T c env)):GH K T c D σ H
def zV(K:Frag)(T:Tb)(c:bV):TS:=λD σ H=>GH K T c D σ H
section
variable {K:Frag}{P Z:ι->Prop}{env:En}{σ:L2.St}{H:Hp}{F:Nat->List ι}{D:Ends}
theorem bW{α:Type}{x:Rs α}{k:α->Fl}(h:post K P Z env F H D (gU env x k)):∃a,x=.ok a/\post K P Z env F H D (k a):=by
 cases x with
 |ok a=>exact⟨a,rfl,h⟩
 |bad=>exact h.elim
theorem After.same(re:RE K P env σ H F)(hz:∀i,∀a∈F i,Z a)(e:aG H H'):After K P Z env F H env σ H' F:=⟨re.same e,hz,jJ.of_same re.pl e,rT.refl _ _⟩
theorem BI{r:Rt}(re:RE K P env σ H F)(hz:∀i,∀a∈F i,Z a)(zp:∀a,¬ P a->Z a)(rt:bH env F H r H' G):∀a∈G,Z a:=λa ha=>by
 rcases rt.cont a ha with q|⟨j,_,_,f,_⟩
 .exact zp a λz=>re.pl a z q
 .exact hz j a f
end
variable {b:List xL}{cb:bV}{wl:Expr}{mv:Bool}{pos':W3}{st:xL}
section
variable {X:Cx}{T:Tb}{pos:W3}{e:Expr}{c:Ex}
theorem BP:gT X [] (zV X.K T .nil):=by
 refine iQ eB λD σ H ⟨P,Z,env,F,re,hz,zp,h⟩=>?_
 unfold aP at h;exact h σ H F (After.same re hz (aG.refl _))
theorem wt{rest:List xL}{cs:St}{cr:bV}(h1:PS X st (tS X.K T cs))(h2:gT X rest (zV X.K T cr)):gT X (st::rest) (zV X.K T (.cons cs cr)):=by
 refine iQ (cC h1 h2) λD σ H ⟨P,Z,env,F,re,hz,zp,h⟩=>⟨P,Z,env,F,re,hz,zp,?_⟩
 unfold aP at h;cases hs:cP T cs env with
 |nx Ia=>
  rw[hs]at h;exactλσ' H' F' af=>⟨P,Z,Ia,F',af.re,af.z,zp,post.trans af h⟩
 |rt d fr=>rw[hs]at h;exact h
 |bad=>rw[hs]at h;exact h
theorem Er(he:PE X e (tE X.K T c)):PS X (.Return (ζ e) pos) (tS X.K T (.ret c)):=by
 refine dJ (dX he) λD σ H ⟨P,Z,env,F,re,hz,zp,h⟩=>?_
 unfold cP at h;obtain⟨p,hp,h⟩:=bW h;refine⟨P,env,F,re,p,hp,λv H' G s rp rt=>h v H' G rp (jJ.of_same re.pl s) (BI re hz zp rt) λfr=>?_⟩;cases hr:p.2 with
 |sh R=>rw[hr]at fr;cases fr
 |mv R=>
  rw[hr]at fr;obtain⟨a,b,d⟩:=rt.mv R hr;refine⟨a,λx hx=>⟨λz=>?_,b x hx⟩⟩;rcases d x hx with q|⟨i,d2,t2,hi,f,e2,o2⟩
  .exact re.pl x z q
  .have:=cq.mp fr i hi;split at this
   .rename_i d' q;exact re.wr i d' q x f z
   .cases this
theorem Ai(he:PE X e (tE X.K T c))(hs:W7 e ε pos.line X.env=pure γ):PS X (.Expr e pos) (tS X.K T (.expr c)):=by
 refine dJ (t6 he hs) λD σ H ⟨P,Z,env,F,re,hz,zp,h⟩=>?_
 unfold cP at h;obtain⟨p,hp,h⟩:=bW h;exact⟨P,env,F,re,p,hp,λv H' G s rp rt=>h σ H' F (After.same re hz s)⟩
theorem CN{a:List xL}{ca:bV}(hc:PT X e (nr X.K T c))(ha:gT X a (zV X.K T ca))(hb:gT X b (zV X.K T cb)):PS X (.If e a b pos) (tS X.K T (.ite c ca cb)):=by
 refine dJ (j3 hc ha hb) λD σ H ⟨P,Z,env,F,re,hz,zp,h⟩=>?_
 unfold cP at h;obtain⟨p,hp,h⟩:=bW h;cases ht:truth p.1 with
 |none=>rw[ht]at h;exact h.elim
 |some k=>
  rw[ht]at h;refine⟨P,env,F,re,p,k,hp,ht,λH' s=>?_⟩;have af:=After.same (Z:=Z) re hz s;cases k with
  |true=>show if δ=δ then _ else _;rw[if_pos rfl];exact⟨P,Z,env,F,af.re,hz,zp,post.trans af h⟩
  |false=>show if γ=δ then _ else _;rw[if_neg bo];exact⟨P,Z,env,F,af.re,hz,zp,post.trans af h⟩
theorem zC(hN:X.N.Nodup)(hi:X.N[i]? = ζ x)(hx:Loc X.env.scope x)(he:PE X e (tE X.K T c))(hs:W7 e (ζ (.Name x pos')) pos.line X.env=pure γ)(hf:X.fn x=δ\/X.env.scope.names.lookup x=ζ .local) :
  PS X (.Assign [.Name x pos'] e pos) (tS X.K T (.asg (.nm i) c mv)):=by
 refine dJ (hX hN hi hx he hs hf) λD σ H ⟨P,Z,env,F,re,hz,zp,h⟩=>?_
 unfold cP at h;obtain⟨p,hp,h⟩:=bW h;exact⟨P,env,F,re,p,hp,λv H' G s rp rt=>rV re hz zp s rp rt h⟩
theorem Dj(hN:X.N.Nodup)(hi:X.N[i]? = ζ x)(hx:Loc X.env.scope x)(he:PE X e (tE X.K T c))(hf:X.fn x=δ\/X.env.scope.names.lookup x=ζ .local)(ho:op = .Add\/op = .Sub) :
  PS X (.AugAssign (.Name x pos') op e pos) (tS X.K T (.aug i op c)):=by
 have hop:WO X op (λx y H Q=>∃a b k,x=.int a/\y=.int b/\Es op a b=ζ k/\Q (.int k) H):=by
  intro pins s σ H x y v u Q I rx ry h;obtain⟨a,b,k,rfl,rfl,hk,q⟩:=h;rcases ho with rfl|rfl
  .cases hk;exact AD pins s σ H _ _ v u Q I rx ry ⟨a,b,rfl,rfl,q⟩
  .cases hk;exact AJ pins s σ H _ _ v u Q I rx ry ⟨a,b,rfl,rfl,q⟩
 refine dJ (EG hN hi hx he hop hf) λD σ H ⟨P,Z,env,F,re,hz,zp,h⟩=>?_
 unfold cP at h;cases ha:intAt env i with
 |none=>rw[ha]at h;exact h.elim
 |some a=>
  rw[ha]at h;obtain⟨p,hp,h⟩:=bW h;have RQ:∃t,env[i]? = ζ (ζ (.int a,t)):=by
   unfold intAt at ha;split at ha
   .rename_i q;cases ha;exact⟨_,q⟩
   .cases ha
  obtain⟨t,RQ⟩:=RQ;obtain⟨v,hv,rv⟩:=re.val i _ _ RQ;obtain⟨rfl,_⟩:=rv.int_inv;refine⟨_,hv,P,env,F,re,p,hp,λv H' G s rp rt=>?_⟩;unfold He at h;cases hq:p.1 with
  |int b=>
   rw[hq]at h rp;obtain⟨rfl,_⟩:=rp.int_inv;dsimp only at h;cases hk:Es op a b with
   |none=>rw[hk]at h;exact h.elim
   |some k=>
    rw[hk]at h;exact⟨a,b,k,rfl,rfl,hk,rV re hz zp s (.int k) bH.nil h⟩
  |_=>rw[hq]at h;exact h.elim
noncomputable def gP:List Nat->CG
 |[]=>Fd
 |i::is=>Co (kf i) (gP is)
theorem jr:∀{is:List Nat}{vs:List V}{σ:L2.St}{H:Hp}{Q:L2.St->Hp->Prop},is.length=vs.length->Q (setM is vs σ) H->gP is vs σ H Q
 |[],[],_,_,_,_,q=>⟨rfl,q⟩
 |i::is,v::vs,σ,H,Q,hl,q=>⟨v,vs,rfl,jr (is:=is) (vs:=vs) (by simpa using hl) q⟩
 |[],_::_,_,_,_,hl,_=>by simp at hl
 |_::_,[],_,_,_,hl,_=>by simp at hl
theorem Bw{is:List Nat}(hg:PG X tg (vY X.K is.length (gP is)))(he:PE X e (tE X.K T c))(hs:Zx [tg] e pos.line X.env=pure γ)(hw:Ŋ [tg] e X.env=pure ε)(h1:(Os [tg] X.env).map (·.2)=[Yb tg X.env]) :
  PS X (.Assign [tg] e pos) (tS X.K T (.asg (.tp is) c mv)):=by
 refine dJ (wK he hg hs hw h1) λD σ H ⟨P,Z,env,F,re,hz,zp,h⟩=>?_
 unfold cP at h;obtain⟨p,hp,h⟩:=bW h;refine⟨P,env,F,re,p,hp,λv H' G s rp rt=>?_⟩;have Np:=re.same s;have ez:=BI re hz zp rt;have iX:=jJ.of_same (P:=P) re.pl s;unfold sH at h;cases hd:p.1 with
 |tup ds=>
  rw[hd]at h rp;obtain⟨a,vs,rfl,a1,a2⟩:=rp.Im;have fin:∀{o:Option En},post X.K P Z env F H D (xr o)->(∀Ia,o=ζ Ia->∃F',RE X.K P Ia (setM is vs σ) H' F'/\(∀i,∀a∈F' i,Z a)/\rT env F Ia F'/\is.length=vs.length)->vY X.K is.length (gP is) (.ref a) σ H' D.nx:=λ{o} h q=>by
   cases o with
   |none=>exact h.elim
   |some Ia=>
    obtain⟨F',b1,b2,b3,b4⟩:=q Ia rfl;exact⟨a,vs,rfl,a1,b4.symm,jr b4 (h _ H' F' ⟨b1,b2,iX,b3⟩)⟩
  have shared:post X.K P Z env F H D (if is.all (λi=>!p.2.roots.contains i)then xr (bindM (λd=>bQ d p.2.roots) is ds env)else .bad)->vY X.K is.length (gP is) (.ref a) σ H' D.nx:=λh=>by
   by_cases hc:is.all (λi=>!p.2.roots.contains i)=δ
   .rw[if_pos hc]at h;refine fin h λIa RH=>kO Np hz a2 ez (λx hx j d' t' ej o m=>?_) RH
    rcases rt.cont x hx with q|⟨k,d2,t2,f,e2,sr⟩
    .exact absurd q (re.nn ej m)
    .exact sr j ((re.one j d' t' ej o).2.2 x m k d2 t2 e2 f)
   .rw[if_neg hc]at h;exact h.elim
  cases hr:p.2 with
  |sh R=>rw[hr]at h shared;exact shared h
  |mv R=>
   cases R with
   |cons r0 R0=>rw[hr]at h shared;exact shared h
   |nil=>
    rw[hr]at h;obtain⟨m1,m2,m3⟩:=rt.mv [] hr;have fresh:∀a∈G,H a=ε:=λa ha=>by
     rcases m3 a ha with q|⟨_,_,_,q,_⟩
     .exact q
     .cases q
    exact fin h λIa RH=>nN Np hz a2 m1 m2 (λx hx z=>re.pl x z (fresh x hx)) ez (λx hx j m=>by
     obtain⟨d2,t2,e2⟩:=re.at' m;exact re.nn e2 m (fresh x hx)) RH
 |_=>rw[hd]at h;exact h.elim
theorem Ey(hp:XI (Α X.prog X.w) X.A X.env X.xe)(hc:PT X e (nr X.K T c))(hb:gT X b (zV X.K T cb)):PS X (.While e b [] pos) (tS X.K T (.K8 c cb)):=by
 refine dJ (za hp hc hb) λD σ H ⟨P,Z,env,F,re,hz,zp,h⟩=>?_
 unfold cP at h;refine⟨λm σ' H'=>∃Ia F',After X.K P Z env F H Ia σ' H' F'/\post X.K P Z Ia F' H' D (iO (λenv=>(ev T c env).bind λp=>ku (truth p.1)) (aP T cb) m Ia),⟨T.fuel,env,F,After.same re hz (aG.refl _),h⟩,λm σ1 H1 ⟨MK,F1,af,h1⟩=>?_⟩;cases m with
 |zero=>exact h1.elim
 |succ m=>
  unfold iO at h1;obtain⟨k,hk,h1⟩:=bW h1;obtain⟨p,NP,hk⟩:=Rs.HY hk;refine⟨P,MK,F1,af.re,p,k,NP,bY hk,λH2 s2=>?_⟩;have IY:=After.same (Z:=Z) af.re af.z s2;cases k with
  |false=>
   show if γ=δ then _ else _
   rw[if_neg bo];simp only[cx,if_false]at h1;exact h1 σ1 H2 F1 IY
  |true=>
   show if δ=δ then _ else _
   rw[if_pos rfl];simp only[if_true]at h1;refine⟨λσ' H'=>∃Ia F',After X.K P Z env F H Ia σ' H' F'/\post X.K P Z Ia F' H' D (iO (λenv=>(ev T c env).bind λp=>ku (truth p.1)) (aP T cb) m Ia),λσ' H' q=>⟨m,g6 _,q⟩,P,Z,MK,F1,IY.re,af.z,zp,?_⟩;have h1:=post.trans IY h1;cases hs:aP T cb MK with
   |nx e'=>rw[hs]at h1;exactλσ' H' F' Lk=>⟨e',F',af.trans (IY.trans Lk),post.trans Lk h1⟩
   |rt d fr=>rw[hs]at h1;exact h1
   |bad=>rw[hs]at h1;exact h1
noncomputable def pX(K:Frag):kh->TG
 |.nm i=>kf i
 |.tp is=>vY K is.length (gP is)
theorem lF{P Z:ι->Prop}{env Ia:En}{σ:L2.St}{t:kh}{d:Pc.D}{Q:L2.St->Hp->Prop}(re:RE K P env σ H F)(hz:∀i,∀a∈F i,Z a)(rp:Rep K H d v G)(gz:∀a∈G,Z a)
  (hs:∀a∈G,∀(j:Nat) (d':Pc.D) (t':Tg),env[j]? = ζ (ζ (d',t'))->aY t'=δ->a∈F j->j∈R) (hb:bP R t d env=ζ Ia) (hQ:∀σ' F',RE K P Ia σ' H F'->(∀i,∀a∈F' i,Z a)->rT env F Ia F'->Q σ' H):pX K t v σ H Q:=by
 cases t with
 |nm i=>
  simp only[bP]at hb;by_cases hi:i<env.length
  .rw[if_pos hi]at hb;cases hb;exact hQ _ _ (tK re hi rp hs) (qt hz gz) (kW hi qe)
  .rw[if_neg hi]at hb;cases hb
 |tp is=>
  cases d with
  |tup ds=>
   simp only[bP]at hb;obtain⟨a,vs,rfl,a1,a2⟩:=rp.Im;obtain⟨F',b1,b2,b3,b4⟩:=kO re hz a2 gz hs hb;exact⟨a,vs,rfl,a1,b4.symm,jr b4 (hQ _ F' b1 b2 b3)⟩
  |_=>cases hb
theorem Ep{t:kh}(hp:XI (Α X.prog X.w) X.A X.env X.xe)(hc:X.calm=δ)(hi:PI X tg wl (tI X.K T it))(hg:PG X tg (pX X.K t))(hb:gT X b (zV X.K T cb))(hs:∀x,IN wl X.env x=pure x) :
  PS X (.For tg wl b [] pos) (tS X.K T (.Ie t it cb)):=by
 refine dJ (vT hp hc hi hg hb hs) λD σ H ⟨P,Z,env,F,re,hz,zp,h⟩=>?_
 unfold cP at h;obtain⟨p,hp,h⟩:=bW h;refine⟨P,env,F,re,p,hp,λJ H1 G s1 rt nn wk=>?_⟩;have MS:=After.same (Z:=Z) re hz s1;have h:=post.trans MS h;let P':ι->Prop:=λa=>P a\/a∈G
 have wk:=wk P' λa ha=>.inr ha
 have seen:∀a∈G,∀(i:Nat) (d:Pc.D) (t:Tg),env[i]? = ζ (ζ (d,t))->aY t=δ->a∈F i->i∈p.2:=λa ha i d t e o m=>by
  rcases rt.cont a ha with q|⟨k,d2,t2,f,e2,sr⟩
  .exact absurd q (re.nn e m)
  .exact sr i ((re.one i d t e o).2.2 a m k d2 t2 e2 f)
 have Qo:RE X.K P' (lock p.2 env) σ H1 F:=MS.re.locked nn seen;have gz:∀a∈G,Z a:=BI re hz zp rt;let E':Ends:={D with nx:=λσ' H'=>∀Ia F',After X.K P' Z (lock p.2 env) F H1 Ia σ' H' F'->D.nx σ' H' };have KO:∀{f:Fl},post X.K P Z env F H1 D (match f with|.nx e=>.nx (unlock p.2 env e)|x=>x)->post X.K P' Z (lock p.2 env) F H1 D f:=λ{f} h=>by
  cases f with
  |nx e=>exactλσ' H' F' af=>h σ' H' F' (af.JJ MS.re)
  |rt d fr=>exactλv H' G' rp ev z f=>h v H' G' rp (ev.weak λ_ q=>.inl q) z λw=>⟨(f w).1,λa ha=>⟨λq=>((f w).2 a ha).1 (.inl q),((f w).2 a ha).2⟩⟩
  |bad=>exact h
 have h:=KO h;have PJ:∀a,¬ P' a->Z a:=λa ha=>zp a λq=>ha (.inl q)
 refine⟨λi m σ' H'=>m=p.1.length-i/\i<=p.1.length/\∃Ia F',After X.K P' Z (lock p.2 env) F H1 Ia σ' H' F'/\post X.K P' Z Ia F' H' D (hV t p.2 (aP T cb) (p.1.drop i) Ia),⟨p.1.length,by simp,cf _,lock p.2 env,F,After.same Qo hz (aG.refl _),by simpa using h⟩,?_⟩;rintro i m σ2 H2 ⟨rfl,hi,K4,F2,IY,h2⟩;obtain⟨w1,w2⟩:=wk H2 IY.ev;by_cases Ip:i<p.1.length
 .right;have hd:p.1[i]? = ζ p.1[i]:=by simp[Ip]
  obtain⟨g1,g2⟩:=w1 i _ hd;refine⟨g1,λσ' H'=>∃Ia F',After X.K P' Z (lock p.2 env) F H1 Ia σ' H' F'/\post X.K P' Z Ia F' H' D (hV t p.2 (aP T cb) (p.1.drop (i+1)) Ia),λσ' H' q=>⟨p.1.length-(i+1),by omega,rfl,Ip,q⟩,λx H3 y=>?_⟩;obtain⟨s3,G3,Nn,JD⟩:=g2 x H3 y;have Lk:=After.same (Z:=Z) IY.re IY.z s3;have h2:=post.trans Lk h2;rw[gg Ip]at h2;unfold hV at h2;cases hb:bP p.2 t p.1[i] K4 with
  |none=>rw[hb]at h2;exact h2.elim
  |some JG=>
   rw[hb]at h2;refine lF Lk.re IY.z Nn (λa ha=>gz a (JD a ha)) (λa ha j d' t' ej o m=>?_) hb λσ4 F4 LN z4 QF=>?_
   .cases t' with
    |own=>exact absurd (.inr (JD a ha)) (IY.re.wr j d' ej a m)
    |lk=>
     obtain⟨e5,e6⟩:=IY.lk j d' ej;rw[e6]at m;obtain⟨t0,e0,o0,_⟩:=dW e5;exact seen a (JD a ha) j d' t0 e0 (o0.trans o) m
    |sh Q=>cases o
   .have OJ:After X.K P' Z K4 F2 H3 JG σ4 H3 F4:=⟨LN,z4,jJ.refl _,QF⟩;refine⟨P',Z,JG,F4,LN,z4,PJ,?_⟩;have h2:=post.trans OJ h2;have all:=(IY.trans Lk).trans OJ;cases hs:aP T cb JG with
    |nx e'=>simp only[hs]at h2;exactλσ' H' F' OI=>⟨e',F',all.trans OI,post.trans OI h2⟩
    |rt d fr=>simp only[hs]at h2;exact h2
    |bad=>simp only[hs]at h2;exact h2
 .left;have e:i=p.1.length:=by omega
  subst e;rw[i4]at h2;exact⟨w2,h2 σ2 H2 F2 (After.same IY.re IY.z (aG.refl _))⟩
end
noncomputable def fU(cells:List (Str×ι)):List (Str×FS)->List (Str×ι)->List (Str×ι)
 |[],acc=>acc
 | (n,k)::r,acc=>fU cells r (if k == .free then(match cells.lookup n with|some c=>(n,c)::acc|none=>acc)else acc)
variable {env:Yo}{scope:Db}
theorem rN(h:∀x,(x,bi)∈scope.names->∃c,env.cells.lookup x=ζ c):Ü scope env=pure (fU env.cells scope.names []):=by
 unfold Ü;have gen:∀(names:List (Str×FS)) (acc:List (Str×ι)),(∀x,(x,bi)∈names->∃c,env.cells.lookup x=ζ c) ->
   (forIn names acc λ(p:Str×FS) (cs:List (Str×ι))=>(match p with
    | (name,kind)=>if(kind == .free)=δ then(do let c <- cellOf env name;pure (Xx ((name,c)::cs)))else pure (Xx cs):Ŗ (ForInStep (List (Str×ι)))))=(pure (fU env.cells names acc):Ŗ (List (Str×ι))):=by
  intro names
  induction names with
  |nil=>intro acc _;rfl
  |cons x r ih=>
   intro acc hx;obtain⟨n,k⟩:=x;rw[List.forIn_cons];simp only[fU];have hr:∀x,(x,bi)∈r->∃c,env.cells.lookup x=ζ c:=λx hm=>hx x (ae _ hm)
   by_cases hk:(k==bi)=δ
   .have e:k=.free:=by simpa using hk
    subst e;obtain⟨c,hc⟩:=hx n ah;simp only[hk,if_true,cellOf,hc];exact ih ((n,c)::acc) hr
   .simp only[hk,if_false];exact ih acc hr
 have:=gen scope.names [] h;simpa using this
variable {cells:List (Str×ι)}
theorem mZ{c:ι}:∀{names:List (Str×FS)}{acc:List (Str×ι)},(∀y d,acc.lookup y=ζ d->cells.lookup y=ζ d)->(fU cells names acc).lookup x=ζ c->cells.lookup x=ζ c
 |[],acc,ha,h=>ha x c h
 | (n,k)::r,acc,ha,h=>by
  simp only[fU]at h;refine mZ (names:=r) (λy d q=>?_) h;by_cases hk:(k==bi)=δ
  .rw[if_pos hk]at q;cases hc:cells.lookup n with
   |none=>rw[hc]at q;exact ha y d q
   |some e=>
    rw[hc]at q;simp only[cy]at q;cases hy:y==n with
    |true=>
     rw[hy]at q;have:=eq_of_beq hy;subst this;rw[hc];exact q
    |false=>rw[hy]at q;exact ha y d q
  .rw[if_neg hk]at q;exact ha y d q
theorem nX:∀{names:List (Str×FS)}{acc:List (Str×ι)},(∃c,acc.lookup x=ζ c)->∃c,(fU cells names acc).lookup x=ζ c
 |[],acc,h=>h
 | (n,k)::r,acc,h=>by
  simp only[fU];refine nX (names:=r) ?_;by_cases hk:(k==bi)=δ
  .rw[if_pos hk];cases hc:cells.lookup n with
   |none=>exact h
   |some e=>
    simp only[cy];cases hy:x==n with
    |true=>exact⟨e,rfl⟩
    |false=>exact h
  .rw[if_neg hk];exact h
theorem kU{c:ι}(hc:cells.lookup x=ζ c):∀{names:List (Str×FS)}{acc:List (Str×ι)},(x,bi)∈names->∃c,(fU cells names acc).lookup x=ζ c
 |[],acc,h=>by cases h
 | (n,k)::r,acc,h=>by
  simp only[fU];rcases c9.mp h with e|h
  .cases e;refine nX (names:=r) ?_;simp only[beq_self_eq_true,if_true,hc,cy];exact⟨c,rfl⟩
  .exact kU hc (names:=r) h
noncomputable def inner(X:Cx)(scope:Db)(N':List Str)(C:ι)(s0:θ)(H0:Hp)(ex:List ι):Cx:=
 {X with N:=N',s₀:=s0,H₀:=H0,env:=ŀ scope (io (C+1) scope.names (fU X.env.cells scope.names [])) C X.env,outer:=X.stack,stack:=X.stack,ex:=ex,fn:=λx=>scope.names.lookup x==ζ .cell,pn:=[],xe:=λ_ _=>False}
structure dN(X:Cx)(scope:Db)(N':List Str)(pick:List (Option Nat)):Prop where
 kind:scope.kind=.function
 cells:∀y∈scope.names,y.2=.cell->scope.names.lookup y.1=ζ .cell
 names:∀y∈scope.names,y.2=.local->scope.names.lookup y.1=ζ .local
 len:pick.length=N'.length
 outer:∀x,scope.names.lookup x=ζ .free->(X.env.kindOf x=ζ .cell\/X.env.kindOf x=ζ .free)
 free:∀x,(x,bi)∈scope.names->scope.names.lookup x=ζ .free
 pick:∀(i j:Nat) (x:Str),pick[i]? = ζ (ζ j)->N'[i]? = ζ x->scope.names.lookup x=ζ .free/\X.N[j]? = ζ x
noncomputable def eP(σ:L2.St)(pick:List (Option Nat)):L2.St:=pick.map λo=>o.bind λj=>(σ[j]?).join
theorem dZ:∀{names:List (Str×FS)}{x:Str}{k:FS},(names.map λ(n,k)=>if(k==bi&&env.scope.kind == .function&&env.kindOf n==ζ .cell)then(n,Ev)else(n,k)).lookup x=ζ k ->
  ∃k0,names.lookup x=ζ k0/\(k=k0\/(k0=.free/\k=.cell))
 |[],_,_,h=>by simp at h
 | (n,k0)::r,x,k,h=>by
  rw[a9]at h;by_cases hc:(k0==bi&&env.scope.kind == .function&&env.kindOf n==ζ .cell)=δ
  .simp only[hc,if_true,cy]at h;simp only[cy];cases hx:x==n with
   |true=>
    rw[hx]at h;cases h;rw[ai,ai]at hc;exact⟨k0,rfl,.inr ⟨by simpa using hc.1.1,rfl⟩⟩
   |false=>rw[hx]at h;exact dZ h
  .have hc:(k0==bi&&env.scope.kind == .function&&env.kindOf n==ζ .cell)=γ:=by simpa using hc
   simp only[hc,cx,if_false,cy]at h;simp only[cy];cases hx:x==n with
   |true=>rw[hx]at h;cases h;exact⟨k0,rfl,.inl rfl⟩
   |false=>rw[hx]at h;exact dZ h
theorem eE:∀{names:List (Str×FS)}{x:Str},names.lookup x=ζ .free ->
  (names.map λ(n,k)=>if(k==bi&&env.scope.kind == .function&&env.kindOf n==ζ .cell)then(n,Ev)else(n,k)).lookup x=ζ .cell \/
  (names.map λ(n,k)=>if(k==bi&&env.scope.kind == .function&&env.kindOf n==ζ .cell)then(n,Ev)else(n,k)).lookup x=ζ .free
 |[],_,h=>by simp at h
 | (n,k0)::r,x,h=>by
  rw[a9];by_cases hc:(k0==bi&&env.scope.kind == .function&&env.kindOf n==ζ .cell)=δ
  .simp only[hc,if_true,cy]at h ⊢;cases hx:x==n with
   |true=>left;rfl
   |false=>rw[hx]at h;exact eE h
  .have hc:(k0==bi&&env.scope.kind == .function&&env.kindOf n==ζ .cell)=γ:=by simpa using hc
   simp only[hc,cx,if_false,cy]at h ⊢;cases hx:x==n with
   |true=>rw[hx]at h;cases h;right;rfl
   |false=>rw[hx]at h;exact eE h
theorem fV:∀(names:List (Str×FS)) (n:Nat) (acc:List (Str×ι)),io n names acc=io n names []++acc
 |[],_,_=>rfl
 | (nm,k)::r,n,acc=>by
  unfold io;split
  .rw[fV r (n+1) ((nm,n)::acc),fV r (n+1) [(nm,n)],gy];rfl
  .exact fV r n acc
theorem sy:∀(names:List (Str×FS)) (n:Nat) {x:Str}{c:ι},(x,c)∈io n names []->(x,Ev)∈names
 |[],_,_,_,h=>by cases h
 | (nm,k)::r,n,x,c,h=>by
  unfold io at h;split at h
  .rename_i hk;rw[fV]at h;rcases i9.mp h with h|h
   .exact ae _ (sy r _ h)
   .have e:(x,c)=(nm,n):=by simpa using h
    cases e;rw[show k=.cell by simpa using hk];exact ah
  .exact ae _ (sy r _ h)
theorem oP:∀(names:List (Str×FS)) (n:Nat) {x:Str},(x,Ev)∈names->∃c,(io n names []).lookup x=ζ c
 | (nm,k)::r,n,x,h=>by
  unfold io;rcases c9.mp h with e|h
  .cases e;rw[if_pos (by decide),fV,gu];cases(io (n+1) r []).lookup nm with
   |some c=>exact⟨c,rfl⟩
   |none=>exact⟨n,by simp⟩
  .split
   .obtain⟨c,hc⟩:=oP r (n+1) h;rw[fV,gu,hc];exact⟨c,rfl⟩
   .exact oP r n h
theorem nfe{M:ZM}{E:η->θ->Prop}{globals:ι}{cl:List (Str×ι)}{qual:Str}{Q:Yo->θ->Prop}
  (h:Q {scope:=scope,locals:=s.heap.objs.size,globals:=globals,cells:=io (s.heap.objs.size+1) scope.names cl,qual:=qual,func:=ε,code:=env.code,frame:=env.frame,builtins:=env.builtins} {s with heap:=XM (s.heap.push {cls:=.type "dict",data:=.dict #[]}) scope.names}) :
  υ M A (Zk scope globals cl [] qual ε .none (ζ env)) Q E s:=by
 simp only[Zk,Zq,if_true];refine ν (wpAny_alloc (ν (wpAny_layCells _ (λname kind cells=>by cases Rv:kind==Ev<;>simp[Rv]) _ _ _ _ ?_)));rw[show({s with heap:=s.heap.push {cls:=.type "dict",data:=.dict #[]}}:θ).heap.objs.size=s.heap.objs.size+1 from Tl ..];exact Ν h
variable {fp:List ι}
section
variable {X:Cx}{scope:Db}{N':List Str}{pick:List (Option Nat)}{pins:List (ι×na)}{σ:L2.St}{H:Hp}{s:θ}
theorem qx(S:dN X scope N' pick)(I:Inv X pins σ H s)(hf:∀b∈fp,gX X pins H b)(hl:∀b∈fp,b<s.heap.objs.size) :
  Inv (inner X scope N' s.heap.objs.size s H fp) [] (eP σ pick) H {s with heap:=XM (s.heap.push {cls:=.type "dict",data:=.dict #[]}) scope.names}:=by
 have old:∀x c,(fU X.env.cells scope.names []).lookup x=ζ c->X.env.cells.lookup x=ζ c:=λx c h=>mZ (acc:=[]) (λy d q=>by simp at q) h
 have hk:∀b o,s.heap.get? b=ζ o->(XM (s.heap.push {cls:=.type "dict",data:=.dict #[]}) scope.names).get? b=ζ o:=λb o e=>Y5 _ _ b o (ξ _ e)
 have hn:(XM (s.heap.push {cls:=.type "dict",data:=.dict #[]}) scope.names).Ns s.heap.objs.size (λ_=>ε):=(Heap.Ns.new s.heap (.type "dict")).keeps (Y5 _ _);have ok:=cellsFrom_ok scope.names (s.heap.push {cls:=.type "dict",data:=.dict #[]}) (s.heap.objs.size+1) [] ⟨λ_ _ hm=>(nomatch hm),YL⟩ (by rw[Tl];exact ao _);rw[Tl]at ok;generalize hh:XM (s.heap.push {cls:=.type "dict",data:=.dict #[]}) scope.names=h' at *;have LP:∀x c,X.env.cells.lookup x=ζ c->c<s.heap.objs.size:=λx c h=>by
  obtain⟨v,hv⟩:=I.cell x c h;exact hv.lt
 have look:∀x c,(io (s.heap.objs.size+1) scope.names (fU X.env.cells scope.names [])).lookup x=ζ c->((x,c)∈io (s.heap.objs.size+1) scope.names []/\s.heap.objs.size+1<=c)\/((x,Ev)∉scope.names/\X.env.cells.lookup x=ζ c):=λx c h=>by
  rw[fV,gu]at h;cases q:(io (s.heap.objs.size+1) scope.names []).lookup x with
  |some c'=>
   rw[q]at h;cases h;have hm:=bw q;exact .inl ⟨hm,(ok.empty _ _ hm).2⟩
  |none=>
   rw[q]at h;refine .inr ⟨λz=>?_,old x c h⟩;obtain⟨c',J8⟩:=oP scope.names (s.heap.objs.size+1) z;rw[q]at J8;cases J8
 have sees:∀x c,scope.names.lookup x=ζ .free->(fU X.env.cells scope.names []).lookup x=ζ c->(io (s.heap.objs.size+1) scope.names (fU X.env.cells scope.names [])).lookup x=ζ c:=λx c hx h=>by
  rw[fV,gu];cases q:(io (s.heap.objs.size+1) scope.names []).lookup x with
  |some c'=>
   have:=S.cells _ (sy _ _ (bw q)) rfl;rw[hx]at this;cases this
  |none=>rw[h];rfl
 refine⟨⟨I.ok.mod,S.kind,I.ok.glob,I.ok.blt,ao _,λx y c h1 h2=>?inj,λx hx=>?_,λx c hx h=>?KJ,I.ok.hd,I.ok.frames,.inl rfl,λb hb=>?_,I.bs,a8 I.ok.Ks I.sz,λb o e hb=>?_,λb hb Jz=>?_,I.stack,I.IQ⟩,
  rfl,I.bare,Un.kept hk,⟨_,hn,λi x v h1 h2 h3=>?_⟩,λx c h=>?_,I.Ib.fresh (ao _),λx c h=>?frc,λp hp=>absurd (show p∈([]:List (ι×na))from hp) (by simp),I.Ib.kept hk,?_⟩
 case inj=>
  rcases look x c h1 with⟨m1,l1⟩|⟨_,o1⟩<;>rcases look y c h2 with⟨m2,l2⟩|⟨_,o2⟩
  .exact ř ok.apart m1 m2
  .exact absurd (ax (LP y c o2) (Yp l1)) (c8 _)
  .exact absurd (ax (LP x c o1) (Yp l2)) (c8 _)
  .exact I.ok.inj x y c o1 o2
 case KJ=>
  have hx:scope.names.lookup x=ζ .cell:=by simpa[inner]using hx
  rcases look x c h with⟨_,l1⟩|⟨n1,_⟩
  .exact a8 (YA _) l1
  .exact absurd (bw hx) n1
 case frc=>
  rcases look x c h with⟨_,l1⟩|⟨_,o1⟩
  .exact I.Ib.fresh (a8 (YA _) l1)
  .exact I.Il x c o1
 .have hx:(Č scope X.env).names.lookup x=ζ .cell\/(Č scope X.env).names.lookup x=ζ .free:=hx;have Iz:scope.names.lookup x=ζ .free\/scope.names.lookup x=ζ .cell:=by
   rcases hx with hx|hx
   .obtain⟨k0,h1,h2|⟨h2,_⟩⟩:=dZ hx
    .subst h2;exact .inr h1
    .rw[h2]at h1;exact .inl h1
   .obtain⟨k0,h1,h2|⟨h2,h3⟩⟩:=dZ hx
    .subst h2;exact .inl h1
    .cases h3
  rcases Iz with Iz|Iz
  .obtain⟨c,hc⟩:=I.ok.has x (S.outer x Iz);obtain⟨c',J8⟩:=kU (acc:=[]) hc (bw Iz);exact⟨c',sees x c' Iz J8⟩
  .obtain⟨c,hc⟩:=oP scope.names (s.heap.objs.size+1) (bw Iz);refine⟨c,?_⟩;show(io (s.heap.objs.size+1) scope.names (fU X.env.cells scope.names [])).lookup x=ζ c;rw[fV,gu,hc];rfl
 .refine⟨az (hl b hb),λx c h=>?_⟩;rcases look x c h with⟨_,l1⟩|⟨_,o1⟩
  .exact λe=>c8 _ (ax (hl b hb) (e ▸ Yp l1))
  .exact (hf b hb).2.2.2.2.1 x c o1
 .obtain⟨f0,f1,f2,f3,f4,f5⟩:=hf b hb;rcases f3 with f3|f3
  .exact I.ok.Jr b o e f3
  .exact absurd (ax (ρ e) (a8 I.ok.Ks f3)) (c8 _)
 .obtain⟨f0,f1,f2,f3,f4,f5⟩:=hf b hb;exact(c9.mp (I.Ka b Jz)).elim f1 f2
 ·
  have Jc:(pick.map λo=>o.bind λj=>(σ[j]?).join)[i]? = ζ (ζ v):=h2;rw[τ]at Jc;cases hp:pick[i]? with
  |none=>rw[hp]at Jc;cases Jc
  |some o=>
   rw[hp]at Jc;cases o with
   |none=>simp at Jc
   |some j=>
    simp only[cm,ZV,cz]at Jc;have hj:σ[j]? = ζ (ζ v):=by
     cases q:σ[j]? with
     |none=>rw[q]at Jc;cases Jc
     |some o=>rw[q]at Jc;cases o with
      |none=>cases Jc
      |some w=>simp at Jc;rw[Jc]
    obtain⟨k1,k2⟩:=S.pick i j x hp h1;obtain⟨m0,hn0,Pk⟩:=I.loc;have LZ:zU X.env.scope x:=by
     rcases S.outer x k1 with q|q
     .exact .inr (.inl q)
     .exact .inr (.inr q)
    obtain⟨u,r,lk⟩:=Pk j x v k2 hj LZ;refine⟨u,r,?_⟩;rcases lk with⟨z,_⟩|⟨_,c,hc,Jy⟩
    .rcases S.outer x k1 with q|q<;>· rw[z]at q;cases q
    .obtain⟨c',J8⟩:=kU (names:=scope.names) (acc:=[]) hc (bw k1);have:=old x c' J8;rw[hc]at this;cases this;refine .inr ⟨eE k1,c,sees x c k1 J8,?_⟩;obtain⟨o,ho,hd⟩:=Jy;exact⟨o,hk c o ho,hd⟩
 .rcases look x c h with⟨m1,_⟩|⟨_,o1⟩
  .exact⟨ε,(ok.empty _ _ m1).1⟩
  .obtain⟨v,o,ho,hd⟩:=I.cell x c o1;exact⟨v,o,hk c o ho,hd⟩
 .show (pick.map _).length=N'.length;rw[aj,S.len]
end
noncomputable abbrev tz(ifs:List Expr)(env:Yo):Ŗ Bool:=forIn ifs δ λc r=>if r=δ then do let ok <- Z8 c env (eval c env);pure (Xx ok)else pure (Xx r)
noncomputable def EZ(X:Cx)(ifs:List Expr)(t:TT):Prop:=
 ∀(pins:List (ι×na)) (s:θ) (σ:L2.St) (H:Hp) (Q:Bool->Hp->Prop),Inv X pins σ H s->t σ H Q->υ (Α X.prog X.w) X.A (tz ifs X.env) (TP X pins σ Q) X.xe s
variable {X:Cx}
theorem AN:EZ X [] (λ_ H Q=>Q δ H):=λ_ _ _ H Q I h=>wpAny_tests_nil ⟨H,I,h⟩
theorem Ao{c:Expr}{t:TT}(h:PT X c t):EZ X [c] t:=λpins s σ H Q I q=>wpAny_tests_one (h pins s σ H Q I q)
variable {elt:Expr}{ifs:List Expr}
section
variable {prog:Ε}{w:Ξ}{A:Ρ}{R:Yu->θ->Prop}{s:θ}
theorem qh{target:Expr}{it acc:η}(I:Nat->θ->Prop)
  (turn:∀n s,I n s->υ (Α prog w) A (pyNext it) (λr s₁=>match r with
   |none=>R (.ok .next) s₁
   |some v=>υ (Α prog w) A (XX target it v) (λ_ s₀=>υ (Α prog w) A (Yb target env v) (λ_ s₂=>
     υ (Α prog w) A (tz ifs env) (λok s₃=>
      if ok=δ then υ (Α prog w) A (eval elt env) (λx s₄=>
       υ (Α prog w) A (call (.builtin "list.append") [acc,x]) (λ_ s₅=>∃m,m<n/\I m s₅) (λ_ _=>False) s₄) (λ_ _=>False) s₃
      else∃m,m<n/\I m s₃) (λ_ _=>False) s₂) (λ_ _=>False) s₀) (λ_ _=>False) s₁) (λ_ _=>False) s)
  (n:Nat) (h:I n s):Pi (Α prog w) A (.compLoop (.ListComp elt [⟨target,wl,ifs,0⟩] scope pos) 0 it acc env) R s:=by
 refine codeAny_loop rfl I (λn s hI=>?_) n h;show υ _ A ((compTurn (.ListComp elt [⟨target,wl,ifs,0⟩] scope pos) 0 it acc env).onRaise (λx=>do ZW x env;theTreesLotGoes x)) _ _ s;refine wpAny_noted ?_;rw[compTurn_list];refine ν (Xl (ν (Λ (turn n s hI) (λr s₁ h₁=>?_) λ_ _ h'=>h'.elim)));cases r with
 |none=>exact Ν h₁
 |some v=>
  refine ν (Λ h₁ (λ_ s₀ h₀=>?_) λ_ _ h'=>h'.elim);refine ν (Λ h₀ (λ_ s₂ h₂=>ν (Λ h₂ (λok s₃ h₃=>?_) λ_ _ h'=>h'.elim)) λ_ _ h'=>h'.elim);cases ok with
  |false=>exact Ν ⟨rfl,h₃⟩
  |true=>
   exact ν (ν (Λ h₃ (λx s₄ h₄=>ν (Λ h₄ (λ_ s₅ h₅=>Ν (Ν ⟨rfl,h₅⟩)) λ_ _ h'=>h'.elim)) λ_ _ h'=>h'.elim))
end
def wA(pick:List (Option Nat))(wi:TI)(g:TG)(tt:TT)(te:TE):TE:=λσ H Q=>wi σ H λJ H1=>∀l,H1 l=ε->∃W:Nat->Nat->Hp->Prop,(∃m,W 0 m (upd H1 l (.lst [])))/\∀i m H,W i m H ->
 (J.stop i H/\Q (.ref l) H)\/(J.go i H/\∃N:Hp->Prop,(∀H',N H'->∃m',m'<m/\W (i+1) m' H')/\∀x H',J.Nd i H x H'->g x (eP σ pick) H' λσ2 H2=>
  tt σ2 H2 λb H3=>if b=δ then te σ2 H3 λy H4=>∃xs,H4 l=ζ (.lst xs)/\xs.length<Ζ/\N (upd H4 l (.lst (xs ++ [y])))else N H3)
section
variable {X:Cx}{scope:Db}{N':List Str}{pick:List (Option Nat)}{tg wl elt:Expr}{ifs:List Expr}{pos:W3}{wi:TI}{g:TG}{tt:TT}{te:TE}
theorem lB(S:dN X scope N' pick)(hc:X.calm=δ)(LC:∀C s0 H0 ex,PG (inner X scope N' C s0 H0 ex) tg g/\EZ (inner X scope N' C s0 H0 ex) ifs tt/\PE (inner X scope N' C s0 H0 ex) elt te)
  (gk:∀(v:V) (σ:L2.St) (H:Hp) (Q:L2.St->Hp->Prop),g v σ H Q->g v σ H λσ' H'=>Q σ' H'/\σ'.length=σ.length/\∀(i:Nat) u,pick[i]?≠ζ ε->σ[i]? = ζ u->σ'[i]? = ζ u)
  {σ:L2.St}{it:ι}{tn:Nat->Υ->Prop}{J:It}{E:η->θ->Prop}{RR:η->ι->Yu->θ->Prop}(I:Inv X pins σ H s) (T:Turn X.prog X.w X.K tg J fp it tn) (st:tn 0 s.heap) (hf:∀b∈fp,gX X pins H b)
  (Q:VK) (h:∀l,H l=ε->∃W:Nat->Nat->Hp->Prop,(∃m,W 0 m (upd H l (.lst [])))/\∀i m H,W i m H ->
   (J.stop i H/\Q (.ref l) H)\/(J.go i H/\∃N:Hp->Prop,(∀H',N H'->∃m',m'<m/\W (i+1) m' H')/\∀x H',J.Nd i H x H'->g x (eP σ pick) H' λσ2 H2=>
    tt σ2 H2 λb H3=>if b=δ then te σ2 H3 λy H4=>∃xs,H4 l=ζ (.lst xs)/\xs.length<Ζ/\N (upd H4 l (.lst (xs ++ [y])))else N H3))
  (hR:∀(l C:ι) (s':θ) (H':Hp) (m:Str->Option η),s'.heap.Ns C m->gX X pins H' C->Q (.ref l) H'->Inv X pins σ H' s'->RR (.ref l) C (.ok .next) s') :
  υ (Α X.prog X.w) X.A (newList []) (λacc s₃=>υ (Α X.prog X.w) X.A (Zk scope X.env.globals (fU X.env.cells scope.names []) [] X.env.qual ε .none (ζ X.env)) (λOB s₄=>
   Pi (Α X.prog X.w) X.A (.compStart (.ListComp elt [⟨tg,wl,ifs,0⟩] scope pos) 0 (.ref it) acc {OB with scope:=Č scope X.env}) (RR acc OB.locals) s₄) E s₃) E s:=by
 have NQ:∀b∈fp,b<s.heap.objs.size:=λb hb=>let ⟨o,e,_⟩:=T.obj 0 _ st b hb;ρ e
 refine XE (nfe ?_);dsimp only;have I3:Inv X pins σ (upd H s.heap.objs.size (.lst [])) {s with heap:=s.heap.push {cls:=.type "list",data:=.seq ([]:List η).toArray}}:=I.Mg (ys:=[]) (its:=[]) (t':=s.toks) .nil (cf _);obtain⟨W,⟨m0,w0⟩,turn⟩:=h s.heap.objs.size I.fresh;have hC:(s.heap.push {cls:=.type "list",dict:=ε,data:=.seq ([]:List η).toArray}).objs.size=s.heap.objs.size+1:=Tl ..;have Wh:∀b∈fp,gX X pins (upd H s.heap.objs.size (.lst [])) b:=λb hb=>⟨by rw[aE (az (NQ b hb))];exact(hf b hb).1,(hf b hb).2⟩
 have NG:∀b o,(s.heap.push {cls:=.type "list",dict:=ε,data:=.seq ([]:List η).toArray}).get? b=ζ o->(XM ((s.heap.push {cls:=.type "list",dict:=ε,data:=.seq ([]:List η).toArray}).push {cls:=.type "dict",data:=.dict #[]}) scope.names).get? b=ζ o:=λb o e=>Y5 _ _ b o (ξ _ e)
 have I4:=qx (s:={s with heap:=s.heap.push {cls:=.type "list",dict:=ε,data:=.seq ([]:List η).toArray}}) S I3 Wh (λb hb=>by show b<(s.heap.push _).objs.size;rw[hC];exact fu (NQ b hb));dsimp only at I4;generalize hh₁:XM ((s.heap.push {cls:=.type "list",dict:=ε,data:=.seq ([]:List η).toArray}).push {cls:=.type "dict",data:=.dict #[]}) scope.names=h₁ at *;have Vp:tn 0 h₁:=T.keep 0 _ _ st λb hb o e=>NG b o (ξ _ e)
 generalize hY:inner X scope N' (s.heap.push {cls:=.type "list",dict:=ε,data:=.seq ([]:List η).toArray}).objs.size {s with heap:=s.heap.push {cls:=.type "list",dict:=ε,data:=.seq ([]:List η).toArray}} (upd H s.heap.objs.size (.lst [])) fp=Y at I4;have N7:=LC (s.heap.push {cls:=.type "list",dict:=ε,data:=.seq ([]:List η).toArray}).objs.size {s with heap:=s.heap.push {cls:=.type "list",dict:=ε,data:=.seq ([]:List η).toArray}} (upd H s.heap.objs.size (.lst [])) fp;rw[hY]at N7;obtain⟨yg,yt,ye⟩:=N7;have yE:Y.env=ŀ scope (io ((s.heap.push {cls:=.type "list",dict:=ε,data:=.seq ([]:List η).toArray}).objs.size+1) scope.names (fU X.env.cells scope.names [])) (s.heap.push {cls:=.type "list",dict:=ε,data:=.seq ([]:List η).toArray}).objs.size X.env:=by rw[<-hY];rfl
 have hCL:(s.heap.push {cls:=.type "list",dict:=ε,data:=.seq ([]:List η).toArray}).objs.size≠X.env.locals:=by
  rw[hC];exact Ze (fu I.lt)
 have back:∀{H5:Hp}{s5:θ},Inv Y [] (eP σ pick) H5 s5->Q (.ref s.heap.objs.size) H5->RR (.ref s.heap.objs.size) (s.heap.push {cls:=.type "list",dict:=ε,data:=.seq ([]:List η).toArray}).objs.size (.ok .next) s5:=λ{H5 s5} I5 q=>by
  subst hY;obtain⟨m,hn,_⟩:=I5.loc;have J5:Inv X pins σ H5 s5:=Inv.OC I3 I5.os I5.base I5.Ib I5.bare λb hb=>by
   obtain⟨f0,f1,f2,f3,f4,f5⟩:=hf b hb;exact⟨f3,f1,f4,f5⟩
  have VO:∀{b:ι}{o:na},s.heap.get? b=ζ o->b≠(s.heap.push {cls:=.type "list",dict:=ε,data:=.seq ([]:List η).toArray}).objs.size:=λe=>by rw[hC];exact az (fu (ρ e))
  refine hR _ _ s5 H5 m hn ⟨I5.free,hCL,I.Nt (by rw[hC];exact YA _),.inr (by rw[hC];exact ê I.sz),λx c e z=>?_,λp hp z=>?_⟩ q J5
  .obtain⟨v,o,ho,_⟩:=I.cell x c e;exact VO ho z
  .exact VO (I.pin p hp).1 z
 have yP:Y.prog=X.prog:=by rw[<-hY];rfl
 have yw:Y.w=X.w:=by rw[<-hY];rfl
 have yK:Y.K=X.K:=by rw[<-hY];rfl
 have yA:Y.A=X.A:=by rw[<-hY];rfl
 have yc:Y.calm=δ:=by rw[<-hY];exact hc
 have yx:Y.xe=λ_ _=>False:=by rw[<-hY];rfl
 have yp:Y.pn=[]:=by rw[<-hY];rfl
 have yex:Y.ex=fp:=by rw[<-hY];rfl
 have Kb:∀{H':Hp},(∀b∈fp,H' b=ε)->∀b∈fp,gX Y [] H' b:=λ{H'} hn b hb=>by
  have Jz:b∈Y.ex:=by rw[yex];exact hb
  obtain⟨x1,x2⟩:=I4.ok.LX b Jz;exact⟨hn b hb,x1,I4.ok.Jv b Jz,.inl Jz,x2,λp hp=>by rw[yp]at hp;cases hp⟩
 rw[<-yP,<-yw,<-yA];have loop:Pi (Α Y.prog Y.w) Y.A (.compLoop (.ListComp elt [⟨tg,wl,ifs,0⟩] scope pos) 0 (.ref it) (.ref s.heap.objs.size) Y.env) (RR (.ref s.heap.objs.size) (s.heap.push {cls:=.type "list",dict:=ε,data:=.seq ([]:List η).toArray}).objs.size) {s with heap:=h₁}:=by
  refine qh (λn s5=>∃i H5,Inv Y [] (eP σ pick) H5 s5/\tn i s5.heap/\(∀b∈fp,H5 b=ε)/\W i n H5) ?_ m0 ⟨0,_,I4,Vp,λb hb=>(Wh b hb).1,w0⟩;rintro n s5 ⟨i,H5,I5,MZ,Pq,w5⟩;rcases turn i n H5 w5 with⟨stop,qn⟩|⟨go,N,hN,step⟩
  .have d:=T.done Y yP yw yK yc i [] s5 (eP σ pick) H5 (λ_ _=>False) I5 (Kb Pq) MZ stop;rw[<-yP,<-yw]at d;refine bT d λr s6 ⟨hr,I6⟩=>?_
   subst hr;exact back I6 qn
  .have d:=T.item Y yP yw yK yc i [] s5 (eP σ pick) H5 (λ_ _=>False) I5 (Kb Pq) MZ go;rw[<-yP,<-yw]at d;refine bT d λr s6 ⟨u,hr,h6⟩=>?_
   subst hr;refine bT h6 λ_ s7 ⟨x,H7,I7,r7,y7,Qa,fr7⟩=>?_
   have I7':=I7.pinned (Kb fr7) (T.obj _ _ Qa);have Vg:=yg _ s7 (eP σ pick) H7 x u _ I7' r7 (gk _ _ _ _ (step x H7 y7));rw[yx]at Vg;refine bT Vg λ_ s8 ⟨σ8,H8,I8,q8,l8,k8⟩=>?_
   have Vf:=yt _ s8 σ8 H8 _ I8 q8;rw[yx]at Vf;refine bT Vf λb s9 ⟨H9,I9,q9⟩=>?_
   have again:∀{σ':L2.St}{H':Hp}{s':θ},Inv Y ([]++kX fp s7.heap) σ' H' s'->σ'=σ8->N H'->∃m,m<n/\∃i H5,Inv Y [] (eP σ pick) H5 s'/\tn i s'.heap/\(∀b∈fp,H5 b=ε)/\W i m H5:=λ{σ' H' s'} J e nn=>by
    subst e;obtain⟨m',hm,w'⟩:=hN H' nn;refine⟨m',hm,i+1,H',(J.IE).weak (l8.symm) (λj v e=>?_),T.keep _ _ _ Qa λb hb o e=>(J.pin (b,o) (ak _ (ak _ (eJ hb e)))).1,λb hb=>?_,w'⟩
    .refine k8 j _ (λz=>?_) e;unfold eP at e;rw[τ,z]at e;simp at e
    .obtain⟨o,e,_⟩:=T.obj _ _ Qa b hb;exact(J.pin (b,o) (ak _ (ak _ (eJ hb e)))).2.1
   cases b with
   |false=>
    rw[if_neg bo];exact again I9 rfl q9
   |true=>
    rw[if_pos rfl];have q9:te σ8 H9 λy H4=>∃xs,H4 s.heap.objs.size=ζ (.lst xs)/\xs.length<Ζ/\N (upd H4 s.heap.objs.size (.lst (xs ++ [y]))):=q9
    have Vh:=ye _ s9 σ8 H9 _ I9 q9;rw[yx]at Vh;refine bT Vh λv s10 ⟨y,H10,I10,r10,xs,MN,z10,n10⟩=>?_
    have ap:=nF _ s10 σ8 H10 (.ref s.heap.objs.size) [y] (.ref s.heap.objs.size) [v] (λ_ H'=>N H') I10 rfl (.cons r10 .nil) ⟨s.heap.objs.size,xs,y,rfl,rfl,MN,z10,n10⟩;rw[yx]at ap;exact bT ap λ_ s11 ⟨_,H11,I11,_,n11⟩=>again I11 rfl n11
 show Pi (Α Y.prog Y.w) Y.A (.compStart (.ListComp elt [⟨tg,wl,ifs,0⟩] scope pos) 0 (.ref it) (.ref s.heap.objs.size) (ŀ scope (io ((s.heap.push {cls:=.type "list",dict:=ε,data:=.seq ([]:List η).toArray}).objs.size+1) scope.names (fU X.env.cells scope.names [])) (s.heap.push {cls:=.type "list",dict:=ε,data:=.seq ([]:List η).toArray}).objs.size X.env))
  (RR (.ref s.heap.objs.size) (s.heap.push {cls:=.type "list",dict:=ε,data:=.seq ([]:List η).toArray}).objs.size) {s with heap:=h₁}
 rw[<-yE];refine codeAny_compStart_list loop ?_;have l2:=loop;rw[yP,yw]at l2 ⊢;exact T.self Y.A 0 _ _ _ Vp l2
theorem eQ(S:dN X scope N' pick)(hh:∀x,(X.env.kindOf x=ζ .cell\/X.env.kindOf x=ζ .free)->∃c,X.env.cells.lookup x=ζ c):Ü scope X.env=pure (fU X.env.cells scope.names []):=
 rN λx hx=>hh x (S.outer x (S.free x hx))
theorem AK(S:dN X scope N' pick)(hc:X.calm=δ)(hi:PI X tg wl wi)(LC:∀C s0 H0 ex,PG (inner X scope N' C s0 H0 ex) tg g/\EZ (inner X scope N' C s0 H0 ex) ifs tt/\PE (inner X scope N' C s0 H0 ex) elt te)
  (gk:∀(v:V) (σ:L2.St) (H:Hp) (Q:L2.St->Hp->Prop),g v σ H Q->g v σ H λσ' H'=>Q σ' H'/\σ'.length=σ.length/\∀(i:Nat) u,pick[i]?≠ζ ε->σ[i]? = ζ u->σ'[i]? = ζ u) (hs:∀x,IN wl X.env x=pure x) :
  PE X (.ListComp elt [⟨tg,wl,ifs,0⟩] scope pos) (wA pick wi g tt te):=by
 intro pins s σ H Q I h;rw[eval_ListComp];refine ZC (use:=ε) rfl hs (eQ S I.ok.has) S.kind S.names (bT (hi pins s σ H _ I h) λv s1 h1=>bT h1 λNH s2 h2=>?_);obtain⟨it,fp,tn,J,H2,e,I2,T,Ni,f2,q⟩:=h2;subst e;refine lB (RR:=λacc C=>compPost (Α X.prog X.w) X.A X.xe ε (EP X pins σ Q) acc C) S hc LC gk I2 T Ni f2 Q q λl C s' H' m hn fc hq J0=>?_
 obtain⟨f0,f1,f2,f3,f4,f5⟩:=fc;exact⟨m,hn,λh' sb=>⟨.ref l,H',J0.turned (t':=s'.toks) (λb o hb e=>sb.extBut b o hb e) f0 f1 f3 f4 f5,rfl,hq⟩⟩
theorem rj{Nj:W3}(S:dN X scope N' pick)(hc:X.calm=δ)(hi:PI X tg wl wi)(LC:∀C s0 H0 ex,PG (inner X scope N' C s0 H0 ex) tg g/\EZ (inner X scope N' C s0 H0 ex) ifs tt/\PE (inner X scope N' C s0 H0 ex) elt te)
  (gk:∀(v:V) (σ:L2.St) (H:Hp) (Q:L2.St->Hp->Prop),g v σ H Q->g v σ H λσ' H'=>Q σ' H'/\σ'.length=σ.length/\∀(i:Nat) u,pick[i]?≠ζ ε->σ[i]? = ζ u->σ'[i]? = ζ u) (hs:∀x,IN wl X.env x=pure x)
  (hN:X.N.Nodup) (hx:X.N[i]? = ζ x) (hl:Loc X.env.scope x) (hf:X.fn x=δ\/X.env.scope.names.lookup x=ζ .local) (M2:W7 (.ListComp elt [⟨tg,wl,ifs,0⟩] scope pos) (ζ (.Name x pos')) Nj.line X.env=pure δ) :
  PS X (.Assign [.Name x pos'] (.ListComp elt [⟨tg,wl,ifs,0⟩] scope pos) Nj) (vG (wA pick wi g tt te) (kf i)):=by
 intro pins s σ H D I h;rw[exec_Assign_Name_used _ _ _ _ M2];refine ν (Xl (ν ?_));show υ _ X.A (do let _ <- comprehension (.ListComp elt [⟨tg,wl,ifs,0⟩] scope pos) scope X.env _ (newList []) γ (eval wl X.env) (ζ (Yb (.Name x pos') X.env))) _ _ s;refine ν (Λ (ZC (use:=ζ (Yb (.Name x pos') X.env)) (Q:=λ_ s'=>SP X pins D .next s') rfl hs (eQ S I.ok.has) S.kind S.names
  (bT (hi pins s σ H _ I h) λv s1 h1=>bT h1 λNH s2 h2=>?_)) (λ_ s' hq=>Ν (Ν hq)) λ_ _ e=>e)
 obtain⟨it,fp,tn,J,H2,e,I2,T,Ni,f2,q⟩:=h2;subst e;refine lB (RR:=λacc C=>compPost (Α X.prog X.w) X.A X.xe (ζ (Yb (.Name x pos') X.env)) (λ_ s'=>SP X pins D .next s') acc C) S hc LC gk I2 T Ni f2 (λx H1=>kf i x σ H1 D.nx) q λl C s' H' m hn fc hq J0=>?_
 obtain⟨o,es,ep,ho,hd,hr⟩:=id hn;have J1:=J0.pinned (fp:=[C]) (λb hb=>by rw[gr.mp hb];exact fc) λb hb=>by rw[gr.mp hb];exact⟨o,ho,λv z=>by rw[hd]at z;cases z⟩
 show υ (Α X.prog X.w) X.A (Yb (.Name x pos') X.env (.ref l)) _ _ s';refine ą (dC J1 hN hx hl (v:=.ref l) rfl (λs2 I2=>?_) hf);have RU:=(I2.pin (C,o) (ak _ (ak _ (eJ (by simp) ho)))).1;obtain⟨f0,f1,f2,f3,f4,f5⟩:=fc;refine⟨m,⟨o,es,ep,RU,hd,hr⟩,λh' sb=>?_⟩;exact⟨_,H',I2.IE.turned (t':=s2.toks) (λb o hb e=>sb.extBut b o hb e) f0 f1 f3 f4 f5,hq⟩
end
noncomputable def dQ(own:Nat)(pick:List Nat):List (Option Nat):=π own ε++pick.map ζ
theorem oF(σ:L2.St)(pk:List (Option Nat)):(eP σ pk).length=pk.length:=by simp[eP]
theorem my(env:En)(own:Nat)(pick:List Nat):(bG env own pick).length=own+pick.length:=by simp[bG]
noncomputable def m5(F:Nat->List ι)(env:En)(own:Nat)(pick:List Nat):Nat->List ι:=λi=>match(bG env own pick)[i]? with
 |some (ζ _)=>match pick[i-own]? with
  |some j=>F j
  |none=>[]
 |_=>[]
variable {own:Nat}{pick:List Nat}
theorem eD{env:En}{d:D}{t:Tg}(h:(bG env own pick)[i]? = ζ (ζ (d,t))):t=.sh []/\own<=i/\∃j t0,pick[i-own]? = ζ j/\env[j]? = ζ (ζ (d,t0)):=by
 unfold bG at h;by_cases hi:i<own
 .rw[Ψ (by simpa using hi),u8]at h;split at h<;>cases h
 .have hi:own<=i:=dw hi;rw[am (by simpa using hi),dg,τ]at h;cases hp:pick[i-own]? with
  |none=>rw[hp]at h;cases h
  |some j=>
   rw[hp]at h;simp only[cm,cz]at h;split at h
   .rename_i d0 t0 q;cases h;exact⟨rfl,hi,j,t0,rfl,q⟩
   .cases h
section
variable {K:Frag}{P:ι->Prop}{env:En}{σ:L2.St}{H:Hp}{F:Nat->List ι}
theorem RE.picked(re:RE K P env σ H F)(own:Nat)(pick:List Nat):RE K (λ_=>False) (bG env own pick) (eP σ (dQ own pick)) H (m5 F env own pick) where
 len:=by rw[my,oF];simp[dQ]
 val:=λi d t h=>by
  obtain⟨rfl,hi,j,t0,hp,he⟩:=eD h;obtain⟨v,e,r⟩:=re.val j d t0 he;refine⟨v,?_,?_⟩
  .unfold eP dQ;rw[τ,am (by simpa using hi),dg,τ,hp];simp[e]
  .unfold m5;rw[h,hp];exact r
 Li:=λi h=>by
  unfold m5;split
  .rename_i p q;exact absurd q (h p.1 p.2)
  .rfl
 one:=λi d t h o=>by
  obtain⟨rfl,_⟩:=eD h;cases o
 wr:=λi d h=>by
  obtain⟨q,_⟩:=eD h;cases q
 pl:=λ_ h=>h.elim
theorem vm(re:RE K P env σ H F)(h:a∈m5 F env own pick i):∃j∈pick,∃d t,a∈F j/\env[j]? = ζ (ζ (d,t)):=by
 unfold m5 at h;split at h
 .rename_i p q;obtain⟨_,hi,j,t0,hp,he⟩:=eD (d:=p.1) (t:=p.2) q;rw[hp]at h;exact⟨j,Ι hp,p.1,t0,h,he⟩
 .cases h
end
noncomputable def DG(K:Frag)(T:Tb):jS->TT
 |.none=>λ_ H Q=>Q δ H
 |.some c=>nr K T c
section
variable {X:Cx}{T:Tb}{scope:Db}{N':List Str}{own:Nat}{pick:List Nat}{t:kh}{it:oY}{c:jS}{e:Ex}
theorem C8{σ:L2.St}{Q:Bool->Hp->Prop}{P:ι->Prop}{env:En}{k:Bool}(re:RE X.K P env σ H F)(hk:jv T c env=.ok k)(q:∀H',aG H H'->Q k H'):DG X.K T c σ H Q:=by
 cases c with
 |none=>
  unfold jv at hk;cases hk;exact q H (aG.refl _)
 |some c=>
  unfold jv at hk;obtain⟨p,h1,h2⟩:=Rs.HY hk;exact⟨P,env,F,re,p,k,h1,bY h2,q⟩
inductive Vd(K:Frag) (f:D->Rs (Option (D×Rt))) (ds:List D) (L1:List (D×Rt)) (l:ι) (H1:Hp) (S0:ι->Prop) (i:Nat) (H2:Hp):Prop
 |mk (y0:i<=ds.length) (acc rest:List (D×Rt)) (vs:List V) (G:List ι) (y1:fH f (ds.drop i)=.ok rest) (y2:L1=acc++rest) (y3:acc.length<=i) (y4:H2 l=ζ (.lst vs)) (y5:aF K H2 (acc.map (·.1)) vs G) (y6:aG H1 H2) (y7:l∉G) (y8:∀a∈G,H1 a=ε\/S0 a) (y9:acc.all (λq=>q.1.flat || eV q.2)=δ->G.Nodup/\∀a∈G,H1 a=ε/\∃ws:ML,H2 a=ζ ws.o):Vd K f ds L1 l H1 S0 i H2
theorem nM{σ:L2.St}(h:tE X.K T (.comp own pick t it c e) σ H Q):wA (dQ own pick) (tI X.K T it) (pX X.K t) (DG X.K T c) (tE X.K T e) σ H Q:=by
 obtain⟨P,env,F,re,p0,HZ,k⟩:=h;unfold ev at HZ;obtain⟨p,h1,HZ⟩:=Rs.HY HZ;obtain⟨L1,h2,HZ⟩:=Rs.HY HZ;have LA:p.1.length<=lim:=ş λhn=>by rw[if_neg hn]at HZ;cases HZ
 rw[if_pos LA]at HZ;cases HZ;refine⟨P,env,F,re,p,h1,λJ H1 Gs s1 rt nn wk l hl=>?_⟩;have J4:=re.same s1;have wk:=wk (λa=>a∈Gs) λa ha=>ha
 let S0:ι->Prop:=λa=>a∈Gs\/∃j∈pick,∃d t,a∈F j/\env[j]? = ζ (ζ (d,t))
 have S0n:∀a,S0 a->H1 a≠ε:=λa ha=>by
  rcases ha with ha|⟨j,_,d,t,m,ej⟩
  .exact nn a ha
  .exact J4.nn ej m
 have lS:¬ S0 l:=λz=>S0n l z hl
 refine⟨λi m H2=>m=p.1.length-i/\Vd X.K (λd=>cZ (bP [] t d (bG env own pick)) (jv T c) (ev T e)) p.1 L1 l H1 S0 i H2,?_,?_⟩
 .refine⟨p.1.length,by simp,cf _,[],L1,[],[],by simpa using h2,rfl,ao _,aK,.nil,aG.new hl,by simp,λ_ h=>(nomatch h),λ_=>⟨bu,λ_ h=>(nomatch h)⟩⟩
 .rintro i m H2 ⟨rfl,hi,acc,rest,vs,G,K0,Lr,JV,NU,rs,s2,NT,hG,RA⟩;obtain⟨w1,w2⟩:=wk H2 (jJ.of_same (λa ha=>nn a ha) s2);by_cases Ip:i<p.1.length
  .right;have hd:p.1[i]? = ζ p.1[i]:=by simp[Ip]
   obtain⟨g1,g2⟩:=w1 i _ hd;refine⟨g1,Vd X.K (λd=>cZ (bP [] t d (bG env own pick)) (jv T c) (ev T e)) p.1 L1 l H1 S0 (i+1),λH3 q=>⟨p.1.length-(i+1),by omega,rfl,q⟩,λx H3 y=>?_⟩;obtain⟨s3,G3,Nn,JD⟩:=g2 x H3 y;rw[gg Ip]at K0;unfold fH at K0;obtain⟨o,IB,K0⟩:=Rs.HY K0;obtain⟨LM,IC,K0⟩:=Rs.HY K0;cases hb:bP [] t p.1[i] (bG env own pick)with
   |none=>rw[hb]at IB;cases IB
   |some JG=>
    rw[hb]at IB;unfold cZ at IB;obtain⟨kc,Rv,IB⟩:=Rs.HY IB;have rep:=(J4.same (s2.trans s3)).picked own pick;let Z:ι->Prop:=λa=>S0 a
    have zF:∀i,∀a∈m5 F env own pick i,Z a:=λi a ha=>by
     obtain⟨j,hj,d,t,m,ej⟩:=vm (J4.same (s2.trans s3)) ha;exact .inr ⟨j,hj,d,t,m,ej⟩
    refine lF (Z:=Z) rep zF Nn (λa ha=>.inl (JD a ha)) (λa ha j d' t' ej o m=>?_) hb λσ4 F4 LN z4 _=>?_
    .obtain⟨rfl,_⟩:=eD ej;cases o
    .refine C8 LN Rv λH5 s5=>?_
     have Ku:=s2.trans (s3.trans s5);have l5:H5 l=ζ (.lst vs):=s5 _ _ (s3 _ _ NU);cases kc with
     |false=>
      show if γ=δ then _ else _
      rw[if_neg bo];simp only[cx,if_false]at IB;cases IB;cases K0;refine⟨Ip,acc,LM,vs,G,IC,Lr,ê JV,l5,rs.same (s3.trans s5),Ku,NT,hG,λf=>?_⟩;obtain⟨n1,n2⟩:=RA f;exact⟨n1,λa ha=>⟨(n2 a ha).1,let ⟨ws,q⟩:=(n2 a ha).2;⟨ws,s5 _ _ (s3 _ _ q)⟩⟩⟩
     |true=>
      show if δ=δ then _ else _
      rw[if_pos rfl];simp only[if_true]at IB;obtain⟨q,hq,IB⟩:=Rs.HY IB;cases IB;cases K0;refine⟨_,JG,F4,LN.same s5,q,hq,λyv H6 Gy s6 Vy Vv=>?_⟩;have l6:H6 l=ζ (.lst vs):=s6 _ _ l5;have OH:=Ku.trans s6;have Nq:=s3.trans (s5.trans s6);have yS:∀a∈Gy,H5 a=ε\/S0 a:=λa ha=>(Vv.cont a ha).imp id λ⟨i,d,t,m,_⟩=>z4 i a m
      have ly:l∉Gy:=λz=>by
       rcases yS l z with q|q
       .rw[l5]at q;cases q
       .exact lS q
      have QI:vs.length=acc.length:=by have:=rs.len;rw[aj]at this;exact this.symm
      refine⟨vs,l6,gq (a8 (i6 QI) (a8 JV (gx (ax Ip LA)))) (by decide),Ip,acc ++ [q],LM,vs ++ [yv],G++(Gy ++ []),IC,by rw[Lr];simp,by simp;exact JV,aK,?_,?_,?_,?_,?_⟩
      .rw[dq];exact(aF.append (rs.same Nq) (.cons Vy .nil)).upd l6 (by simp;exact⟨NT,ly⟩)
      .intro b o e;rw[aE (λz=>by subst z;rw[hl]at e;cases e)];exact OH _ _ e
      .simp;exact⟨NT,ly⟩
      .intro a ha;rw[bh]at ha;rcases i9.mp ha with ha|ha
       .exact hG a ha
       .exact (yS a ha).imp (aG.no Ku) id
      .intro f;rw[List.all_append,ai]at f;obtain⟨n1,n2⟩:=RA f.1;have fy:Gy.Nodup/\∀a∈Gy,H5 a=ε/\∃ws:ML,H6 a=ζ ws.o:=by
        have f2:q.1.flat=δ\/eV q.2=δ:=by simpa using f.2
        rcases f2 with f2|f2
        .rw[Vy.flat f2];exact⟨bu,λ_ h=>(nomatch h)⟩
        .have:q.2=.mv []:=by
          cases hr:q.2 with
          |sh R=>rw[hr]at f2;cases f2
          |mv R=>cases R with
           |nil=>rfl
           |cons a b=>rw[hr]at f2;cases f2
         obtain⟨m1,m2,m3⟩:=Vv.mv [] this;refine⟨m1,λa ha=>⟨?_,m2 a ha⟩⟩;rcases m3 a ha with z|⟨_,_,_,z,_⟩
         .exact z
         .cases z
       rw[bh];refine⟨el.mpr ⟨n1,fy.1,λa ha b hb z=>?_⟩,λa ha=>?_⟩
       .subst z;obtain⟨_,ws,w⟩:=n2 a ha;have:=s5 _ _ (s3 _ _ w);rw[(fy.2 a hb).1]at this;cases this
       .have ne:a≠l:=λz=>by
         subst z;rcases i9.mp ha with ha|ha
         .exact NT ha
         .exact ly ha
        rcases i9.mp ha with ha|ha
        .obtain⟨u1,ws,w⟩:=n2 a ha;exact⟨u1,ws,by rw[aE ne];exact Nq _ _ w⟩
        .obtain⟨u1,ws,w⟩:=fy.2 a ha;exact⟨aG.no Ku u1,ws,by rw[aE ne];exact w⟩
  .left;have ei:i=p.1.length:=by omega
   subst ei;refine⟨w2,?_⟩;rw[i4]at K0;unfold fH at K0;cases K0;rw[bh]at Lr;subst Lr;refine k _ H2 (l::G) (s1.trans s2) (.lst (.inl NU) rs) ?_;have Pk:=aG.no s1 hl;cases hf:L1.all (λq=>q.1.flat || eV q.2)with
   |true=>
    obtain⟨n1,n2⟩:=RA hf;have new:∀a∈l::G,H a=ε:=λa ha=>by
     rcases c9.mp ha with rfl|ha
     .exact Pk
     .exact aG.no s1 (n2 a ha).1
    refine⟨λa ha=>.inl (new a ha),λR e=>⟨li.mpr ⟨NT,n1⟩,λa ha=>?_,λa ha=>.inl (new a ha)⟩⟩;rcases c9.mp ha with rfl|ha
    .exact⟨.l _,NU⟩
    .exact (n2 a ha).2
   |false=>
    refine⟨λa ha=>?_,λR e=>by cases e⟩;rcases c9.mp ha with rfl|ha
    .exact .inl Pk
    .rcases hG a ha with q|q|⟨j,hj,d,t,m,ej⟩
     .exact .inl (aG.no s1 q)
     .exact (rt.cont a q).imp id λ⟨i,d,t,x,y,z⟩=>⟨i,d,t,x,y,λr hr=>au _ (z r hr)⟩
     .refine .inr ⟨j,d,t,m,ej,λr hr=>ak _ ?_⟩;unfold n6;rw[List.mem_flatten];exact⟨be j t,gt.mpr ⟨j,hj,by rw[ej]⟩,hr⟩
theorem mS{t:kh}{pk:List (Option Nat)}(ht:∀i,(t=.nm i\/∃is,t=.tp is/\i∈is)->pk[i]? = ζ ε)(v:V)(σ:L2.St)(H:Hp)(Q:L2.St->Hp->Prop)(h:pX K t v σ H Q) :
  pX K t v σ H λσ' H'=>Q σ' H'/\σ'.length=σ.length/\∀(i:Nat) u,pk[i]?≠ζ ε->σ[i]? = ζ u->σ'[i]? = ζ u:=by
 cases t with
 |nm i=>exact⟨h,by simp,λj u hj e=>by rw[Θ];exact e;rintro rfl;exact hj (ht i (.inl rfl))⟩
 |tp is=>
  obtain⟨a,xs,e1,e2,e3,h⟩:=h;refine⟨a,xs,e1,e2,e3,?_⟩;have gen:∀(is:List Nat) (xs:List V) (σ1:L2.St),(∀i∈is,pk[i]? = ζ ε)->σ1.length=σ.length->(∀(i:Nat) u,pk[i]?≠ζ ε->σ[i]? = ζ u->σ1[i]? = ζ u)->gP is xs σ1 H Q->gP is xs σ1 H λσ' H'=>Q σ' H'/\σ'.length=σ.length/\∀(i:Nat) u,pk[i]?≠ζ ε->σ[i]? = ζ u->σ'[i]? = ζ u:=by
   intro is
   induction is with
   |nil=>intro xs σ1 _ hl hk h;exact⟨h.1,h.2,hl,hk⟩
   |cons j js ih=>
    intro xs σ1 hi hl hk h;obtain⟨v,r,e,h⟩:=h;refine⟨v,r,e,ih r (σ1.set j (ζ v)) (λi hm=>hi i (ae _ hm)) (by simp[hl]) (λi u NX e'=>?_) h⟩;rw[Θ];exact hk i u NX e';rintro rfl;exact NX (hi j ah)
  exact gen is xs σ (λi hm=>ht i (.inr ⟨is,rfl,hm⟩)) rfl (λ_ _ _ e=>e) h
end
inductive zP(K:Frag) (T:Tb) (x:Nat) (path:jS) (σ:L2.St) (H:Hp) (Q:VK):Prop
 |mk (P:_) (env:_) (F:_) (po:_) (v:_) (p:_) (y0:RE K P env σ H F) (y1:iX T path env=.ok po) (y2:σ[x]? = ζ (ζ v)) (y3:PV K H v po p) (y4:∀H',aG H H'->Q (.ref p) H'):zP K T x path σ H Q
def ma(K:Frag)(T:Tb)(x:Nat)(path:jS):TE:=λσ H Q=>zP K T x path σ H Q
section
variable {X:Cx}{T:Tb}{pos:W3}{i:Nat}{x:Str}
theorem Dz(hN:X.N[i]? = ζ x)(hv:zU X.env.scope x)(hd:(x==("__debug__" : Str))=γ) (IT:(x==("__classdict__" : Str))=γ):PE X (.Name x pos) (ma X.K T i .none):=by
 refine bB (oN hN hv hd IT) λσ H Q ⟨P,env,F,po,v,p,re,Kr,hv,pv,k⟩=>?_
 unfold iX at Kr;cases Kr;cases pv;exact⟨_,hv,k H (aG.refl _)⟩
theorem A7(hN:X.N[i]? = ζ x)(hv:zU X.env.scope x)(hd:(x==("__debug__" : Str))=γ) (IT:(x==("__classdict__" : Str))=γ) (he:PE X e (tE X.K T c)) (hs:kA e):PE X (.Subscript (.Name x pos') e pos) (ma X.K T i (.some c)):=by
 refine bB (CF (tG.or xF) (oN hN hv hd IT) he hs) λσ H Q ⟨P,env,F,po,v,p,re,Kr,hv,pv,k⟩=>?_
 unfold iX at Kr;obtain⟨q,h1,Kr⟩:=Rs.HY Kr;cases hq:q.1 with
 |int j=>
  rw[hq]at Kr;cases Kr;refine⟨v,hv,P,env,F,re,q,h1,λw H1 G s L4 Vx=>?_⟩;rw[hq]at L4;obtain⟨rfl,_⟩:=L4.int_inv;cases pv with
  |item h hj e=>
   rename_i r ws n;have KG:A8 ws j=ζ (.ref p):=by
    unfold A8;rw[<-zE,hj];exact e
   rcases h with h|h
   .exact .inl ⟨r,ws,j,.ref p,rfl,rfl,.inl (aG.rd s h),KG,k H1 s⟩
   .exact .inr ⟨r,ws,j,.ref p,rfl,rfl,aG.sqT s h,KG,k H1 s⟩
 |_=>rw[hq]at Kr;cases Kr
end
inductive B3(K:Frag) (m:qW) (x:V) (vs:List V) (H:Hp) (Q:VK):Prop
 |mk (l:_) (ws:_) (xs:_) (ds:_) (Gx:_) (G:_) (ys:_) (y0:x=.ref l) (y1:H l=ζ (.lst ws)) (y2:aF K H xs ws Gx) (y3:aF K H ds vs G) (y4:yL m xs ds=ζ ys) (y5:ys.length<=lim) (y6:l∉Gx) (y7:l∉G) (y8:Gx.Nodup) (y9:∀us Gy v,aF K (upd H l (.lst us)) ys us Gy->(∀a∈Gy,a∈Gx\/(m.II=γ/\a∈G))->((∀a∈Gx,a∉G)->G.Nodup\/m.II=δ->Gy.Nodup)->Q v (upd H l (.lst us))):B3 K m x vs H Q
def As(K:Frag)(m:qW):V->List V->Hp->VK->Prop:=λx vs H Q=>B3 K m x vs H Q
variable {T:Tb}{path:jS}
section
variable {X:Cx}
def zw:V->List V->Hp->VK->Prop:=λx vs H Q=>∃l b xs zs,x=.ref l/\vs=[.ref b]/\H l=ζ (.lst xs)/\Rd H b (.lst zs)/\xs.length+zs.length<=Ζ/\Q .Ii (upd H l (.lst (xs++zs)))
theorem rQ:PH X "list.extend" zw:=by
 intro pins s σ H x vs v us Q I rx rv h;obtain⟨l,b,xs,zs,rfl,rfl,hH,hB,hz,q⟩:=h;cases rx;obtain⟨u,rfl,ru⟩:=rv.one;cases ru;obtain⟨z,its,n,r,hl,e⟩:=I.NC hH;obtain⟨z2,Ke,n2,r2,NU,e2⟩:=Inv.Lp I hB;have hsz:its.toArray.size+Ke.toArray.size<=Ζ:=by rw[aq,aq];omega
 have KY:¬ (!its.toArray.isEmpty&&Re (its.toArray.size+Ke.toArray.size))=δ:=by
  rw[pI hsz,Bool.and_false];exact bo
 refine Zh F.slot_list_extend ⟨_,e,rfl⟩ F.entry_list_extend (F.args_list_extend_2 _ _)
  (Ť l its.toArray n b Ke.toArray n2 KY (by rw[aq];omega) (by omega)) ⟨e,e2,?_⟩
 refine⟨.Ii,_,I.ND (its':=its++Ke) hH e (by simp) (r.append r2) ?_,rfl,q⟩;rw[aw];omega
theorem sf:PH X "list.append" (As X.K .append):=by
 intro pins s σ H x vs v us Q I rx rv h;obtain⟨l,ws,xs,ds,Gx,G,ys,rfl,hl,r1,r2,hm,hlen,n1,n2,nd,k⟩:=h
 match ds,hm with
 |[d],hm=>
  cases hm;obtain⟨y,rfl,rp⟩:=r2.Ji;refine nF pins s σ H _ _ v us Q I rx rv ⟨l,ws,y,rfl,rfl,hl,?_,k (ws ++ [y]) (Gx++(G ++ [])) _ ?_ (λa ha=>?_) λdj o=>?_⟩
  .rw[<-r1.len];simp only[aw,jb]at hlen;exact ax (ax (g6 _) hlen) oX
  .exact (r1.append (.cons rp .nil)).upd hl (by simp;exact⟨n1,n2⟩)
  .simp at ha;exact ha.imp id λz=>⟨rfl,z⟩
  .rcases o with o|o
   .rw[bh];exact el.mpr ⟨nd,o,λa ha b hb z=>by subst z;exact dj a ha hb⟩
   .cases o
theorem rW:PH X "list.extend" (As X.K .extend):=by
 intro pins s σ H x vs v us Q I rx rv h;obtain⟨l,ws,xs,ds,Gx,G,ys,rfl,hl,r1,r2,hm,hlen,n1,n2,nd,k⟩:=h
 match ds,hm with
 |[.lst zs],hm=>
  have hm:(if D.Ig zs then ζ (xs++zs)else ε)=ζ ys:=hm;by_cases hf:D.Ig zs=δ
  .rw[if_pos hf]at hm;cases hm;obtain⟨y,rfl,rp⟩:=r2.Ji;obtain⟨b,wz,gz,rfl,rfl,a1,a2⟩:=rp.lst_inv;have eg:gz=[]:=a2.flat hf;subst eg;refine rQ pins s σ H _ _ v us Q I rx rv ⟨l,b,ws,wz,rfl,rfl,hl,a1,?_,k (ws++wz) (Gx ++ []) _ ?_ (λa ha=>?_) λ_ _=>?_⟩
   .rw[<-r1.len,<-a2.len];simp only[aw]at hlen;exact a8 hlen oX
   .exact (r1.append a2).upd hl (by simp;exact n1)
   .simp at ha;exact .inl ha
   .rw[bh];exact nd
  .rw[if_neg hf]at hm;cases hm
theorem wF{m:qW}{D:Ends}{σ:L2.St}(h:tS X.K T (.mut i path m cs) D σ H):Cu (OP X.K "list" (As X.K m) (ma X.K T i path) (qV X.K T cs)) D σ H:=by
 obtain⟨P,Z,env,F,re,hz,zp,h⟩:=h;unfold cP at h;cases hx:ownAt env i with
 |none=>rw[hx]at h;exact h.elim
 |some d=>
  rw[hx]at h;obtain⟨po,Kr,h⟩:=bW h;cases KG:d.Jn po with
  |none=>rw[KG]at h;exact h.elim
  |some xs=>
   rw[KG]at h;obtain⟨l,hl,h⟩:=bW h;cases hm:yL m xs (l.map (·.1))with
   |none=>rw[hm]at h;exact h.elim
   |some ys=>
    rw[hm]at h;have Jp:=eM hx;obtain⟨v,hv,_⟩:=re.val i d .own Jp;obtain⟨p,pv,f⟩:=nH re hx hv KG;refine⟨P,env,F,po,v,p,re,Kr,hv,pv,λH1 s1=>?_⟩;obtain⟨ws1,g1,e1,_⟩:=f H1 s1;refine⟨.inl ⟨rfl,ws1,.inl (.inl e1)⟩,P,env,F,re.same s1,l,hl,λvs H2 G ar=>?_⟩;have s2:=s1.trans ar.same;obtain⟨ws,Gx,a1,a2,a3,a4,a5,a6,fs⟩:=f H2 s2;by_cases KR:(aR (l.map (·.2))).contains i=δ
    .simp only[KR,if_true]at h;exact h.elim
    simp only[KR,if_false]at h;have MP:∀a∈F i,a∉G:=λa ha hg=>by
     rcases ar.cont a hg with q|⟨j,d2,t2,m2,e2,sr⟩
     .exact (re.same s1).nn Jp ha q
     .exact KR (by simpa using sr i ((re.one i d .own Jp rfl).2.2 a ha j d2 t2 e2 m2))
    have nG:=MP p a3;refine⟨p,ws,xs,l.map (·.1),Gx,G,ys,rfl,a1,a2,ar.Io,hm,vz h,a6,nG,a5,λus Gy w rs sub nd=>?_⟩;refine qE (N:=if m.II then[]else G) re hz zp s2 hx hv a3 (λR hR VL=>?_) (λhN Po=>?_) h
    .cases hc:m.II with
     |true=>exact⟨bu,λ_ h=>(nomatch h),λ_ h=>(nomatch h)⟩
     |false=>
      rw[hc]at hR;obtain⟨n1,n2,n3⟩:=Args.mv (re.same s1) ar hR VL;exact⟨n1,n2,λa ha=>(n3 a ha).imp (aG.no s1) id⟩
    .have ngy:Gy.Nodup:=nd (λa ha=>MP a (a4 a ha)) (by
      cases hc:m.II with
      |true=>exact .inr rfl
      |false=>rw[hc]at Po;exact .inl Po)
     obtain⟨G',b1,b2,b3⟩:=fs ys us Gy rs ngy (λz=>(sub p z).elim a6 λq=>nG q.2) λa ha=>(sub a ha).imp id λq z=>MP a z q.2
     refine⟨G',b1,b2,λa ha=>?_⟩;rcases b3 a ha with q|q
     .exact .inl q
     .rcases sub a q with z|⟨z1,z2⟩
      .exact .inl (a4 a z)
      .rw[z1];exact .inr z2
theorem wx{e:Ex}{D:Ends}{σ:L2.St}(h:tS X.K T (.Ir i path c e) D σ H):vG (tE X.K T e) (GD (ma X.K T i path) (tE X.K T c) Cp) D σ H:=by
 obtain⟨P,Z,env,F,re,hz,zp,h⟩:=h;unfold cP at h;cases hx:ownAt env i with
 |none=>rw[hx]at h;exact h.elim
 |some d=>
  rw[hx]at h;obtain⟨q,hq,h⟩:=bW h;obtain⟨po,Kr,h⟩:=bW h;cases KG:d.Jn po with
  |none=>rw[KG]at h;exact h.elim
  |some xs=>
   rw[KG]at h;obtain⟨qi,hqi,h⟩:=bW h;cases Q6:qi.1 with
   |int n=>
    rw[Q6]at h;cases hj:iZ xs.length n with
    |none=>simp only[hj]at h;exact h.elim
    |some j=>
     simp only[hj]at h;have Jp:=eM hx;obtain⟨v,hv,_⟩:=re.val i d .own Jp;refine⟨P,env,F,re,q,hq,λw H1 G s1 rp rt=>?_⟩;have J4:=re.same s1;obtain⟨p,pv,f⟩:=nH J4 hx hv KG;refine⟨P,env,F,po,v,p,J4,Kr,hv,pv,λH2 s2=>⟨P,env,F,J4.same s2,qi,hqi,λwi H3 Gi s3 L4 Vx=>?_⟩⟩;rw[Q6]at L4;obtain⟨rfl,_⟩:=L4.int_inv;obtain⟨ws,Gx,a1,a2,a3,a4,a5,a6,fs⟩:=f H3 (s2.trans s3);have jl:=ED hj;refine⟨p,ws,n,j,rfl,rfl,a1,by rw[<-a2.len];exact hj,?_⟩;have Q3:∀R,q.2=.mv R->i∉R->∀a∈F i,a∉G:=λR hr hiR a ha hg=>by
      rcases rt.cont a hg with z|⟨k,d2,t2,m2,e2,sr⟩
      .exact re.nn Jp ha z
      .have:=sr i ((re.one i d .own Jp rfl).2.2 a ha k d2 t2 e2 m2);rw[hr]at this;exact hiR this
     have Qf:=s2.trans s3;refine qE (N:=G) re hz zp (s1.trans Qf) hx hv a3 (λR hR VL=>?_) (λhN Po=>?_) h
     .have hr:q.2=.mv R:=by
       cases hr:q.2 with
       |sh Q=>rw[hr]at hR;cases hR
       |mv Q=>rw[hr]at hR;simp[dB]at hR;rw[hR]
      obtain⟨n1,n2,n3⟩:=rt.mv R hr;exact⟨n1,λa ha=>let ⟨ws,z⟩:=n2 a ha;⟨ws,Qf _ _ z⟩,n3⟩
     .obtain⟨u,A,B,C,e1,e2,r1,g⟩:=a2.split (i:=j) (d:=xs[j]) (ω jl);subst e2;have M4:p∉G:=λz=>hN p z a3
      have pAC:∀b∈A++C,b≠p:=λb hb z=>by
       rw[z]at hb;refine a6 ?_;rcases i9.mp hb with hb|hb
       .exact au _ hb
       .exact ak _ (ak _ hb)
      have rs:=g (upd H3 p (.lst (ws.set j w))) q.1 w G (λ_ _=>kI a1) (jf (ws:=.l _) a1) (λb hb _ h=>(aE (pAC b hb)).trans h) ((rp.same Qf).upd a1 M4);have ME:∀a∈A++(G++C),a∈A++(B++C)\/a∈G:=λa ha=>by
       simp only[i9]at ha ⊢;rcases ha with ha|ha|ha
       .exact .inl (.inl ha)
       .exact .inr ha
       .exact .inl (.inr (.inr ha))
      have ng:(A++(G++C)).Nodup:=by
       rw[el]at a5;obtain⟨nA,nB,NA⟩:=a5;rw[el]at nB;obtain⟨_,nC,_⟩:=nB;rw[el];refine⟨nA,el.mpr ⟨Po,nC,λa ha b hb z=>?_⟩,λa ha b hb z=>?_⟩
       .subst z;exact hN a ha (a4 a (by simp[hb]))
       .subst z;rcases i9.mp hb with hb|hb
        .exact hN a hb (a4 a (by simp[ha]))
        .exact NA a ha a (by simp[hb]) rfl
      obtain⟨G',b1,b2,b3⟩:=fs (xs.set j q.1) (ws.set j w) _ rs ng (λz=>(ME p z).elim a6 M4) λa ha=>(ME a ha).imp id λz y=>hN a z y
      refine⟨G',b1,b2,λa ha=>?_⟩;rcases b3 a ha with z|z
      .exact .inl z
      .exact (ME a z).imp (a4 a) id
   |_=>rw[Q6]at h;exact h.elim
end
section
variable {X:Cx}
noncomputable def iR:List String:=["int","bool","list"]
theorem ty_type{T:String}(h:T∈iR):Ļ (.type T)=pure (.type "type"):=by
 simp only[iR,c9,br,or_false]at h;rcases h with rfl|rfl|rfl<;>kernel_rfl
inductive Ce(K:Frag) (xs:List V) (H:Hp) (Q:VK):Prop
 |mk (x:_) (T:_) (d:_) (G:_) (y0:xs=[x,.ty T]) (y1:T∈iR) (y2:((∀kvs,d≠.JI kvs)/\(∀ks,d≠.IA ks)/\∀ks,d≠.IK ks)) (y3:Rep K H d x G) (y4:Q (.bl (zG T d)) H):Ce K xs H Q
def Hb(K:Frag):List V->Hp->VK->Prop:=λxs H Q=>Ce K xs H Q
theorem jO:dH X (.builtin "isinstance") (Hb X.K):=by
 intro pins s σ H xs us Q I r h;obtain⟨x,T,d,G,rfl,hT,KW,rp,q⟩:=h;obtain⟨u,w,rfl,rx,rt⟩:=r.two;obtain rfl:w=GM T:=rt;have Js:=ty_type hT;have yes:∀{Tx:String},s.TypeIs u Tx->isSubtype (.type Tx) (.type T)=pure δ->zG T d=δ->υ (Α X.prog X.w) X.A (call (.builtin "isinstance") [u,.type T]) (EP X pins σ Q) X.xe s:=λh1 h2 h3=>
  dL (isinstance_true Js h2) ⟨h1,⟨.bl δ,H,I,rfl,by rw[h3]at q;exact q⟩⟩
 have no:zG T d=γ->EP X pins σ Q (.bool γ) {s with toks:=s.toks+1}:=λh=>⟨.bl γ,H,I.tok _,rfl,by rw[h]at q;exact q⟩
 simp only[iR,c9,br,or_false]at hT;cases d with
 |JI kvs=>exact absurd rfl (KW.1 kvs)
 |IA ks=>exact absurd rfl (KW.2.1 ks)
 |IK ks=>exact absurd rfl (KW.2.2 ks)
 |Ii=>
  obtain⟨rfl,_⟩:=rp.JE;cases rx;rcases hT with rfl|rfl|rfl
  .exact dL (X1 (by decide) Js F.sub_NoneType_int) (no rfl)
  .exact dL (X1 (by decide) Js F.sub_NoneType_bool) (no rfl)
  .exact dL (X1 (by decide) Js F.sub_NoneType_list) (no rfl)
 |bl b=>
  obtain⟨rfl,_⟩:=rp.IJ;cases rx;rcases hT with rfl|rfl|rfl
  .exact yes (ZX s b) F.sub_bool_int rfl
  .exact yes (ZX s b) F.sub_bool_bool rfl
  .exact dL (isinstance_false_bool (by decide) Js F.sub_bool_list) (no rfl)
 |int i=>
  obtain⟨rfl,_⟩:=rp.int_inv;obtain⟨t,rfl⟩:=rx;rcases hT with rfl|rfl|rfl
  .exact yes (Zg s i t) F.sub_int_int rfl
  .exact dL (ý (by decide) Js F.sub_int_bool) (no rfl)
  .exact dL (ý (by decide) Js F.sub_int_list) (no rfl)
 |str z=>
  obtain⟨rfl,_⟩:=rp.str_inv;obtain⟨t,rfl⟩:=rx;rcases hT with rfl|rfl|rfl
  .exact dL (Ye (by decide) Js F.sub_str_int) (no rfl)
  .exact dL (Ye (by decide) Js F.sub_str_bool) (no rfl)
  .exact dL (Ye (by decide) Js F.sub_str_list) (no rfl)
 |lst ds=>
  obtain⟨p,vs,g,rfl,_,a1,_⟩:=rp.lst_inv;cases rx;obtain⟨its,_,pl,_⟩:=I.list (.inl a1);obtain⟨o,ho,hc,_⟩:=pl.isList;rcases hT with rfl|rfl|rfl
  .exact dL (ë (by decide) Js F.sub_list_int) ⟨⟨o,ho,hc⟩,no rfl⟩
  .exact dL (ë (by decide) Js F.sub_list_bool) ⟨⟨o,ho,hc⟩,no rfl⟩
  .exact yes ⟨o,ho,hc⟩ F.sub_list_list rfl
 |tup ds=>
  obtain⟨p,vs,rfl,a1,_⟩:=rp.Im;cases rx;obtain⟨its,_,pl,_⟩:=I.tuple a1;obtain⟨o,ho,hc,_⟩:=pl;rcases hT with rfl|rfl|rfl
  .exact dL (XU (by decide) Js F.sub_tuple_int) ⟨⟨o,ho,hc⟩,no rfl⟩
  .exact dL (XU (by decide) Js F.sub_tuple_bool) ⟨⟨o,ho,hc⟩,no rfl⟩
  .exact dL (XU (by decide) Js F.sub_tuple_list) ⟨⟨o,ho,hc⟩,no rfl⟩
theorem xY{b:String}{σ:L2.St}(hb:b∈iR)(h:tE X.K T (.blt (.Lq b) (.cons c .nil)) σ H Q):OO (Hb X.K) (uu (tE X.K T c) (uu (tC (.ty b)) AO)) σ H Q:=by
 obtain⟨P,env,F,re,p,HZ,k⟩:=h;unfold ev aT aT at HZ;obtain⟨l,h1,HZ⟩:=Rs.HY HZ;obtain⟨q,h2,h1⟩:=Rs.HY h1;cases h1;obtain⟨d',h3,HZ⟩:=Rs.HY HZ;have h3:eA (.Lq b) [q.1]=ζ d':=bY h3;have KW:(∀kvs,q.1≠.JI kvs)/\(∀ks,q.1≠.IA ks)/\∀ks,q.1≠.IK ks:=⟨λkvs e=>(by rw[e]at h3;cases h3),λkvs e=>(by rw[e]at h3;cases h3),λkvs e=>(by rw[e]at h3;cases h3)⟩;have hd:d'=.bl (zG b q.1):=by
  cases hq:q.1 with
  |JI kvs=>exact absurd hq (KW.1 kvs)
  |IA ks=>exact absurd hq (KW.2.1 ks)
  |IK ks=>exact absurd hq (KW.2.2 ks)
  |_=>rw[hq]at h3;cases h3;rfl
 subst hd;cases HZ;exact⟨P,env,F,re,q,h2,λv H1 G s rp rt=>⟨v,b,q.1,G,rfl,hb,KW,rp,k _ H1 [] s (.bl _) bH.nil⟩⟩
theorem qA:∀{r:List D},r.all D.JR=δ->∃bs:List Bool,r=bs.map D.bl
 |[],_=>⟨[],rfl⟩
 |x::r,ha=>by
  rw[g7,ai]at ha;obtain⟨bs,rfl⟩:=qA ha.2;cases x with
  |bl c=>exact⟨c::bs,rfl⟩
  |_=>cases ha.1
theorem all_range(bs:List Bool):(bv bs.length).all (λi=>bs[i]?.getD δ)=bs.all id:=by
 rw[ja,cq,cq];constructor
 .intro h x hx;obtain⟨i,hi,rfl⟩:=XQ.mp hx;have:=h i (by simpa using hi);simpa[hi]using this
 .intro h i hi;have hi:i<bs.length:=by simpa using hi
  simpa[hi]using h bs[i] (c7 hi)
theorem lQ:∀{ds:List D}{b:Bool},allB ds=ζ b->ds.all D.JR=δ->∃bs:List Bool,ds=bs.map D.bl/\b=bs.all id
 |[],b,h,_=>by cases h;exact⟨[],rfl,rfl⟩
 |.bl c::r,b,h,ha=>by
  have N6:r.all D.JR=δ:=by simpa[D.JR]using ha
  cases c with
  |false=>
   cases h;have:=qA N6;obtain⟨bs,rfl⟩:=this;exact⟨γ::bs,rfl,by simp⟩
  |true=>
   obtain⟨bs,rfl,rfl⟩:=lQ (ds:=r) h N6;exact⟨δ::bs,rfl,by simp⟩
 |.Ii::r,b,h,_=>by cases h
 |.int _::r,b,h,_=>by cases h
 |.str _::r,b,h,_=>by cases h
 |.lst _::r,b,h,_=>by cases h
 |.tup _::r,b,h,_=>by cases h
theorem k9:∀{bs:List Bool}{vs:List V}{G:List ι}{us:List η},aF K H (bs.map D.bl) vs G->aL vs us->us=bs.map WW
 |[],_,_,_,.nil,.nil=>rfl
 |b::bs,_,_,_,.cons h r,.cons x y=>by
  obtain⟨rfl,_⟩:=h.IJ;cases x;rw[a9,<-k9 r y]
theorem uH(hc:X.calm=δ):dH X (.builtin "all") (mw X.K .all):=by
 intro pins s σ H xs us Q I r h;obtain⟨ds,d,G,rs,hd,k⟩:=h
 match ds,hd with
 |[.lst ys],hd=>
  simp only[eA,B8]at hd;by_cases hb:ys.all D.JR=δ
  .rw[if_pos hb,aa]at hd;obtain⟨b,Jz,rfl⟩:=hd;obtain⟨bs,rfl,rfl⟩:=lQ Jz hb;obtain⟨x,rfl,rp⟩:=rs.Ji;obtain⟨p,vs,g,rfl,rfl,a1,a2⟩:=rp.lst_inv;obtain⟨u,rfl,ru⟩:=r.one;cases ru;obtain⟨its,rv,pl,_⟩:=I.list (.inl a1);have ei:=k9 a2 rv;subst ei;have Ip:p<s.heap.objs.size:=by
    obtain⟨o,ho,_⟩:=pl.isList;exact ρ ho
   refine call_all_walk (Xd pl.isList ⟨s.heap.objs.size,[s.heap.objs.size,p],[s.heap.objs.size],(bs.map WW).toArray.size,_,_,λi=>bs[i]?.getD δ,rfl,YF (A:=X.A.in1) (show X.A.in1.handled=ε from I.ok.hd hc) s.heap.objs.size p (az Ip) (bs.map WW).toArray,⟨⟨_,Τ _ rfl,rfl,rfl⟩,pl.isList.at λo e=>ξ _ e⟩,λi v s' Q' E' hP hQ=>?_,λh' tk hk=>?_⟩)
   .have hP:(bs.map WW).toArray[i]? = ζ v:=hP;rw[Xa,τ,aa]at hP;obtain⟨b,e1,rfl⟩:=hP;have hQ:Q' (bs[i]?.getD δ) s':=hQ;rw[e1]at hQ;exact rc hQ
   .have e:(bv (bs.map WW).toArray.size).all (λi=>bs[i]?.getD δ)=bs.all id:=by
     simp only[aq,aj];exact all_range bs
    rw[e];refine⟨.bl (bs.all id),H,?_,rfl,k _ H [] (.bl _) eI.nil⟩;have I1:Inv X pins σ H {s with heap:=s.heap.push {cls:=.type "list_iterator",data:=.fields #[.ref p,.int 0 0]}}:=I.kept (t':=s.toks) λb o e=>ξ _ e
    obtain⟨f0,f1,f2,f3,f4,f5⟩:=I.Jt (b:=s.heap.objs.size) (ao _) (I.Ib.fresh (ao _));exact I1.turned (t':=tk) (λb o hb e=>hk b o (by simpa using hb) e) f0 f1 f3 f4 f5
  .rw[if_neg hb]at hd;cases hd
theorem mR:∀{ds:List D}{a r:Int},zM a ds=ζ r->∃ns:List Int,ds=ns.map D.int/\r=a+ns.sum
 |[],a,r,h=>by cases h;exact⟨[],rfl,by simp⟩
 |.int i::ds,a,r,h=>by
  obtain⟨ns,rfl,rfl⟩:=mR (ds:=ds) (a:=a+i) h;exact⟨i::ns,rfl,by rw[X2];omega⟩
 |.Ii::_,_,_,h=>by cases h
 |.bl _::_,_,_,h=>by cases h
 |.str _::_,_,_,h=>by cases h
 |.lst _::_,_,_,h=>by cases h
 |.tup _::_,_,_,h=>by cases h
theorem jo:∀{ns:List Int}{vs:List V}{G:List ι}{us:List η},aF K H (ns.map D.int) vs G->aL vs us->us.length=ns.length/\∀i u,us[i]? = ζ u->∃t,u=Ω (ns.getD i 0) t
 |[],_,_,_,.nil,.nil=>⟨rfl,λi u h=>by simp at h⟩
 |n::ns,_,_,_,.cons h r,.cons x y=>by
  obtain⟨rfl,_⟩:=h.int_inv;obtain⟨t,rfl⟩:=x;obtain⟨a,b⟩:=jo r y;refine⟨by simp[a],λi u h=>?_⟩;cases i with
  |zero=>simp at h;exact⟨t,by simp[<-h]⟩
  |succ i=>
   obtain⟨t',e⟩:=b i u (by simpa using h);exact⟨t',by simpa using e⟩
theorem uM(hc:X.calm=δ):dH X (.builtin "sum") (mw X.K .sum):=by
 intro pins s σ H xs us Q I r h;obtain⟨ds,d,G,rs,hd,k⟩:=h
 match ds,hd with
 |[.lst ys],hd=>
  simp only[eA,B2]at hd;rw[aa]at hd;obtain⟨b,Jz,rfl⟩:=hd;obtain⟨ns,rfl,rfl⟩:=mR Jz;obtain⟨x,rfl,rp⟩:=rs.Ji;obtain⟨p,vs,g,rfl,rfl,a1,a2⟩:=rp.lst_inv;obtain⟨u,rfl,ru⟩:=r.one;cases ru;obtain⟨its,rv,pl,_⟩:=I.list (.inl a1);obtain⟨hl,hv⟩:=jo a2 rv;have Ip:p<s.heap.objs.size:=by
   obtain⟨o,ho,_⟩:=pl.isList;exact ρ ho
  refine call_sum_walkG (Xd pl.isList ⟨s.heap.objs.size,[s.heap.objs.size,p],[s.heap.objs.size],its.toArray.size,_,_,λi=>ns.getD i 0,rfl,YF (A:=X.A.in1) (show X.A.in1.handled=ε from I.ok.hd hc) s.heap.objs.size p (az Ip) its.toArray,⟨⟨_,Τ _ rfl,rfl,rfl⟩,pl.isList.at λo e=>ξ _ e⟩,λb hb=>?_,λi v hP=>?_,λh' tk t' hk=>?_⟩)
  .simp only[c9,br,or_false]at hb;rw[Tl];rcases hb with rfl|rfl
   .exact g6 _
   .exact fu Ip
  .have hP:its.toArray[i]? = ζ v:=hP;rw[Xa]at hP;exact hv i v hP
  .rw[preSum_getD,aq,hl,List.take_length];refine⟨.int ns.sum,H,?_,⟨_,rfl⟩,by have:=k (.int (0+ns.sum)) H [] (.int _) eI.nil;rwa [Ě]at this⟩;have I1:Inv X pins σ H {s with heap:=s.heap.push {cls:=.type "list_iterator",data:=.fields #[.ref p,.int 0 0]}}:=I.kept (t':=s.toks) λb o e=>ξ _ e
   obtain⟨f0,f1,f2,f3,f4,f5⟩:=I.Jt (b:=s.heap.objs.size) (ao _) (I.Ib.fresh (ao _));exact I1.turned (t':=tk) (λb o hb e=>hk b o (by simpa using hb) e) f0 f1 f3 f4 f5
end
variable {ks:List (List Int)}{m:MV}{o:Expr}
section
variable {X:Cx}{T:Tb}
theorem uN{σ:L2.St}(h:tE X.K T .KC σ H Q):yM σ H Q:=by
 obtain⟨P,env,F,re,p,HZ,k⟩:=h;unfold ev at HZ;cases HZ;intro p hp;refine k _ _ [p] (aG.new hp) (.IA (ks:=[]) (xs:=[]) aK trivial) ⟨λa ha=>?_,λR hR=>⟨by simp,λa ha=>?_,λa ha=>?_⟩⟩
 .obtain rfl:=gr.mp ha;exact .inl hp
 .obtain rfl:=gr.mp ha;exact⟨.k _,aK⟩
 .obtain rfl:=gr.mp ha;exact .inl hp
theorem kD.map(k:Int)(hm:vO K H m v):∀{q:List (Int×MV)}{x:List (Key×V)},kD K H q x->kD K H (q.map λz=>if z.1=k then(z.1,m)else z) (x.map λz=>if z.1=kw k then(z.1,v)else z)
 |[],[],_=>trivial
 | (j,n)::q,p::x,⟨a,b,c⟩=>by
  refine⟨?_,?_,c.map k hm⟩
  .show (if p.1=kw k then(p.1,v)else p).1=kw (if j=k then(j,m)else(j,n)).1;rw[show(if p.1=kw k then(p.1,v)else p).1=p.1 by split<;>rfl,show(if j=k then(j,m)else(j,n)).1=j by split<;>rfl];exact a
  .show vO K H (if j=k then(j,m)else(j,n)).2 (if p.1=kw k then(p.1,v)else p).2;by_cases e:j=k
   .rw[if_pos e,if_pos (by rw[a,<-e])];exact hm
   .rw[if_neg e,if_neg (by rw[a];exactλz=>e (by injection z))];exact b
 |[],_::_,h=>h.elim
 |_::_,[],h=>h.elim
theorem kD.snoc(k:Int)(hm:vO K H m v):∀{q:List (Int×MV)}{x:List (Key×V)},kD K H q x->kD K H (q ++ [(k,m)]) (x ++ [(.inl k,v)])
 |[],[],_=>⟨rfl,hm,trivial⟩
 |_::_,_::_,⟨a,b,c⟩=>⟨a,b,c.snoc k hm⟩
 |[],_::_,h=>h.elim
 |_::_,[],h=>h.elim
theorem kD.put(k:Int){m:MV}(hm:vO K H m v){q:List (Int×MV)}{x:List (Key×V)}(h:kD K H q x):kD K H (Af q k m) (putK x (.inl k) v):=by
 unfold Af putK;rw[h.any k];split
 .exact h.map k hm
 .exact h.snoc k hm
theorem Ek(h:F9 d=ζ m)(r:Rep K H d v G):vO K H m v:=by
 cases d with
 |int i=>cases h;cases r;rfl
 |_=>cases h
theorem BN{o o':ML}(h:H p=ζ o.o)(b:ι)(vs:List V)(t:j8 K H b vs):j8 K (upd H p o'.o) b vs:=by
 rcases t with t|t
 .refine .inl ((aE λe=>?_).trans t);subst e;rw[h]at t;cases o<;>cases t
 .exact .inr t
theorem AR(ks:List (List Int))(n:List Int):putK (rG ks) (n.map .inl) (.bl δ)=rG (sD ks n):=by
 unfold putK sD;rw[oB];split
 .unfold rG;rw[gc];refine gj λk _=>?_
  show(if(k.map kw:List Key)=n.map kw then((k.map kw:List Key),V.bl δ)else(k.map kw,V.bl δ))=_;split<;>rfl
 .unfold rG;rw[dq];rfl
theorem tL{P:ι->Prop}{env:En}{σ:L2.St}(re:RE K P env σ H F){ks:List (Int×MV)}(hx:env[i]? = ζ (ζ (.IA ks,.own))):∃p xs,σ[i]? = ζ (ζ (.ref p))/\F i=[p]/\H p=ζ (.dK xs)/\kD K H ks xs:=by
 obtain⟨v,hv,rp⟩:=re.val i _ _ hx;obtain⟨_,lv,_⟩:=re.one i _ _ hx rfl;generalize hF:F i=G at rp lv;cases rp with
 |@IA p _ xs h kr=>exact⟨p,xs,hv,rfl,h,kr⟩
theorem Bb{P:ι->Prop}{env:En}{σ:L2.St}(re:RE K P env σ H F)(hx:env[i]? = ζ (ζ (.IK ks,.own))):∃p,σ[i]? = ζ (ζ (.ref p))/\F i=[p]/\H p=ζ (.dT (rG ks)):=by
 obtain⟨v,hv,rp⟩:=re.val i _ _ hx;obtain⟨_,lv,_⟩:=re.one i _ _ hx rfl;generalize hF:F i=G at rp lv;cases rp with
 |@IK p _ h=>
  refine⟨p,hv,rfl,?_⟩;obtain⟨vs,q⟩:=lv p (by simp);rcases h with h|⟨o,h⟩
  .exact h
  .rw[q]at h;cases vs<;>cases h
theorem uv{q:ι}{i:Int}(hp:iL i j=δ)(h:j8 K H q [.int i,.int j]):H q=ζ (.tup ([i,j].map (kV∘kw))):=by
 rcases h with h|⟨h,_⟩
 .exact h
 .have h:iL i j=γ:=h;rw[hp]at h;cases h
theorem yZ{σ:L2.St}(I:Inv X pins σ H s)(e:H a=ζ (.dK [])):Inv X pins σ (upd H a (.dT [])) s:=by
 obtain⟨z,hd,vs,rel,o,es,ep,h1,h2,h3,h4,h5,h6⟩:=yk I.Ib e;cases rel;have NY:es.toList=[]:=by
  cases q:es.toList with
  |nil=>rfl
  |cons x r=>rw[q]at h5;cases h5
 exact kH (t':=s.toks) I (by rw[e];exact Xr) ⟨rfl,λ_ _=>rfl⟩ ⟨o,h1⟩ ⟨cf _,hd,[],.nil,o,es,ep,h1,h2,h3,NY,bu⟩
def B6(H:Hp)(a:ι)(y v:V)(H':Hp):Prop:=mI H a y v H'\/∃k b,H a=ζ (.dK [])/\y=.ref b/\H b=ζ (.tup (k.map kV))/\H'=upd H a (.dT (putK [] k v))
def wM(td ty tv:TE):TS:=λD σ H=>tv σ H λv H1=>td σ H1 λx H2=>ty σ H2 λy H3=>∃a H4,x=.ref a/\B6 H3 a y v H4/\D.nx σ H4
theorem Bi(H:Hp)(a:ι)(o o':HO):upd (upd H a o) a o'=upd H a o':=by
 funext b;by_cases h:b=a
 .subst h;rw[aK,aK]
 .rw[aE h,aE h,aE h]
theorem xy{i value:Expr}{td ty tv:TE}(hu:X.A.units+1<W8)(ho:PE X o td)(hi:PE X i ty)(hv:PE X value tv)(hs:W7 value (ζ (.Subscript o i pos')) pos.line X.env=pure γ) :
  PS X (.Assign [.Subscript o i pos'] value pos) (wM td ty tv):=by
 intro pins s σ H D I h;refine wpAny_Assign_Subscript (bT (hv pins s σ H _ I h) λr s1 ⟨v,H1,I1,rv,q1⟩=>bT (ho pins s1 σ H1 _ I1 q1) λu s2 ⟨x,H2,I2,rx,q2⟩=>bT (hi pins s2 σ H2 _ I2 q2) λiv s3 ⟨y,H3,I3,ry,a,H4,ex,g,q3⟩=>?_) hs;subst ex;obtain rfl:u=Μ a:=rx;rcases g with g|⟨k,b,e1,e2,e3,e4⟩
 .exact m6 hu I3 g ry rv λs4 I4=>⟨σ,H4,I4,q3⟩
 .subst e2 e4;have hb:b≠a:=λz=>by subst z;rw[e1]at e3;cases e3
  refine m6 hu (yZ I3 e1) (mI.t (kvs:=[]) aK (by rw[aE hb];exact e3) (by decide)) ry rv λs4 I4=>⟨σ,_,I4,?_⟩
  rw[Bi];exact q3
theorem qJ(h:qg d=δ):d=.bl δ:=by
 unfold qg at h;split at h
 .rfl
 .cases h
theorem yC{P:ι->Prop}{env:En}{σ:L2.St}(re:RE K P env σ H F){d' y u:D}(hx:env[i]? = ζ (ζ (d,.own)))(hp:sT d y u=ζ d') :
  ∃p,∃m:ML,σ[i]? = ζ (ζ (.ref p))/\F i=[p]/\H p=ζ m.o/\∀H3 wi Gi wv Gv,aG H H3->Rep K H3 y wi Gi->Rep K H3 u wv Gv->∃m':ML,B6 H3 p wi wv (upd H3 p m'.o)/\Rep K (upd H3 p m'.o) d' (.ref p) [p]:=by
 cases d with
 |IA ks=>
  have hp:DO ks y u=ζ d':=hp;unfold DO at hp;cases hy:B1 y with
  |some q=>
   obtain⟨n,rfl⟩:=q;rw[hy]at hp;dsimp only at hp;by_cases hl:ks.length<lim
   .rw[if_pos hl,aa]at hp;obtain⟨mv,hmv,rfl⟩:=hp;obtain⟨p,xs,hv,hF,hH,kr⟩:=tL re hx;refine⟨p,.k xs,hv,hF,hH,λH3 wi Gi wv Gv sm rp ru=>?_⟩;have h3:H3 p=ζ (ML.k xs).o:=sm _ _ hH;have kr3:=kr.keep λ_ _=>aG.MY sm
    have mr:=Ek hmv ru;obtain⟨rfl,_⟩:=rp.int_inv;refine⟨.k (putK xs (.inl n) wv),.inl (mI.k (k:=.inl n) h3 ?_),.IA aK ((kr3.put n mr).keep λb vs=>BN (o':=.k _) h3 b vs)⟩;rw[kr.len,wE];unfold lim at hl;omega
   .rw[if_neg hl]at hp;cases hp
  |none=>
   rw[hy]at hp;dsimp only at hp;rw[ag]at hp;obtain⟨⟨⟨a,b⟩,rfl⟩,_,hp⟩:=hp;by_cases ht:(ks.isEmpty&&(qg u&&iL a b))=δ
   .rw[if_pos ht]at hp;cases hp;rw[ai,ai]at ht;obtain⟨he,h1,h2⟩:=ht;obtain rfl:=qJ h1;obtain rfl:=Xz.mp he;obtain⟨p,xs,hv,hF,hH,kr⟩:=tL re hx;cases xs with
    |cons _ _=>exact kr.elim
    |nil=>
     refine⟨p,.k [],hv,hF,hH,λH3 wi Gi wv Gv sm rp ru=>⟨.t (rG [[a,b]]),.inr ?_,.IK (.inl aK)⟩⟩;obtain⟨q,vs,rfl,a1,a2⟩:=rp.Jg;obtain⟨rfl,rfl⟩:=kC a2;cases ru;exact⟨[a,b].map kw,q,sm _ _ hH,rfl,uv h2 a1,rfl⟩
   .rw[if_neg ht]at hp;cases hp
 |IK ks=>
  have hp:C5 ks y u=ζ d':=hp;unfold C5 at hp;rw[ag]at hp;obtain⟨⟨⟨a,b⟩,rfl⟩,_,hp⟩:=hp;by_cases ht:((qg u&&iL a b)&&decide (ks.length<lim))=δ
  .rw[if_pos ht]at hp;cases hp;rw[ai,ai]at ht;have hl:=bg ht.2;obtain rfl:=qJ ht.1.1;obtain⟨p,hv,hF,hH⟩:=Bb re hx;refine⟨p,.t (rG ks),hv,hF,hH,λH3 wi Gi wv Gv sm rp ru=>⟨.t (rG (sD ks [a,b])),.inl ?_,.IK (.inl aK)⟩⟩;obtain⟨q,vs,rfl,a1,a2⟩:=rp.Jg;obtain⟨rfl,rfl⟩:=kC a2;cases ru;show mI H3 p _ _ (upd H3 p (.dT (rG (sD ks [a,b]))));rw[<-AR];refine mI.t (sm _ _ hH) (uv ht.1.2 a1) ?_;unfold rG;rw[aj,wE];unfold lim at hl;omega
  .rw[if_neg ht]at hp;cases hp
 |_=>cases hp
theorem uV{e:Ex}{D:Ends}{σ:L2.St}(h:tS X.K T (.JN i c e) D σ H):wM (ma X.K T i .none) (tE X.K T c) (tE X.K T e) D σ H:=by
 obtain⟨P,Z,env,F,re,hz,zp,h⟩:=h;unfold cP at h;cases hx:ownAt env i with
 |none=>rw[hx]at h;exact h.elim
 |some d=>
  rw[hx]at h;obtain⟨u,hu,h⟩:=bW h;obtain⟨q,hq,h⟩:=bW h;cases hp:sT d q.1 u.1 with
  |none=>rw[hp]at h;exact h.elim
  |some d'=>
   rw[hp]at h;have Jp:=eM hx;obtain⟨p,m,hv,hF,hH,inv⟩:=yC re Jp hp;refine⟨P,env,F,re,u,hu,λwv H1 Gv s1 rpv rtv=>⟨P,env,F,ε,.ref p,p,re.same s1,by unfold iX;rfl,hv,.top p,λH2 s2=>⟨P,env,F,re.same (s1.trans s2),q,hq,λwi H3 Gi s3 L4 Vx=>?_⟩⟩⟩;have e:=(s1.trans s2).trans s3;have Wa:H3 p=ζ m.o:=e _ _ hH;obtain⟨m',i1,i2⟩:=inv H3 wi Gi wv Gv e L4 (rpv.same (s2.trans s3));refine⟨p,upd H3 p m'.o,rfl,i1,?_⟩;have V9:p∈F i:=by rw[hF];simp
   have J4:=re.same e;have Qp:=J4.Ko (vs:=m') (R:=[]) (N:=[]) (G:=[p]) (d':=d') Jp hv V9 i2 (by simp) (λa ha=>.inl (by rw[hF];exact ha)) (λa ha=>nomatch ha);have QB:¬ P p:=re.wr i _ Jp p V9;refine h σ _ _ ⟨Qp,λj a ha=>?_,(jJ.of_same re.pl e).trans ⟨λa z=>aE (λq=>QB (q ▸ z)),λb xs r=>?_,jf Wa⟩,λj dj ej=>?_⟩
   .unfold mJ at ha;split at ha
    .exact hz i a (by rw[hF];exact ha)
    .split at ha
     .exact hz j a ha
     .cases ha
   .refine (aE (λq=>?_)).trans r;subst q;rw[Wa]at r;cases m<;>cases r
   .by_cases hj:j=i
    .subst hj;rw[Β (by rw[eU];exact(χ.mp Jp).1)]at ej;cases ej
    .rw[Θ (cj hj)]at ej;refine⟨(dA ej).1,?_⟩;unfold mJ;rw[if_neg hj,ej]
theorem nR{K:Frag}{H:Hp}:∀ks:List (Int×MV),aF K H (ks.map λq=>D.int q.1) (ks.map λq=>V.int q.1) []
 |[]=>.nil
 |k::ks=>.cons (G:=[]) (G':=[]) (.int k.1) (nR ks)
theorem mM:∀{ks:List (Int×MV)}{xs:List (Key×V)}{vs:List (Key×η)}{us:List η},kD K H ks xs->KV xs vs->us.length=vs.length->(∀(j:Nat) u,us[j]? = ζ u->∃k x,vs[j]? = ζ (k,x)/\(aM P w).is k u=δ)->aL (ks.map λq=>V.int q.1) us
 |[],[],_,us,_,r,hl,_=>by
  cases r;rw[XA.mp hl];exact .nil
 |[],_::_,_,_,h,_,_,_=>h.elim
 |_::_,[],_,_,h,_,_,_=>h.elim
 | (k,m)::ks,x::xs,_,us,⟨M5,_,kr⟩,r,hl,h=>by
  have r:X9 _ (x::xs) _:=r;cases r with
  |@cons _ q _ qs h1 t=>
   cases us with
   |nil=>cases hl
   |cons u us=>
    obtain⟨k',y,e,hk⟩:=h 0 u rfl;have e:ζ q=ζ (k',y):=e;cases e;have h1:x.1=k':=h1.1;rw[M5]at h1;have h1:(kw k:Key)=k':=h1;subst h1;obtain⟨i,t',e1,e2⟩|⟨x',t',e1,_⟩:=bJ (show lA (.inl k) u=δ from hk)
    .cases e1;exact .cons ⟨t',e2⟩ (mM kr t (gw hl) λj u hu=>h (j+1) u hu)
    .cases e1
theorem sN(hc:X.calm=δ):dH X (.type "list") (mw X.K .list):=by
 intro pins s σ H xs us Q I r h;obtain⟨ds,d,G,rs,hd,k⟩:=h;by_cases hm:∃ks,ds=[.IA ks]
 .obtain⟨ks,rfl⟩:=hm;have hd:(if ks.length<=lim then ζ (D.lst (ks.map λq=>D.int q.1))else ε)=ζ d:=hd;by_cases hl:ks.length<=lim
  .rw[if_pos hl]at hd;cases hd;obtain⟨x,rfl,rp⟩:=rs.Ji;obtain⟨u,rfl,rx⟩:=r.one;cases rp with
   |@IA p _ xs hr kr=>
    obtain rfl:u=.ref p:=rx;obtain⟨z,lo,vs,rel,dd⟩:=tY I.Ib (.inl hr);obtain⟨ep,KG⟩:=dd.dictAt;have hlen:vs.length=ks.length:=by rw[<-rel.length,kr.len]
    refine PySem.W.kdl_call (PySem.W.kdl_dict (knd:=aM X.prog X.w) (kvs:=vs) (ep:=ep) lo) (I.ok.hd hc) KG (by rw[hlen,wE];unfold lim at hl;omega) λh' tk acc c hk hD JV=>?_
    have hv:aL (ks.map λq=>V.int q.1) acc.toList:=mM kr rel (by rw[et];exact JV.1) λj u hu=>JV.2 j u (by rw[<-XF];exact hu)
    refine⟨.ref s.heap.objs.size,upd H s.heap.objs.size (.lst (ks.map λq=>V.int q.1)),I.laid hk (ao _) ⟨by rw[aj,wE];unfold lim at hl;omega,acc.toList,c,hv,by rw[hD,Array.toArray_toList]⟩,rfl,?_⟩;obtain⟨n1,n2⟩:=fZ (G0:=[p]) (nR (K:=X.K) (H:=H) ks) (λa ha=>nomatch ha) I.fresh;exact k _ _ _ n1 n2
  .rw[if_neg hl]at hd;cases hd
 .exact qz I r rs hd k λks e=>hm ⟨ks,e⟩
end
theorem bU.JQ{h:Υ}{o:HO}(x:bU P w H h a o):∃ob,h.get? a=ζ ob:=by
 cases o with
 |lst xs=>obtain⟨_,_,_,_,e⟩:=x;exact⟨_,e⟩
 |tup xs=>obtain⟨_,_,_,ob,e,_⟩:=x;exact⟨_,e⟩
 |dK kvs=>obtain⟨_,_,_,_,o,_,_,e,_⟩:=x;exact⟨_,e⟩
 |dT kvs=>obtain⟨_,_,_,_,o,_,_,e,_⟩:=x;exact⟨_,e⟩
 |set S n=>obtain⟨o,_,_,_,e,_⟩:=x;exact⟨_,e⟩
 |ins C dx fs=>obtain⟨_,_,_,e,_⟩:=x;exact⟨_,e⟩
 |own y=>obtain⟨_,e⟩:=x;exact⟨_,e⟩
 |xd fs=>obtain⟨_,⟨_,_,_,e,_⟩,_⟩:=x;exact⟨_,e⟩
 |OS lo hi=>obtain⟨_,_,_,e⟩:=x;exact⟨_,e⟩
 |JA ob u=>obtain⟨e,_⟩:=x;exact⟨_,e⟩
 |LL ps=>exact⟨_,(show h.get? a=ζ _ from x)⟩
 |met f y=>exact⟨_,(show h.get? a=ζ _ from x)⟩
 |ext φ=>obtain⟨_,⟨_,e⟩,_⟩:=x;exact⟨_,e⟩
theorem ya{σ:L2.St}{m:Str->Option η}{B:ι}{o:HO}{t':Nat}(I:Inv X pins σ H s)(hn:s.heap.Ns X.env.locals m)(Kz:h'.Ns X.env.locals m)
  (k:∀b o,b≠X.env.locals->s.heap.get? b=ζ o->h'.get? b=ζ o) (hB:∀b o,s.heap.get? b=ζ o->b≠B) (new:bU X.prog X.w (upd H B o) h' B o):Inv X pins σ (upd H B o) {s with heap:=h',toks:=t' }:=by
 have Ms:H B=ε:=by
  cases e:H B with
  |none=>rfl
  |some u=>
   obtain⟨ob,q⟩:=bU.JQ (I.Ib B u e);exact absurd rfl (hB B ob q)
 have nL:∀b u,H b=ζ u->b≠X.env.locals:=λb u e z=>by rw[z,I.free]at e;cases e
 refine I.step (g':=s.gens) (d':=s.drawn) (ch:=[]) (λb hb=>nomatch hb) (λb o' hL _ _ e _=>k b o' hL e) (λb o' hL _ _ e _=>⟨o'.slots,k b o' hL e⟩) (λb o' _ e n=>by rw[aE (hB b o' e)];exact n) (λb o' _ e=>?_)
  (λb xs e=>by rw[aE (bO e Ms)];exact e) (λb ob u e=>by rw[aE (bO e Ms)];exact e) (λb ps e=>⟨#[],by rw[aE (bO e Ms),e];simp⟩) (λm' hm=>?_) (λb u e=>?_) I.bare
 .by_cases hL:b=X.env.locals
  .subst hL;obtain⟨o2,_,_,q,_⟩:=Kz;exact⟨o2,q⟩
  .exact⟨o',k b o' hL e⟩
 .obtain⟨o1,es,ep,e1,e2,e3,e4⟩:=hn;obtain⟨o2,OA,Pt,f1,f2,f3,f4⟩:=hm;rw[e1]at f1;cases f1;rw[e2]at f2;cases f2;have:m'=m:=funext λx=>by rw[<-f4 x,e4 x]
  rw[this];exact Kz
 .by_cases hb:b=B
  .subst hb;rw[aK]at e;cases e;exact new
  .rw[aE hb]at e;refine(I.Ib b u e).Iy (λc v hc q=>k c v ?_ q) (λc q=>?_) λc xs q=>?_
   .rcases hc with z|z
    .rw[z];exact nL b u e
    .exact nL c _ z
   .rw[aE (bO q Ms)];exact q
   .rw[aE (bO q Ms)];exact q
section
variable {prog:Ε}{w:Ξ}{A:Ρ}
theorem wm{Q:Bool->θ->Prop}{fin:Bool}:∀{us ws:List η}{a b:List Int}(i:Nat),On us a->On ws b->fin=decide (us.length<ws.length)->Q (eN a b) s->PySem.W.KatLex prog w A δ fin Q (us.zip ws) i s
 |_,_,_,_,i,.nil,.nil,hf,h=>by
  have:fin=γ:=by rw[hf];rfl
  subst this;exact h
 |_,_,_,_,i,.nil,.cons _ _ r,hf,h=>by
  have:fin=δ:=by rw[hf];simp
  subst this;exact h
 |_,_,_,_,i,.cons _ _ r,.nil,hf,h=>by
  have:fin=γ:=by rw[hf];simp
  subst this;exact h
 |_,_,_,_,i,.cons (ns:=a) x t r,.cons (ns:=b) y u r',hf,h=>by
  rw[X5];refine PySem.W.kat_cons (Ē ?_);by_cases e:(x==y)=δ
  .rw[e];refine PySem.W.kat_yes (wm (i+1) r r' ?_ ?_)
   .rw[hf];simp only[av];exact decide_eq_decide.mpr (by omega)
   .have:eN (x::a) (y::b)=eN a b:=by
     show(if x==y then eN a b else decide (x<y))=_;rw[if_pos e]
    rw[this]at h;exact h
  .have e':(x==y)=γ:=by simpa using e
   rw[e'];have hx:eN (x::a) (y::b)=decide (x<y):=by
    show(if x==y then eN a b else decide (x<y))=_;rw[if_neg e]
   rw[hx]at h;refine PySem.W.kat_no ?_;by_cases hi:i=0
   .subst hi;exact oneLt_int h
   .have:(δ&&i==0)=γ:=by simp[hi]
    rw[this];exact PySem.W.kat_one _ _ (wpAny_lt_int h)
def Ba(h:Υ)(v:η)(k:List Int):Prop:=∃a o its n,v=.ref a/\h.get? a=ζ o/\o.cls=.type "tuple"/\o.data=.seq its n/\On its.toList k
theorem Eo{vs:List η}{j:Nat}{a b:List Int}{C:Bool->θ->Prop}(hv:∀i k,ks[i]? = ζ k->Ba s.heap (vs.getD i .none) k)(ha:ks[i]? = ζ a)(hb:ks[j]? = ζ b)(h:C (eN a b) s) :
  ZY prog w A (tuples' δ) vs i j C s:=by
 obtain⟨x,ox,xs,n,e1,h1,_,d1,i1⟩:=hv i a ha;obtain⟨y,oy,ys,n',e2,h2,_,d2,i2⟩:=hv j b hb;unfold ZY;rw[e1,e2];exact PySem.W.kat_lt h1 d1 h2 d2 (wm 0 i1 i2 (by simp) h)
theorem zy{α:Type}{f:Nat->Nat->Option Bool}{cmp:Nat->Nat->(Bool->θ->Prop)->θ->Prop}(hf:∀i j b C,f i j=ζ b->C b s->cmp i j C s){Q:α->θ->Prop}:∀{t:ú α}{a:α},BE f t=ζ a->Q a s->t.kasWp cmp Q s
 |.ret x,a,h,q=>by
  cases h;exact q
 |.ask i j k,a,h,q=>by
  have h:((f i j).bind λb=>BE f (k b))=ζ a:=h;rw[ag]at h;obtain⟨b,h1,h2⟩:=h;exact hf i j b _ h1 (zy hf h2 q)
end
theorem mV:∀k:List Int,D.Ig (k.map D.int)=δ
 |[]=>rfl
 |_::k=>mV k
section
variable {X:Cx}{pins:List (ι×na)}{σ:L2.St}{H:Hp}{s:θ}
theorem jW(I:Inv X pins σ H s):∀{ys:List D}{ks:List (List Int)}{vs:List V}{G:List ι}{us:List η},me ys=ζ ks->aF X.K H ys vs G->aL vs us->ks.length=us.length/\(∀i k,ks[i]? = ζ k->Ba s.heap (us.getD i .none) k)/\(∀k∈ks,k≠[])/\G=[]
 |[],ks,_,_,_,h,.nil,.nil=>by
  cases h;exact⟨rfl,λi k h=>(by simp at h),λk h=>(nomatch h),rfl⟩
 |.tup xs::r,ks,_,_,_,h,.cons r1 r2,.cons (b:=u) v1 v2=>by
  have h:((vh xs).bind λk=>if k.isEmpty then ε else(me r).map (k :: ·))=ζ ks:=h;rw[ag]at h;obtain⟨k,h1,h2⟩:=h;by_cases he:k.isEmpty=δ
  .rw[if_pos he]at h2;cases h2
  .rw[if_neg he,aa]at h2;obtain⟨Mh,h3,rfl⟩:=h2;obtain⟨l,t,ne,g⟩:=jW I h3 r2 v2;have:=nE h1;subst this;have gf:=r1.flat (mV k);obtain⟨p,K9,rfl,a1,a2⟩:=r1.Im;obtain rfl:u=.ref p:=v1;obtain⟨its,rv,⟨o,e1,e2,n,e3⟩,_⟩:=I.tuple a1;refine⟨by simp[l],λi k' hk=>?_,λk' hk=>?_,by rw[gf,g];rfl⟩
   .cases i with
    |zero=>
     have hk:ζ k=ζ k':=hk;cases hk;exact⟨p,o,_,n,rfl,e1,e2,e3,tH a2 rv⟩
    |succ i=>exact t i k' hk
   .rcases c9.mp hk with rfl|hk
    .intro z;subst z;exact he rfl
    .exact ne k' hk
theorem kd{h:Υ}:∀{ks:List (List Int)}{us:List η},ks.length=us.length->(∀i k,ks[i]? = ζ k->Ba h (us.getD i .none) k)->(∀k∈ks,k≠[])->∃fs,PySem.W.KatTups h us fs/\fs.length=us.length/\∀v∈fs,∃i t,v=Ω i t
 |[],[],_,_,_=>⟨[],.nil,rfl,λ_ h=>(nomatch h)⟩
 |k::ks,u::us,hl,ht,hn=>by
  obtain⟨fs,f1,f2,f3⟩:=kd (ks:=ks) (us:=us) (gw hl) (λi k' h=>ht (i+1) k' h) λk' h=>hn k' (ae _ h)
  obtain⟨a,o,its,n,e1,e2,e3,e4,e5⟩:=ht 0 k rfl;have e1:u=.ref a:=e1;subst e1;have hk:=hn k (ah ..);cases k with
  |nil=>exact absurd rfl hk
  |cons x k=>
   obtain⟨l⟩:=its;cases e5 with
   |cons _ t r=>exact⟨_,.cons e2 e3 e4 (by rfl) f1,by simp[f2],λv hv=>by
     rcases c9.mp hv with rfl|hv
     .exact⟨x,t,rfl⟩
     .exact f3 v hv⟩
theorem nt:∀{ys:List D}{vs:List V},aF K H ys vs []->∀p:List Nat,aF K H (p.map λi=>ys.getD i .Ii) (p.map λi=>vs.getD i .Ii) []
 |ys,vs,r,[]=>.nil
 |ys,vs,r,i::p=>by
  refine .cons (G:=[]) (G':=[]) ?_ (nt r p);dsimp only;rw[ο,ο];cases h:ys[i]? with
  |none=>
   have:vs[i]? = ε:=by
    rw[YT]at h ⊢;rw[<-r.len];exact h
   rw[this];exact .Ii
  |some d=>
   obtain⟨v,G',e1,e2,e3⟩:=r.get h;rw[e1];obtain rfl:=ì.mp e3;exact e2
theorem nQ(r:aL vs us):∀p:List Nat,aL (p.map λi=>vs.getD i .Ii) (p.map λi=>us.getD i .none)
 |[]=>.nil
 |i::p=>by
  refine .cons ?_ (nQ r p);dsimp only;rw[ο,ο];cases h:vs[i]? with
  |none=>
   have:us[i]? = ε:=by
    rw[YT]at h ⊢;rw[<-r.length];exact h
   rw[this];exact(rfl:RelV .Ii .none)
  |some v=>
   obtain⟨u,e1,e2⟩:=r.get h;rw[e1];exact e2
end
section
variable {X:Cx}
theorem oo:dH X (.builtin "sorted") (mw X.K .sorted):=by
 intro pins s σ H xs us Q I r h;obtain⟨ds,d,G,rs,hd,k⟩:=h
 match ds,hd with
 |[.lst ys],hd=>
  have hd:(xU ys).map D.lst=ζ d:=hd;rw[aa]at hd;obtain⟨zs,hs,rfl⟩:=hd;unfold xU at hs;by_cases hl:2<=ys.length/\ys.length<64
  .rw[if_pos hl,ag]at hs;obtain⟨ks,hk,hs⟩:=hs;rw[ag]at hs;obtain⟨p,hp,hs⟩:=hs;by_cases hz:p.size<=64
   .rw[if_pos hz]at hs;cases hs;obtain⟨x,rfl,rp⟩:=rs.Ji;obtain⟨l,vs,g,rfl,rfl,a1,a2⟩:=rp.lst_inv;obtain⟨u,rfl,rx⟩:=r.one;obtain rfl:u=.ref l:=rx;obtain⟨its,rv,pl,_⟩:=I.list (.inl a1);obtain⟨kl,kt,kn,rfl⟩:=jW I hk a2 rv;have hlen:its.length=ys.length:=by rw[<-rv.length,<-a2.len]
    obtain⟨m,hn,_⟩:=id I.loc;have F:=Att.C7 hn;have N:News (Att.oj s.heap) X.env.locals s.heap (Att.ledger s.heap X.env.locals X.env.locals):=λ⟨a,o⟩ hp=>by
     obtain⟨n1,_,e⟩:=Att.gE.mp hp;exact⟨e,n1,Att.lD _ _⟩
    refine PySem.W.kat_sorted F N pl.isList (by omega) (by omega) λB e1 h' F' N' l1=>?_
    have keep:∀b o,b≠X.env.locals->s.heap.get? b=ζ o->h'.get? b=ζ o:=λb o hb e=>N'.get (ae _ (Att.gE.mpr ⟨hb,hb,e⟩))
    have Qz:∀{a:ι}{o:na}{its:Array η}{n:Nat},s.heap.get? a=ζ o->o.data=.seq its n->a≠X.env.locals:=λ{a o its n} e d z=>by
     obtain⟨o',es,ep,q1,q2,_⟩:=hn;rw[z,q1]at e;cases e;rw[q2]at d;cases d
    have VT:∀i k,ks[i]? = ζ k->Ba h' (its.getD i .none) k:=λi k h=>by
     obtain⟨a,o,it,n,q1,q2,q3,q4,q5⟩:=kt i k h;exact⟨a,o,it,n,q1,keep a o (Qz q2 q4) q2,q3,q4,q5⟩
    obtain⟨fs,f1,f2,f3⟩:=kd kl VT kn;refine PySem.W.kat_kind (s:={s with heap:=h' }) (T:=.type "int") f1 (by omega) (λv hv=>?_) rfl ?_
    .obtain⟨i,t,rfl⟩:=f3 v hv;exact(ě:PySem.W.Looks _ _ (pure (GM "int")) (GM "int"))
    .rw[hlen];refine zy (λi j b C hb hC=>?_) hp ?_
     .rw[ag]at hb;obtain⟨ka,e1,e2⟩:=hb;rw[aa]at e2;obtain⟨kb,e3,rfl⟩:=e2;exact Eo VT e1 e3 hC
     .refine č (s:={s with heap:=h' }) F' N' (.head λ⟨a,o⟩ hq=>az (l1 _ hq)) λh2 c F2 N2=>?_
      have hv:=nQ rv p.toList;have hB:∀b o,s.heap.get? b=ζ o->b≠B:=λb o e z=>by
       by_cases hb:b=X.env.locals
       .exact (N' _ (ah ..)).2.1 (z.symm.trans hb)
       .exact absurd z (az (l1 _ (Att.gE.mpr ⟨hb,hb,e⟩)))
      have hI:=ya (t':=s.toks) (o:=.lst (p.toList.map λi=>vs.getD i .Ii)) I hn F2.ns (λb o hb e=>N2.get (ae _ (Att.gE.mpr ⟨hb,hb,e⟩))) hB ⟨by rw[aj,et,wE];omega,_,c,hv,N2.get (ah ..)⟩;refine⟨.ref B,_,hI,rfl,?_⟩;have Ms:H B=ε:=by
       cases e:H B with
       |none=>rfl
       |some u=>
        obtain⟨ob,q⟩:=bU.JQ (I.Ib B u e);exact absurd rfl (hB B ob q)
      obtain⟨n1,n2⟩:=fZ (G0:=[l]) (nt a2 p.toList) (λa ha=>nomatch ha) Ms;exact k _ _ _ n1 n2
   .rw[if_neg hz]at hs;cases hs
  .rw[if_neg hl]at hs;cases hs
end
theorem vx{l:List D}(h:xP d=ζ l):d=.lst l\/∃y,d=.str y/\l=y.cps.toList.map λc=>D.str ⟨#[c]⟩:=by
 cases d<;>simp[xP]at h
 .exact .inr ⟨_,rfl,h.symm⟩
 .rw[h];exact .inl rfl
variable {tp:W3}
section
variable {X:Cx}{T:Tb}
theorem El{f:Expr}{d:Ex}{p:W3}(hg:Gl X "zip") (hm:X.mg "zip" = ε) (ha:PA X [e,f] (qV X.K T (.cons c (.cons d .nil)))) (hs:Δ [e,f] X.env=(γ,eval e X.env)::Δ [f] X.env) (IG:(Fa pos (Δ [f] X.env)).any (·.1)=γ):PI X (.Tuple elts x1 tp) (.Call (.Name "zip" p) [e,f] [] pos) (tI X.K T (.zip c d)):=by
 intro pins s σ H R I hq;obtain⟨P,env,F,re,q,HZ,k⟩:=hq;unfold cU at HZ;obtain⟨r,h1,HZ⟩:=Rs.HY HZ;obtain⟨t,h2,HZ⟩:=Rs.HY HZ;obtain⟨l,h3,HZ⟩:=Rs.HY HZ;obtain⟨m,h4,HZ⟩:=Rs.HY HZ;have h3:=mP (bY h3);have h4:=mP (bY h4);cases HZ;have hl:aT T (.cons c (.cons d .nil)) env=.ok [r,t]:=by unfold aT;rw[h1];unfold aT;rw[h2];unfold aT;rfl
 refine ľ (gJ I hg hm boot_zip (de (bT (ha pos pins s σ H (λvs H'=>∃G,Args X.K env F H H' [r,t] vs G) I ⟨P,env,F,re,[r,t],hl,λvs H' G ar=>⟨G,ar⟩⟩) λus s1 ⟨vs,H1,I1,r1,G,ar⟩=>?_) hs IG));have rs:aF X.K H1 [r.1,t.1] vs G:=ar.Io;rw[h3,h4]at rs;cases rs with
 |cons rp rs=>
  obtain⟨x',rfl,Kj⟩:=rs.Ji;obtain⟨a,vs,g,rfl,rfl,a1,a2⟩:=rp.lst_inv;obtain⟨a',K9,g',rfl,rfl,WN,a2'⟩:=Kj.lst_inv;obtain⟨u,v,rfl,ru,rv⟩:=r1.two;cases ru;cases rv;obtain⟨its,_,pl,_⟩:=I1.list (.inl a1);obtain⟨its',_,L6,_⟩:=I1.list (.inl WN);refine call_zip_2 pl.isList L6.isList λh' q1 q2 q3 q4 q5 q6 hk=>ę q1 ⟨_,_,_,_,H1,rfl,I1.kept (t':=s1.toks) hk,zL a a' s1.heap.objs.size,⟨q1,q2,⟨_,_,q3⟩,q4,q5⟩,λb hb=>?_,
   k _ H1 _ ar.same (jX ar λq hq=>by simpa[aR]using hq) (λb hb=>?_) λP' hP=>zf a1 a2 WN a2' hP⟩
  .simp only[c9,br,or_false]at hb;have hb:s1.heap.objs.size<=b:=Bj _ _ hb;exact I1.Jt hb (I1.Ib.fresh hb)
  .rcases i9.mp hb with hb|hb
   .exact rp.nn hb
   .exact Kj.nn hb
end
noncomputable def Fz(y:Str):It:=⟨λi H=>∃c,y.cps[i]? = ζ c,λi H v H'=>∃T c,v=.ref T/\H T=ε/\y.cps[i]? = ζ c/\H'=upd H T (.tup [.int i,.str ⟨#[c]⟩]),λi H=>i=y.cps.size⟩
def B9(ty:String)(y:Str)(t:XY):Prop:=∀{prog:Ε}{w:Ξ}{A:Ρ},A.handled=ε->∀(it:ι),Draws prog w A it [it] y.cps.size (λi v=>∃c u,y.cps[i]? = ζ c/\v=Xy {cps:=#[c]} u) λi h=>h.IsStrIter it ty y t i
theorem rH{ty:String}{y:Str}(S:B9 ty y t)(e it:ι)(Ly:e≠it):Turn P w K (.Tuple elts x1 pos) (Fz y) [e,it] e (λi h=>(∃old,IsEnum h e it (i:Nat) old)/\h.IsStrIter it ty y t i) where
 mem:=by simp
 obj:=λi h st b hb=>by
  obtain⟨⟨old,he⟩,hit⟩:=st;have hb:b=e\/b=it:=by simpa using hb
  rcases hb with rfl|rfl
  .exact⟨_,he,λv z=>by cases z⟩
  .obtain⟨o,e,c,d⟩:=hit;exact⟨o,e,λv z=>by rw[d]at z;cases z⟩
 keep:=λi h h' st k=>by
  obtain⟨⟨old,he⟩,⟨o,e1,r⟩⟩:=st;exact⟨⟨old,k e (by simp) _ he⟩,⟨o,k it (by simp) o e1,r⟩⟩
 item:=by
  intro X hP hw hK hc i pins s σ H E I hf st hg;subst hP hw hK;obtain⟨c,RN⟩:=hg;obtain⟨⟨old,he⟩,hit⟩:=st;have Mc:∀b∈[e,it],b<s.heap.objs.size:=λb hb=>by
   have hb:b=e\/b=it:=by simpa using hb
   rcases hb with rfl|rfl
   .exact ρ he
   .obtain⟨o,e,_⟩:=hit;exact ρ e
  have hi:i<y.cps.size:=(Da.mp RN).1;refine wpAny_pyNext_enum_itemD (S (A:=X.A.in1) (I.ok.hd hc) it) he hit hi Ly (by simpa using Ly) λx h' tk hx ho Mt hT hsz hk=>?_
  obtain⟨c',u,J8,rfl⟩:=hx;rw[RN]at J8;cases J8;have I2:Inv X pins σ (upd H s.heap.objs.size (.tup [.int i,.str ⟨#[c]⟩])) {s with heap:=h',toks:=tk+1}:=
   paired (ch:=[e,it]) I ⟨tk,rfl⟩ ⟨u,rfl⟩ hT (λb o hb q=>hk b o (λz=>hb (by simp[z])) (λz=>hb (by simp[z])) q) hf Mc
  have f2:∀b∈[e,it],gX X pins (upd H s.heap.objs.size (.tup [.int i,.str ⟨#[c]⟩])) b:=λb hb=>by
   obtain⟨f0,f⟩:=hf b hb;exact⟨by rw[aE (az (Mc b hb))];exact f0,f⟩
  refine⟨_,rfl,Zj (s:={s with heap:=h',toks:=tk+1}) ho λh2 M7 Mm=>?_⟩;refine⟨.ref s.heap.objs.size,_,gH (ch:=[e]) I2 (λb o hb q=>Mm.extBut b o (λz=>hb (by simp[z])) q) (λb hb=>f2 b (by simp at hb;simp[hb])),rfl,⟨_,c,rfl,I.fresh,RN,rfl⟩,⟨⟨_,by simpa using M7⟩,Mt.extBut Mm.extBut (cj Ly)⟩,λb hb=>(f2 b hb).1⟩
 done:=by
  intro X hP hw hK hc i pins s σ H E I hf st hg;subst hP hw hK;obtain⟨⟨old,he⟩,hit⟩:=st;have hg:i=y.cps.size:=hg;subst hg;exact wpAny_pyNext_enum_endD (S (A:=X.A.in1) (I.ok.hd hc) it) he hit λh' eb=>⟨rfl,gH (t':=s.toks) (ch:=[it]) I (λb o hb q=>eb b o (λz=>hb (by simp[z])) q) λb hb=>hf b (by simp at hb;simp[hb])⟩
 self:=λA i s Q E st h=>by
  obtain⟨⟨old,he⟩,_⟩:=st;exact XD he h
theorem qY{P:ι->Prop}{y:Str}:jq K P H0 (Fz y) ((y.cps.toList.map λc=>D.str ⟨#[c]⟩).zipIdx.map λq=>.tup [.int q.2,q.1]) []:=λH e=>by
 refine⟨λi d hd=>?_,show _=_ by rw[aj,ZU,aj,et]⟩;obtain⟨c,hc,rfl⟩:∃c,y.cps[i]? = ζ c/\d=.tup [.int i,.str ⟨#[c]⟩]:=by
  rw[τ,Zr,τ,XF]at hd;cases q:y.cps[i]? with
  |none=>rw[q]at hd;cases hd
  |some c=>rw[q]at hd;simp at hd;exact⟨c,rfl,hd.symm⟩
 refine⟨⟨c,hc⟩,λx H' ⟨T,c',e1,e2,e3,e4⟩=>?_⟩;subst e1 e4;rw[hc]at e3;cases e3;exact⟨aG.new e2,[]++([] ++ []),.tup (.inl aK) (.cons (.int _) (.cons (.str _) .nil)),λz hz=>by simpa using hz⟩
section
variable {X:Cx}{T:Tb}
theorem Aw{p:W3}(hg:Gl X "enumerate") (hm:X.mg "enumerate" = ε) (ha:PA X [e] (qV X.K T (.cons c .nil))) (hs:Δ [e] X.env=(γ,eval e X.env)::Δ [] X.env):PI X (.Tuple elts x1 tp) (.Call (.Name "enumerate" p) [e] [] pos) (tI X.K T (.enum c)):=by
 intro pins s σ H R I hq;obtain⟨P,env,F,re,q,HZ,k⟩:=hq;unfold cU at HZ;obtain⟨r,h1,HZ⟩:=Rs.HY HZ;obtain⟨l,h2,HZ⟩:=Rs.HY HZ;cases HZ;have hl:aT T (.cons c .nil) env=.ok [r]:=by unfold aT;rw[h1];unfold aT;rfl
 refine ľ (gJ I hg hm boot_enumerate (de (bT (ha pos pins s σ H (λvs H'=>∃G,Args X.K env F H H' [r] vs G) I ⟨P,env,F,re,[r],hl,λvs H' G ar=>⟨G,ar⟩⟩) λus s1 ⟨vs,H1,I1,r1,G,ar⟩=>?_) hs rfl));have rs:aF X.K H1 [r.1] vs G:=ar.Io;obtain⟨x,rfl,rp⟩:=rs.Ji;obtain⟨u,rfl,ru⟩:=r1.one;have fp:∀b∈[s1.heap.objs.size+1,s1.heap.objs.size],gX X pins H1 b:=λb hb=>by
  simp only[c9,br,or_false]at hb;have hb:s1.heap.objs.size<=b:=D7 _ _ hb;exact I1.Jt hb (I1.Ib.fresh hb)
 rcases vx (bY h2)with e2|⟨y,e2,rfl⟩
 .rw[e2]at rp;obtain⟨a,vs,g,rfl,rfl,a1,a2⟩:=rp.lst_inv;cases ru;obtain⟨its,rv,pl,hz⟩:=I1.list (.inl a1);exact call_enumerate_list pl.isList λh' he hit hsz hk=>XD he ⟨_,[s1.heap.objs.size+1,s1.heap.objs.size],_,_,H1,rfl,I1.kept (t':=s1.toks) hk,uI a _ _ (þ _),⟨⟨_,he⟩,hit⟩,fp,k _ H1 (a::g) ar.same (jX ar λq hq=>by simpa[aR]using hq) (λb hb=>rp.nn hb) λP' hP=>uS a1 a2 hP⟩
 .rw[e2]at rp;obtain⟨rfl,rfl⟩:=rp.str_inv;obtain⟨tk,rfl⟩:=ru;have dr:B9 (ť y) y tk:=by
   intro prog w A hA it;unfold ť;split
   .exact Draws.strAscii hA it y tk
   .exact Draws.strWide hA it y tk
  exact call_enumerate_str λh' he hit hsz hk=>XD he ⟨_,[s1.heap.objs.size+1,s1.heap.objs.size],_,_,H1,rfl,I1.kept (t':=s1.toks) hk,rH dr _ _ (þ _),⟨⟨_,he⟩,hit⟩,fp,k _ H1 [] ar.same (jX ar λq hq=>by simpa[aR]using hq) (λb hb=>(nomatch hb)) λP' hP=>qY⟩
end
section
variable {prog:Ε}{w:Ξ}{A:Ρ}{E:η->θ->Prop}{s:θ}
end
section
variable {X:Cx}{T:Tb}
end
theorem tV:∀(xs:List V) (us:List η),xs.length=us.length->(∀(i:Nat) (x:V),xs[i]? = ζ x->∃u,us[i]? = ζ u/\RelV x u)->aL xs us
 |[],[],_,_=>.nil
 |[],_::_,h,_=>by simp at h
 |_::_,[],h,_=>by simp at h
 |x::xs,u::us,h,f=>by
  obtain⟨u',e,r⟩:=f 0 x rfl;cases e;exact .cons r (tV xs us (by simpa using h) λi y hy=>by simpa using f (i+1) y (by simpa using hy))
theorem sx{a c:Int}{acc:Array η}(h:ItemsOf (λi v=>∃t,v=.int (a+i*c) t) acc n):aL (dE a c n) acc.toList:=by
 obtain⟨h1,h2⟩:=h;refine tV _ _ (by simp[dE,h1]) λi x hx=>?_
 unfold dE at hx;rw[τ,aa]at hx;obtain⟨k,hk,rfl⟩:=hx;obtain⟨hk1,KA⟩:=χ.mp hk;have NV:i<n:=by simpa using hk1
 have hik:k=i:=by rw[<-KA];simp
 subst hik;have Ip:k<acc.toList.length:=by simp[h1];exact NV
 refine⟨acc.toList[k],ω Ip,?_⟩;obtain⟨t,ht⟩:=h2 k acc[k] (by simp[h1,NV]);have:acc.toList[k]=acc[k]'(by simpa using Ip):=by simp
 rw[this,ht];exact⟨t,rfl⟩
section
variable {X:Cx}{T:Tb}
theorem nk{σ:L2.St}{E:η->θ->Prop}{u v:XY}(hc:X.calm=δ)(I:Inv X pins σ H s)(h1 : -(2 ^ 62)<=lo)(h2:lo<2 ^ 62)(h3 : -(2 ^ 62)<=hi)(h4:hi<2 ^ 62)(h5:hi-lo<=1000000)
  (q:∀l,H l=ε->Q (.ref l) (upd H l (.lst (dE lo 1 (hi-lo).toNat)))):υ (Α X.prog X.w) X.A (call (.type "list") [.ref s.heap.objs.size]) (EP X pins σ Q) E {s with heap:=s.heap.push {cls:=.type "range",data:=.fields #[.int lo t,.int hi u,.int 1 v]},toks:=tk}:=by
 have I1:Inv X pins σ H {s with heap:=s.heap.push {cls:=.type "range",data:=.fields #[.int lo t,.int hi u,.int 1 v]},toks:=tk}:=I.kept λb o e=>ξ _ e
 refine call_list_range (n:=(hi-lo).toNat) (I1.ok.hd hc) (Ì ..) (small_one h1 h2 h3 h4) (by rw[ő];split<;>omega) (by omega) λh' tk' U1 c' hk hS JV=>?_
 have hv:=sx JV;have h0:H (s.heap.push {cls:=.type "range",data:=.fields #[.int lo t,.int hi u,.int 1 v]}).objs.size=ε:=I1.fresh;have I2:=I1.laid (a:=(s.heap.push {cls:=.type "range",data:=.fields #[.int lo t,.int hi u,.int 1 v]}).objs.size) (o:=.lst (dE lo 1 (hi-lo).toNat)) (t':=tk') (h':=h') hk (ao _) ⟨by rw[jn];have:=oX;have:lim=1000000:=rfl;omega,U1.toList,c',hv,hS⟩;exact⟨.ref _,_,I2,rfl,q _ h0⟩
theorem uh{p q:W3}(hc:X.calm=δ)(hg:Gl X "list") (hm:X.mg "list" = ε) (Rz:Gl X "range") (Kf:X.mg "range" = ε) (ha:PA X es (qV X.K T cs)) (hs:∃e r,es=e::r/\Δ es X.env=(γ,eval e X.env)::Δ r X.env/\((Fa pos' (Δ r X.env)).any λx=>x.1)=γ) :
  PE X (.Call (.Name "list" p) [.Call (.Name "range" q) es [] pos'] [] pos) (tE X.K T (.blt .Kx cs)):=by
 intro pins s σ H Q I h;obtain⟨P,env,F,re,r,HZ,k⟩:=h;unfold ev at HZ;obtain⟨l,h1,HZ⟩:=Rs.HY HZ;obtain⟨d,h2,HZ⟩:=Rs.HY HZ;have h2:=bY h2;cases HZ;obtain⟨e,rs,rfl,hs1,Mm⟩:=hs;refine ľ (gJ I hg hm Ĝ (de ?_ rfl rfl));show υ _ _ (Z9 ((γ,eval (.Call (.Name "range" q) (e::rs) [] pos') X.env) :: [])) _ _ s;refine KM ?_;refine ľ (gJ I Rz Kf boot_range (de (bT (ha pos' pins s σ H (λvs H'=>∃G,Args X.K env F H H' l vs G) I ⟨P,env,F,re,l,h1,λvs H' G ar=>⟨G,ar⟩⟩) λus s1 ⟨vs,H1,I1,r1,G,ar⟩=>?_) hs1 Mm));have Nl:aF X.K H1 (l.map (·.1)) vs G:=ar.Io;generalize hl:l.map (·.1)=ds at h2 Nl
 match ds,h2 with
 |[.int n],h2=>
  simp only[eA,rh]at h2;by_cases hk:eK n=δ/\n<=1000000
  .rw[if_pos hk]at h2;cases h2;obtain⟨x,rfl,rp⟩:=Nl.Ji;obtain⟨rfl,rfl⟩:=rp.int_inv;obtain⟨u,rfl,t,rfl⟩:=r1.one;unfold eK at hk;simp only[decide_eq_true_eq]at hk;refine ŝ (W4 (nk hc I1 (by omega) (by omega) hk.1.1 hk.1.2 (by omega) λa h0=>?_));obtain⟨n1,n2⟩:=fZ (G0:=[]) (gC (K:=X.K) (H:=H1) 1 (n-0).toNat 0) (λz hz=>hz) h0;rw[Int.sub_zero]at n1 n2 ⊢;exact k _ _ _ (ar.same.trans n2.same) n1 (bH.new ar n2 λ_ z=>z)
  .rw[if_neg hk]at h2;cases h2
 |[.int a,.int b],h2=>
  simp only[eA,rh]at h2;by_cases hk:eK a=δ/\eK b=δ/\b-a<=1000000
  .rw[if_pos hk]at h2;cases h2;cases Nl with
   |cons ra Nl=>
    obtain⟨rfl,rfl⟩:=ra.int_inv;obtain⟨x,rfl,rp⟩:=Nl.Ji;obtain⟨rfl,rfl⟩:=rp.int_inv;obtain⟨u,w,rfl,⟨t,rfl⟩,⟨t',rfl⟩⟩:=r1.two;unfold eK at hk;simp only[decide_eq_true_eq]at hk;refine Ş (W4 (nk hc I1 hk.1.1 hk.1.2 hk.2.1.1 hk.2.1.2 hk.2.2 λc h0=>?_));obtain⟨n1,n2⟩:=fZ (G0:=[]) (gC (K:=X.K) (H:=H1) 1 (b-a).toNat a) (λz hz=>hz) h0;exact k _ _ _ (ar.same.trans n2.same) n1 (bH.new ar n2 λ_ z=>z)
  .rw[if_neg hk]at h2;cases h2
end
noncomputable def Bk(val:Nat->Int):Nat->Nat->Int->Int
 |0,_,m=>m
 |k+1,j,m=>Bk val k (j+1) (if val j > m then val j else m)
theorem tq:(toString "max" ++ toString ".loop" : String) = "max.loop":=by decide
theorem AF{E:η->θ->Prop}{a b:Int}{u:XY}{Q:η->θ->Prop}(h:Q (.bool (decide (a > b))) s):υ (Α prog w) A (WP .Gt (.int a t) (.int b u)) Q E s:=
 CmpOf.ints_gt (P:=λi v=>∃t,v=.int (if i=0 then a else b) t) (λi=>if i=0 then a else b) (λi v h=>h) 0 1 _ _ s Q E ⟨t,rfl⟩ ⟨u,rfl⟩ h
section
variable {prog:Ε}{w:Ξ}{A:Ρ}{R:Yu->θ->Prop}{it:ι}{fp wr:List ι}{n:Nat}{P:Nat->η->Prop}{J3:Nat->Υ->Prop}{dv:η}{bx:ι}
theorem Bn(W:ZT prog w A.in1 it fp wr n P J3)(val:Nat->Int)(Jb:∀i v,P i v->∃t,v=.int (val i) t)(hb:bx∉fp) :
  ∀(k j:Nat) (s:θ) (m:Int) (t:XY) (c:Nat),n-j=k->j<=n->J3 j s.heap->s.heap.get? bx=ζ {cls:=.type "list",dict:=ε,data:=.seq #[.int m t,.int m t] c,slots:=#[]} ->
  (∀hp tk t',(∀b o,b∉wr->b≠bx->s.heap.get? b=ζ o->hp.get? b=ζ o)->R (.ok (.ret (.int (Bk val k j m) t'))) {s with heap:=hp,toks:=tk}) ->
  Pi (Α prog w) A (.builtin "max.loop" ⟨[.ref it,.none,.ref bx],[("default",dv)]⟩) R s:=by
 have hw:bx∉wr:=λh=>hb (W.sub _ h)
 intro k
 induction k with
 |zero=>
  intro j s m t c hk hj st hB q;have e:j=n:=by omega
  subst e;refine SL YG (by
   rw[EQ No _];show υ _ A.in1 (Yk (.ref bx) >>= _) _ _ s;refine ν (WV hB rfl (ν (GE (W.done s _ _ st λhp tk Jk=>?_))));have JW:=Jk bx _ hw hB;show υ _ A.in1 (ZZ bx (λ_=>#[]) >>= _) _ _ _;exact ν (W5 JW rfl (ν (W9 (Ν (q _ tk t λb o h1 h2 e=>(Κ _ _ (cj h2)).trans (Jk b o h1 e)))))))
 |succ k ih=>
  intro j s m t c hk hj st hB q;have Ip:j<n:=by omega
  refine SL YG (by
   rw[EQ No _];show υ _ A.in1 (Yk (.ref bx) >>= _) _ _ s;refine ν (WV hB rfl (ν (GE (W.item j s _ _ Ip st λv hp tk hv Jo Jk=>?_))));have JW:=Jk bx _ hw hB;obtain⟨t2,rfl⟩:=Jb j v hv;show υ _ A.in1 (tryCatch (Yi [Ω (val j) t2,Ω (val j) t2] (WP .Gt (.int (val j) t2) (.int m t) >>= _)) _ >>= _) _ _ _;refine ν (GE (KE (ν (AF (ν (KE (rc (ν (W9 (Ν ?_))))))))));by_cases hg:val j > m
   .rw[bt hg];simp only[if_true];refine ν (W5 JW rfl (ν (W9 ?_)));rw[tq];refine Ν ⟨T0 No _,ih (j+1) _ (val j) t2 _ (by omega) Ip (W.frame _ _ _ Jo λb My o e=>(Κ _ _ (λh:bx=b=>hb (h ▸ My))).trans e) (f8 _ JW rfl) λLe KN t3 KA=>?_⟩;have:=q Le KN t3 λb o h1 h2 e=>KA b o h1 h2 ((Κ _ _ (cj h2)).trans (Jk b o h1 e))
    unfold Bk at this
    rwa [if_pos hg]at this
   .rw[bj hg];simp only[cx,if_false];refine ν (W9 ?_);rw[tq];refine Ν ⟨T0 No _,ih (j+1) _ m t c (by omega) Ip Jo JW λLe KN t3 KA=>?_⟩;have:=q Le KN t3 λb o h1 h2 e=>KA b o h1 h2 (Jk b o h1 e)
    unfold Bk at this
    rwa [if_neg hg]at this)
theorem wC(W:ZT prog w A.in1 it fp wr n P J3)(val:Nat->Int)(Jb:∀i v,P i v->∃t,v=.int (val i) t)(hb:bx∉fp){c:Nat}(st:J3 0 s.heap)(hB:s.heap.get? bx=ζ {cls:=.type "list",dict:=ε,data:=.seq #[] c,slots:=#[]})
  (q:∀r hp tk,(∀b o,b∉wr->b≠bx->s.heap.get? b=ζ o->hp.get? b=ζ o)->(n=0->r=dv)->(0<n->∃t,r=.int (Bk val (n-1) 1 (val 0)) t)->R (.ok (.ret r)) {s with heap:=hp,toks:=tk}) :
  Pi (Α prog w) A (.builtin "max.loop" ⟨[.ref it,.none,.ref bx],[("default",dv)]⟩) R s:=by
 have hw:bx∉wr:=λh=>hb (W.sub _ h)
 refine SL YG (by
  rw[EQ No _];show υ _ A.in1 (Yk (.ref bx) >>= _) _ _ s;rcases Nat.eq_zero_or_pos n with h0|h0
  .subst h0;refine ν (WV hB rfl (ν (GE (W.done s _ _ st λhp tk Jk=>?_))));refine ν (wpAny_rule ?_);exact Ν (q dv hp tk (λb o h1 h2 e=>Jk b o h1 e) (λ_=>rfl) λh=>absurd h (c8 0))
  .refine ν (WV hB rfl (ν (GE (W.item 0 s _ _ h0 st λv hp tk hv Jo Jk=>?_))));have JW:=Jk bx _ hw hB;obtain⟨t2,rfl⟩:=Jb 0 v hv;show υ _ A.in1 (ZZ bx (λ_=>#[Ω (val 0) t2,Ω (val 0) t2]) >>= _) _ _ _;refine ν (W5 JW rfl ?_);rw[tq];refine Ν ⟨T0 No _,Bn W val Jb hb (n-1) 1 _ (val 0) t2 _ rfl h0 (W.frame _ _ _ Jo λb My o e=>(Κ _ _ (λh:bx=b=>hb (h ▸ My))).trans e) (f8 _ JW rfl) λLe KN t3 KA=>?_⟩;exact q _ Le KN (λb o h1 h2 e=>KA b o h1 h2 ((Κ _ _ (cj h2)).trans (Jk b o h1 e))) (λh=>absurd h (by omega)) λ_=>⟨t3,rfl⟩)
end
theorem uZ(x d:η):Ł "max" ⟨[x],[("default",d)]⟩:=by unfold Ł;kernel_rfl
theorem ve{E:η->θ->Prop}{x dv:η}{Q:η->θ->Prop}
  (h:υ (Α prog w) A.in1 (Yc x) (λiv s₂=>∃it fp wr n P J3 val,iv=.ref it/\ZT prog w A.in1 it fp wr n P J3/\J3 0 s₂.heap/\(∀b∈fp,b<s₂.heap.objs.size)/\(∀i v,P i v->∃t,v=.int (val i) t) /\
   ∀r hp tk,(∀b o,b∉wr->s₂.heap.get? b=ζ o->hp.get? b=ζ o)->(n=0->r=dv)->(0<n->∃t,r=.int (Bk val (n-1) 1 (val 0)) t)->Q r {s₂ with heap:=hp,toks:=tk}) E s) :
  υ (Α prog w) A (call (.builtin "max") [x] [("default",dv)]) Q E s:=by
 refine UV (AC F.plain_max F.entry_max ?_);have hc:υ (Α prog w) A.in1 (XC.«max» ⟨[x],[("default",dv)]⟩) (λfin s'=>match fin with
   |.done f=>(match(ĝ f:Yu)with|.ok (.ret v)=>Q v s'|.ok _=>False|.error e=>E e s')
   |.again c=>c.quiet=δ/\Pi (Α prog w) A c (λr s2=>match r with|.ok (.ret v)=>Q v s2|.ok _=>False|.error e=>E e s2) s') E s:=by
  show υ _ A.in1 (GT "max" ["key","default"] 0 ⟨[],[("default",dv)]⟩ >>= _) _ _ s;refine ν (ÿ (show GT "max" ["key","default"] 0 ⟨[],[("default",dv)]⟩=pure [ε,ζ dv]from rfl) (ν (Ν (ν (Λ h (λiv s₂ h₂=>?_) λ_ _ e=>e)))));obtain⟨it,fp,wr,n,P,J3,val,rfl,W,st,RB,Jb,q⟩:=h₂;refine ν (XE ?_);rw[tq];refine Ν ⟨T0 No _,wC W val Jb (λhm=>c8 _ (RB _ hm)) (W.frame _ _ _ st λb _ o e=>ξ _ e) (Τ _ rfl) λr hp tk hk h0 h1=>?_⟩;exact q r hp tk (λb o N3 e=>hk b o N3 (az (ρ e)) (ξ _ e)) h0 h1
 have ha:=uZ x dv;simp only[WZ,F.kind_max];cases Ml:Y6 "max" with
 |none=>exact Ν hc
 |some sig=>
  simp only[Ł,Ml]at ha;have h2:XR "max" sig ⟨[x],[("default",dv)]⟩=pure ():=ha;show υ _ A.in1 (XR "max" sig ⟨[x],[("default",dv)]⟩) _ _ s;rw[h2];exact Ν hc
theorem lj:∀{xs:List D}{a b:Int},ni a xs=ζ b->∃ns:List Int,xs=ns.map .int
 |[],_,_,_=>⟨[],rfl⟩
 |.int i::r,a,b,h=>by
  obtain⟨ns,rfl⟩:=lj (xs:=r) (show ni (if i > a then i else a) r=ζ b from h);exact⟨i::ns,rfl⟩
theorem mQ(f:Nat->Int):∀(ns:List Int) (j:Nat) (a:Int),(∀i,i<ns.length->f (j+i)=ns.getD i 0)->ni a (ns.map .int)=ζ (Bk f ns.length j a)
 |[],_,_,_=>rfl
 |n::ns,j,a,h=>by
  have h0:=h 0 (by simp);simp only[Ğ,List.getD_cons_zero]at h0;show ni (if n > a then n else a) (ns.map .int)=ζ (Bk f ns.length (j+1) (if f j > a then f j else a));rw[h0];exact mQ f ns (j+1) _ λi hi=>by
   have:=h (i+1) (by simpa using hi);rw[ZD]at this;rw[<-this];congr 1;omega
variable {ca:Ex}
section
variable {X:Cx}{T:Tb}
theorem zX{a d:Expr}{cd:Ex}{p kp:W3}(hc:X.calm=δ)(hg:Gl X "max") (hm:X.mg "max" = ε) (ha:PE X a (tE X.K T ca)) (hd:PE X d (tE X.K T cd)) (hs:Δ [a] X.env=(γ,eval a X.env)::Δ [] X.env) :
  PE X (.Call (.Name "max" p) [a] [⟨ζ "default",d,kp⟩] pos) (tE X.K T (.blt .KQ (.cons ca (.cons cd .nil)))):=by
 intro pins s σ H Q I h;obtain⟨P,env,F,re,r,HZ,k⟩:=h;unfold ev aT aT aT at HZ;obtain⟨l,h1,HZ⟩:=Rs.HY HZ;obtain⟨pa,e1,h1⟩:=Rs.HY h1;obtain⟨l2,h3,h1⟩:=Rs.HY h1;obtain⟨pd,e2,h3⟩:=Rs.HY h3;cases h3;cases h1;obtain⟨dd,h2,HZ⟩:=Rs.HY HZ;have h2:=bY h2;cases HZ;refine lw (gJ I hg hm boot_max (Ī ?_ (by rw[hs];rfl) (by rw[hs];rfl)));rw[hs];show υ _ _ (Z9 ((γ,eval a X.env)::Fa pos (Δ [] X.env))) _ _ s;refine KM (bT (ha pins s σ H (λv H1=>∃G,aG H H1/\Rep X.K H1 pa.1 v G/\bH env F H pa.2 H1 G) I ⟨P,env,F,re,pa,e1,λv H1 G z1 z2 z3=>⟨G,z1,z2,z3⟩⟩) λu s1 ⟨va,H1,I1,r1,G1,sa,Vz,rta⟩=>?_);refine W4 (kws_cons (bT (hd pins s1 σ H1 (λv H2=>∃G,aG H1 H2/\Rep X.K H2 pd.1 v G/\bH env F H1 pd.2 H2 G) I1 ⟨P,env,F,re.same sa,pd,e2,λv H2 G z1 z2 z3=>⟨G,z1,z2,z3⟩⟩) λu2 s2 ⟨vd,H2,I2,r2,G2,sd,Qk,rtd⟩=>kws_nil ?_));have ar:Args X.K env F H H2 [pa,pd] [va,vd] (G1++(G2 ++ [])):=.cons sa Vz rta (.cons sd Qk rtd (.nil (aG.refl _)));have Nm:=Vz.same sd;have fin:∀ns:List Int,∀m:Int,pa.1=.lst (ns.map .int)->pd.1=.int m->dd=.int (match ns with|[]=>m|n::r=>Bk (λi=>(n::r).getD i 0) r.length 1 n)->υ (Α X.prog X.w) X.A (call (.builtin "max") [u] [("default",u2)]) (EP X pins σ Q) X.xe s2:=by
  intro ns m ea ed edd;rw[ea]at Nm;rw[ed]at Qk;obtain⟨b,vs,g,rfl,_,a1,a2⟩:=Nm.lst_inv;obtain⟨rfl,_⟩:=Qk.int_inv;cases r1;obtain⟨t,rfl⟩:=r2;obtain⟨its,rv,pl,_⟩:=I2.list (.inl a1);obtain⟨hl,hv⟩:=jo a2 rv;have Ip:b<s2.heap.objs.size:=by
   obtain⟨o,ho,_⟩:=pl.isList;exact ρ ho
  refine ve (Xd pl.isList ⟨s2.heap.objs.size,[s2.heap.objs.size,b],[s2.heap.objs.size],its.toArray.size,_,_,λi=>ns.getD i 0,rfl,YF (A:=X.A.in1) (show X.A.in1.handled=ε from I2.ok.hd hc) s2.heap.objs.size b (az Ip) its.toArray,⟨⟨_,Τ _ rfl,rfl,rfl⟩,pl.isList.at λo e=>ξ _ e⟩,λc hb=>?_,λi v hP=>?_,λr hp tk hk q0 q1=>?_⟩)
  .simp only[c9,br,or_false]at hb;rw[Tl];rcases hb with rfl|rfl
   .exact g6 _
   .exact fu Ip
  .have hP:its.toArray[i]? = ζ v:=hP;rw[Xa]at hP;exact hv i v hP
  .have J1:Inv X pins σ H2 {s2 with heap:=s2.heap.push {cls:=.type "list_iterator",data:=.fields #[.ref b,.int 0 0]}}:=I2.kept (t':=s2.toks) λb o e=>ξ _ e
   obtain⟨f0,f1,f2,f3,f4,f5⟩:=I2.Jt (b:=s2.heap.objs.size) (ao _) (I2.Ib.fresh (ao _));have J2:=J1.turned (t':=tk) (λb o hb e=>hk b o (by simpa using hb) e) f0 f1 f3 f4 f5;rw[aq,hl]at q0 q1;have kk:=k (.int _) H2 [] ar.same (by rw[edd];exact Rep.int _) (bH.new ar (d:=dd) eI.nil λ_ z=>z);cases ns with
   |nil=>
    cases q0 rfl;exact⟨.int m,H2,J2,⟨_,rfl⟩,kk⟩
   |cons n ns=>
    obtain⟨t',rfl⟩:=q1 (by simp);exact⟨.int _,H2,J2,⟨_,rfl⟩,kk⟩
 show υ _ _ (call (.builtin "max") [u] [("default",u2)]) _ _ s2;generalize hxa:pa.1=xa at h2 fin;generalize hxd:pd.1=xd at h2 fin;revert h2;show eA .KQ [pa.1,pd.1]=ζ dd->_;rw[hxa,hxd];intro h2
 match xa,xd,h2 with
 |.lst [],.int m,h2=>
  cases h2;exact fin [] m rfl rfl rfl
 |.lst (.int i::r),.int m,h2=>
  simp only[eA,xt]at h2;rw[aa]at h2;obtain⟨z,hz,rfl⟩:=h2;obtain⟨ns,rfl⟩:=lj hz;refine fin (i::ns) m rfl rfl ?_;rw[mQ (λj=>(i::ns).getD j 0) ns 1 i (λj hj=>by rw[fh,ZD])]at hz;cases hz;rfl
end
theorem qr{lt:Nat->Nat->Bool}:∀(k j m:Nat),j+k=n->m<n->cD lt k j m<n
 |0,_,m,_,h=>h
 |k+1,j,m,e,h=>by
  unfold cD;refine qr k (j+1) _ (by omega) ?_;split
  .omega
  .exact h
theorem tX:(toString "min" ++ toString ".loop" : String) = "min.loop":=by decide
section
variable {prog:Ε}{w:Ξ}{A:Ρ}{R:Yu->θ->Prop}{it:ι}{fp wr:List ι}{n:Nat}{P:Nat->η->Prop}{J3:Nat->Υ->Prop}{bx:ι}{val:Nat->η}{lt:Nat->Nat->Bool}{h0:Υ}
def Kp(wr:List ι)(bx:ι)(h0 h:Υ):Prop:=∀b o,b∉wr->b≠bx->h0.get? b=ζ o->h.get? b=ζ o
theorem A6(W:ZT prog w A.in1 it fp wr n P J3)(Jb:∀i v,P i v->v=val i)(hb:bx∉fp)
  (Kg:∀(i j:Nat) (s':θ) (Q E:η->θ->Prop),i<n->j<n->Kp wr bx h0 s'.heap->Q (.bool (lt i j)) s'->υ (Α prog w) A.in1 (WP .Lt (val i) (val j)) Q E s') :
  ∀(k j:Nat) (s:θ) (m:Nat) (c:Nat),n-j=k->j<=n->m<n->J3 j s.heap->Kp wr bx h0 s.heap->s.heap.get? bx=ζ {cls:=.type "list",dict:=ε,data:=.seq #[val m,val m] c,slots:=#[]} ->
  (∀hp tk,Kp wr bx h0 hp->R (.ok (.ret (val (cD lt k j m)))) {s with heap:=hp,toks:=tk}) ->
  Pi (Α prog w) A (.builtin "min.loop" ⟨[.ref it,.none,.ref bx],[]⟩) R s:=by
 have hw:bx∉wr:=λh=>hb (W.sub _ h)
 intro k
 induction k with
 |zero=>
  intro j s m c hk hj hm st kp hB q;have e:j=n:=by omega
  subst e;refine SL YH (by
   rw[EQ NE _];show υ _ A.in1 (Yk (.ref bx) >>= _) _ _ s;refine ν (WV hB rfl (ν (GE (W.done s _ _ st λhp tk Jk=>?_))));have JW:=Jk bx _ hw hB;show υ _ A.in1 (ZZ bx (λ_=>#[]) >>= _) _ _ _;exact ν (W5 JW rfl (ν (W9 (Ν (q _ tk λb o h1 h2 e=>(Κ _ _ (cj h2)).trans (Jk b o h1 (kp b o h1 h2 e))))))))
 |succ k ih=>
  intro j s m c hk hj hm st kp hB q;have Ip:j<n:=by omega
  refine SL YH (by
   rw[EQ NE _];show υ _ A.in1 (Yk (.ref bx) >>= _) _ _ s;refine ν (WV hB rfl (ν (GE (W.item j s _ _ Ip st λv hp tk hv Jo Jk=>?_))));have JW:=Jk bx _ hw hB;have QX:=Jb j v hv;subst QX;have NF:Kp wr bx h0 hp:=λb o h1 h2 e=>Jk b o h1 (kp b o h1 h2 e)
   show υ _ A.in1 (tryCatch (Yi [val j,val j] (WP .Lt (val j) (val m) >>= _)) _ >>= _) _ _ _;refine ν (GE (KE (ν (Kg j m _ _ _ Ip hm NF (ν (KE (rc (ν (W9 (Ν ?_))))))))));cases hg:lt j m with
   |true=>
    simp only[if_true];refine ν (W5 JW rfl (ν (W9 ?_)));rw[tX];refine Ν ⟨T0 NE _,ih (j+1) _ j _ (by omega) Ip Ip (W.frame _ _ _ Jo λb My o e=>(Κ _ _ (λh:bx=b=>hb (h ▸ My))).trans e) (λb o h1 h2 e=>(Κ _ _ (cj h2)).trans (NF b o h1 h2 e)) (f8 _ JW rfl) λLe KN KA=>?_⟩;have:=q Le KN KA;unfold cD at this
    rwa [hg,if_pos rfl]at this
   |false=>
    simp only[cx,if_false];refine ν (W9 ?_);rw[tX];refine Ν ⟨T0 NE _,ih (j+1) _ m c (by omega) Ip hm Jo NF JW λLe KN KA=>?_⟩;have:=q Le KN KA;unfold cD at this
    rwa [hg,if_neg (by decide)]at this)
theorem yQ(W:ZT prog w A.in1 it fp wr n P J3)(Jb:∀i v,P i v->v=val i)(hb:bx∉fp)(hn:0<n)
  (Kg:∀(i j:Nat) (s':θ) (Q E:η->θ->Prop),i<n->j<n->Kp wr bx h0 s'.heap->Q (.bool (lt i j)) s'->υ (Α prog w) A.in1 (WP .Lt (val i) (val j)) Q E s')
  {c:Nat}(st:J3 0 s.heap) (kp:Kp wr bx h0 s.heap) (hB:s.heap.get? bx=ζ {cls:=.type "list",dict:=ε,data:=.seq #[] c,slots:=#[]})
  (q:∀hp tk,Kp wr bx h0 hp->R (.ok (.ret (val (cD lt (n-1) 1 0)))) {s with heap:=hp,toks:=tk}) :
  Pi (Α prog w) A (.builtin "min.loop" ⟨[.ref it,.none,.ref bx],[]⟩) R s:=by
 have hw:bx∉wr:=λh=>hb (W.sub _ h)
 refine SL YH (by
  rw[EQ NE _];show υ _ A.in1 (Yk (.ref bx) >>= _) _ _ s;refine ν (WV hB rfl (ν (GE (W.item 0 s _ _ hn st λv hp tk hv Jo Jk=>?_))));have JW:=Jk bx _ hw hB;have QX:=Jb 0 v hv;subst QX;have NF:Kp wr bx h0 hp:=λb o h1 h2 e=>Jk b o h1 (kp b o h1 h2 e)
  show υ _ A.in1 (ZZ bx (λ_=>#[val 0,val 0]) >>= _) _ _ _;refine ν (W5 JW rfl ?_);rw[tX];refine Ν ⟨T0 NE _,A6 W Jb hb Kg (n-1) 1 _ 0 _ rfl hn hn (W.frame _ _ _ Jo λb My o e=>(Κ _ _ (λh:bx=b=>hb (h ▸ My))).trans e) (λb o h1 h2 e=>(Κ _ _ (cj h2)).trans (NF b o h1 h2 e)) (f8 _ JW rfl) λLe KN KA=>?_⟩;exact q _ KN KA)
end
theorem vy{E:η->θ->Prop}{x:η}{Q:η->θ->Prop}
  (h:υ (Α prog w) A.in1 (Yc x) (λiv s₂=>∃it fp wr n P J3,∃(val:Nat->η) (lt:Nat->Nat->Bool),iv=.ref it/\ZT prog w A.in1 it fp wr n P J3/\J3 0 s₂.heap/\(∀b∈fp,b<s₂.heap.objs.size)/\0<n/\(∀i v,P i v->v=val i) /\
   (∀(i j:Nat) (s':θ) (Q E:η->θ->Prop),i<n->j<n->(∀b o,b∉wr->s₂.heap.get? b=ζ o->s'.heap.get? b=ζ o)->Q (.bool (lt i j)) s'->υ (Α prog w) A.in1 (WP .Lt (val i) (val j)) Q E s') /\
   ∀hp tk,(∀b o,b∉wr->s₂.heap.get? b=ζ o->hp.get? b=ζ o)->Q (val (cD lt (n-1) 1 0)) {s₂ with heap:=hp,toks:=tk}) E s) :
  υ (Α prog w) A (call (.builtin "min") [x]) Q E s:=by
 refine UV (AC F.plain_min F.entry_min ?_);have hc:υ (Α prog w) A.in1 (XC.«min» ⟨[x],[]⟩) (λfin s'=>match fin with
   |.done f=>(match(ĝ f:Yu)with|.ok (.ret v)=>Q v s'|.ok _=>False|.error e=>E e s')
   |.again c=>c.quiet=δ/\Pi (Α prog w) A c (λr s2=>match r with|.ok (.ret v)=>Q v s2|.ok _=>False|.error e=>E e s2) s') E s:=by
  show υ _ A.in1 (GT "min" ["key","default"] 0 ⟨[],[]⟩ >>= _) _ _ s;refine ν (ÿ (show GT "min" ["key","default"] 0 ⟨[],[]⟩=pure [ε,ε]from rfl) (ν (Ν (ν (Λ h (λiv s₂ h₂=>?_) λ_ _ e=>e)))));obtain⟨it,fp,wr,n,P,J3,val,lt,rfl,W,st,RB,hn,Jb,Kg,q⟩:=h₂;refine ν (XE ?_);rw[tX];have fresh:∀b o,s₂.heap.get? b=ζ o->b≠s₂.heap.objs.size:=λb o e=>az (ρ e)
  refine Ν ⟨T0 NE _,yQ (h0:=s₂.heap) (lt:=lt) W Jb (λhm=>c8 _ (RB _ hm)) hn (λi j s' Q E hi hj kp hQ=>Kg i j s' Q E hi hj (λb o N3 e=>kp b o N3 (fresh b o e) e) hQ) (W.frame _ _ _ st λb _ o e=>ξ _ e) (λb o _ _ e=>ξ _ e) (Τ _ rfl) λhp tk hk=>?_⟩;exact q hp tk λb o N3 e=>hk b o N3 (fresh b o e) e
 have ha:=PySem.F.args_min1 x;simp only[WZ,F.kind_min];cases Ml:Y6 "min" with
 |none=>exact Ν hc
 |some sig=>
  simp only[Ł,Ml]at ha;have h2:XR "min" sig ⟨[x],[]⟩=pure ():=ha;show υ _ A.in1 (XR "min" sig ⟨[x],[]⟩) _ _ s;rw[h2];exact Ν hc
variable {ns:List Int}
section
variable {X:Cx}{pins:List (ι×na)}{σ:L2.St}{H:Hp}{s:θ}
theorem Ew(hc:X.calm=δ)(I:Inv X pins σ H s){its:List η}(rv:aL vs its)(pl:s.heap.IsList p its.toArray)(hn:0<its.length)(lt:Nat->Nat->Bool)
  (Kg:∀(i j:Nat) (u v:η),its[i]? = ζ u->its[j]? = ζ v->∀(s':θ) (Q E:η->θ->Prop),(∀b o,s.heap.get? b=ζ o->s'.heap.get? b=ζ o)->Q (.bool (lt i j)) s'->υ (Α X.prog X.w) X.A.in1 (WP .Lt u v) Q E s')
  (k:∀v,vs[cD lt (its.length-1) 1 0]? = ζ v->Q v H):υ (Α X.prog X.w) X.A (call (.builtin "min") [.ref p]) (EP X pins σ Q) X.xe s:=by
 have Ip:p<s.heap.objs.size:=by
  obtain⟨o,ho,_⟩:=pl;exact ρ ho
 have U0:∀i,i<its.length->its[i]? = ζ (its.getD i .none):=λi hi=>by
  simp[ł,ω hi]
 refine vy (Xd pl ⟨s.heap.objs.size,[s.heap.objs.size,p],[s.heap.objs.size],its.toArray.size,_,_,λi=>its.getD i .none,lt,rfl,YF (A:=X.A.in1) (show X.A.in1.handled=ε from I.ok.hd hc) s.heap.objs.size p (az Ip) its.toArray,⟨⟨_,Τ _ rfl,rfl,rfl⟩,pl.at λo e=>ξ _ e⟩,λc hb=>?_,by rw[aq];exact hn,λi v hP=>?_,λi j s' Q' E' hi hj kp hQ=>?_,λhp tk hk=>?_⟩)
 .simp only[c9,br,or_false]at hb;rw[Tl];rcases hb with rfl|rfl
  .exact g6 _
  .exact fu Ip
 .have hP:its.toArray[i]? = ζ v:=hP;rw[Xa]at hP;simp[ł,hP]
 .rw[aq]at hi hj;exact Kg i j _ _ (U0 i hi) (U0 j hj) s' Q' E' (λb o e=>kp b o (by
   intro z;rw[gr]at z;subst z;exact c8 _ (ρ e)) (ξ _ e)) hQ
 .have J1:Inv X pins σ H {s with heap:=s.heap.push {cls:=.type "list_iterator",data:=.fields #[.ref p,.int 0 0]}}:=I.kept (t':=s.toks) λb o e=>ξ _ e
  obtain⟨f0,f1,f2,f3,f4,f5⟩:=I.Jt (b:=s.heap.objs.size) (ao _) (I.Ib.fresh (ao _));have J2:=J1.turned (t':=tk) (λb o hb e=>hk b o (by simpa using hb) e) f0 f1 f3 f4 f5;rw[aq];have hb:cD lt (its.length-1) 1 0<its.length:=qr _ _ _ (by omega) hn;have VY:cD lt (its.length-1) 1 0<vs.length:=by rw[rv.length];exact hb
  obtain⟨u,e1,e2⟩:=rv.get (ω VY);have:its.getD (cD lt (its.length-1) 1 0) .none=u:=by
   have:=U0 _ hb;rw[e1]at this;cases this;rfl
  show EP X pins σ Q (its.getD (cD lt (its.length-1) 1 0) .none) _;rw[this];exact⟨_,H,J2,e2,k _ (ω VY)⟩
theorem se(hu:X.A.units+1<W8){b:ι}{xs ys:List η}{ms:List Int}(h1:õ s.heap a xs.toArray)(h2:õ s.heap b ys.toArray)(i1:On xs ns)(i2:On ys ms)(s':θ)(Q E:η->θ->Prop)(kp:∀b o,s.heap.get? b=ζ o->s'.heap.get? b=ζ o)(h:Q (.bool (HT.lexLt ns ms)) s') :
  υ (Α X.prog X.w) X.A.in1 (WP .Lt (.ref a) (.ref b)) Q E s':=by
 obtain⟨o,ho,r⟩:=h1;obtain⟨o',Lv,r'⟩:=h2;exact(HT.rJ (A:=X.A.in1) ⟨o,kp _ _ ho,r⟩ ⟨o',kp _ _ Lv,r'⟩ (by simpa using i1) (by simpa using i2) hu h:υ (Α X.prog X.w) X.A.in1 (wp .Lt (.ref a) (.ref b)) Q E s')
end
theorem tJ:∀a b:List Int,eN a b=HT.lexLt a b
 |[],[]=>rfl
 |[],_::_=>rfl
 |_::_,[]=>rfl
 |x::a,y::b=>by
  show(if x==y then eN a b else decide (x<y))=_;rw[HT.la,tJ a b];by_cases e:x=y
  .rw[if_pos e,if_pos (by rw[e];exact iw y)]
  .rw[if_neg e,if_neg (by rw[eo];exact e)]
section
variable {X:Cx}
theorem sU(hc:X.calm=δ)(hu:X.A.units+40<W8):dH X (.builtin "min") (mw X.K .min2):=by
 intro pins s σ H xs us Q I r h;obtain⟨ds,d,G,rs,hd,k⟩:=h
 match ds,hd with
 |[.int i,.int j],hd=>
  cases hd;obtain⟨x,y,G1,G2,rfl,rp,Kj⟩:=rs.of2;obtain⟨rfl,rfl⟩:=rp.int_inv;obtain⟨rfl,rfl⟩:=Kj.int_inv;exact vk hc pins s σ H _ us Q I r ⟨i,j,rfl,k _ H [] (.int _) eI.nil⟩
 |[.lst ys],hd=>
  have hd:minD ys=ζ d:=hd;obtain⟨x,rfl,rp⟩:=rs.Ji;obtain⟨l,vs,g,rfl,rfl,a1,a2⟩:=rp.lst_inv;obtain⟨u,rfl,rx⟩:=r.one;obtain rfl:u=.ref l:=rx;obtain⟨its,rv,pl,_⟩:=I.list (.inl a1);have hlen:its.length=ys.length:=by rw[<-rv.length,<-a2.len]
  unfold minD at hd;by_cases he:ys.isEmpty=δ
  .rw[if_pos he]at hd;cases hd
  rw[if_neg he]at hd;have hn:0<its.length:=by
   rw[hlen];cases ys with
   |nil=>exact absurd rfl he
   |cons _ _=>exact Nat.succ_pos _
  have fin:∀lt:Nat->Nat->Bool,ys[cD lt (ys.length-1) 1 0]? = ζ d->g=[]->∀v,vs[cD lt (its.length-1) 1 0]? = ζ v->Q v H:=λlt hy hf v hv=>by
   rw[hlen]at hv;obtain⟨v',G',e1,e2,e3⟩:=a2.get hy;rw[hv]at e1;cases e1;have:G'=[]:=by
    subst hf;exact ì.mp e3
   subst this;exact k _ H [] e2 eI.nil
  rw[ag]at hd;obtain⟨ks,hks,hd⟩:=hd;obtain⟨kl,kt,kn,kg⟩:=jW I hks a2 rv;refine Ew hc I rv pl.isList hn _ (λi j u v hi hj s' Q' E' kp h=>?_) (fin _ hd kg);have Jn:∀(i:Nat) (u:η),its[i]? = ζ u->∃a xs,u=.ref a/\õ s.heap a xs.toArray/\On xs (ks.getD i []):=λi u hi=>by
   have Ip:i<ks.length:=by rw[kl];exact(χ.mp hi).1
   obtain⟨a,o,xs,n,e1,e2,e3,e4,e5⟩:=kt i _ (ω Ip);have hgu:its.getD i .none=u:=by rw[ο,hi];rfl
   rw[hgu]at e1;refine⟨a,xs.toList,e1,⟨o,e2,e3,n,by rw[e4]⟩,?_⟩;rw[ο,ω Ip];exact e5
  obtain⟨a,xs,rfl,t1,i1⟩:=Jn i u hi;obtain⟨b,zs,rfl,t2,i2⟩:=Jn j v hj;rw[tJ]at h;exact se (by omega) t1 t2 i1 i2 s' Q' E' kp h
end
variable {ce co:Ex}
section
variable {X:Cx}
theorem vi:dH X (.type "int") (mw X.K .int):=by
 intro pins s σ H xs us Q I r h;obtain⟨ds,d,G,rs,hd,k⟩:=h
 match ds,hd with
 |[.str z],hd=>
  obtain⟨x,rfl,rp⟩:=rs.Ji;obtain⟨rfl,rfl⟩:=rp.str_inv;obtain⟨u,rfl,⟨t,rfl⟩⟩:=r.one;have hd:(if z.length<=640 then(û z).map D.int else ε)=ζ d:=hd;by_cases hz:z.length<=640
  .rw[if_pos hz,aa]at hd;obtain⟨n,hn,rfl⟩:=hd;exact Ń hn hz ⟨.int n,H,I.tok _,⟨_,rfl⟩,k _ H [] (.int n) eI.nil⟩
  .rw[if_neg hz]at hd;cases hd
 |[.int i],hd=>
  cases hd;obtain⟨x,rfl,rp⟩:=rs.Ji;obtain⟨rfl,rfl⟩:=rp.int_inv;obtain⟨u,rfl,⟨t,rfl⟩⟩:=r.one;exact call_int_int ⟨.int i,H,I,⟨_,rfl⟩,k _ H [] (.int i) eI.nil⟩
 |[.bl b],hd=>
  cases hd;obtain⟨x,rfl,rp⟩:=rs.Ji;obtain⟨rfl,rfl⟩:=rp.IJ;obtain⟨u,rfl,ru⟩:=r.one;cases ru;exact call_int_bool ⟨.int _,H,I.tok _,⟨_,rfl⟩,k _ H [] (.int _) eI.nil⟩
theorem xb{a:D}{bs:List D}(h:oU .Iu a bs=ζ d):∃z y n,a=.str z/\bs=[.str y]/\d=.int n:=by
 match a,bs,h with
 |.str z,[.str y],h=>
  have h:(match xz z y 0 z.length 1 with
   |i::_=>ζ (D.int (i:Int))
   |[]=>ε)=ζ d:=h
  split at h
  .cases h;exact⟨z,y,_,rfl,rfl,rfl⟩
  .cases h
def GF(m:Fh):V->List V->Hp->VK->Prop:=λx xs H Q=>∃z y n,x=.str z/\xs=[.str y]/\oU m (.str z) [.str y]=ζ (.int n)/\Q (.int n) H
theorem yh:PF X "str.index" (GF .Iu):=by
 intro pins s σ H x xs v us Q I rx r h;obtain⟨z,y,n,rfl,rfl,hd,q⟩:=h;obtain⟨t,rfl⟩:=rx;obtain⟨u,rfl,⟨t',rfl⟩⟩:=r.one;have hd:(match xz z y 0 z.length 1 with
  |i::_=>ζ (D.int (i:Int))
  |[]=>ε)=ζ (.int n):=hd
 split at hd
 .rename_i i rest ho;cases hd;exact call_gives YU (Zf s z t) PySem.F.entry_str_index (PySem.F.args_str_index_2 _ _) (gives_str_index z y t t' i rest ho) ⟨.int _,H,I.tok _,⟨_,rfl⟩,q⟩
 .cases hd
theorem wy{σ:L2.St}(h:tE X.K T (.Lo .Iu co (.cons ce .nil)) σ H Q):OP X.K "str" (GF .Iu) (tE X.K T co) (qV X.K T (.cons ce .nil)) σ H Q:=by
 obtain⟨P,env,F,re,p,HZ,k⟩:=h;unfold ev at HZ;obtain⟨q,h1,HZ⟩:=Rs.HY HZ;obtain⟨l,h2,HZ⟩:=Rs.HY HZ;obtain⟨d,h3,HZ⟩:=Rs.HY HZ;have h3:=bY h3;cases HZ;obtain⟨z,y,n,e1,e2,rfl⟩:=xb h3;refine⟨P,env,F,re,q,h1,λv H1 G s rp rt=>?_⟩;rw[e1]at rp h3;obtain⟨rfl,rfl⟩:=rp.str_inv;refine⟨rfl,P,env,F,re.same s,l,h2,λvs H2 G' ar=>?_⟩;have rs:=ar.Io;rw[e2]at rs h3;obtain⟨x,rfl,Lc⟩:=rs.Ji;obtain⟨rfl,_⟩:=Lc.str_inv;exact⟨z,y,n,rfl,rfl,h3,k _ H2 [] (s.trans ar.same) (.int n) bH.nil⟩
end
section
variable {X:Cx}
theorem nW:∀{xs:List D}{k:List Str},qG xs=ζ k->xs=k.map D.str
 |[],k,h=>by cases h;rfl
 |.str i::r,k,h=>by
  have h:(qG r).map (i :: ·)=ζ k:=h;rw[aa]at h;obtain⟨k',h1,rfl⟩:=h;rw[nW h1];rfl
theorem k6:∀{ns:List Str}{vs:List V}{G:List ι}{us:List η},aF K H (ns.map D.str) vs G->aL vs us->StrsAre us ns
 |[],_,_,_,.nil,.nil=>.nil
 |n::ns,_,_,_,.cons h r,.cons x y=>by
  obtain⟨rfl,_⟩:=h.str_inv;obtain⟨t,rfl⟩:=x;exact .cons _ _ (k6 r y)
def rJoin(K:Frag):V->List V->Hp->VK->Prop:=λx xs H Q=>∃(z:Str) (p:ι) (ys:List Str) (G:List ι),x=.str z/\xs=[.ref p]/\Rep K H (.lst (ys.map .str)) (.ref p) G/\(ys.map (·.length)).sum+ys.length*z.length<=lim/\Q (.str (YV z ys)) H
theorem Aq:PF X "str.join" (rJoin X.K):=by
 intro pins s σ H x xs v us Q I rx r h;obtain⟨z,p,ys,G,rfl,rfl,rp,hl,q⟩:=h;obtain⟨t,rfl⟩:=rx;obtain⟨u,rfl,ru⟩:=r.one;cases ru;obtain⟨p',vs,g,e,rfl,a1,a2⟩:=rp.lst_inv;cases e;obtain⟨its,rv,pl,_⟩:=I.list (.inl a1);refine join_list pl.isList (by simpa using k6 a2 rv) (a8 hl (by decide)) λt' k=>⟨.str _,H,I.kept (t':=k) λb o e=>e,?_,q⟩
 show RelV (.str _) (.str (ń z ys) t');rw[StrLaws.glued_eq_join];exact⟨t',rfl⟩
theorem u6{σ:L2.St}(h:tE X.K T (.Lo .JM co (.cons ce .nil)) σ H Q):OP X.K "str" (rJoin X.K) (tE X.K T co) (qV X.K T (.cons ce .nil)) σ H Q:=by
 obtain⟨P,env,F,re,p,HZ,k⟩:=h;unfold ev at HZ;obtain⟨q,h1,HZ⟩:=Rs.HY HZ;obtain⟨l,h2,HZ⟩:=Rs.HY HZ;obtain⟨d,h3,HZ⟩:=Rs.HY HZ;have h3:=bY h3;cases HZ;have inv:∃(z:Str) (ys:List Str),q.1=.str z/\l.map (·.1)=[.lst (ys.map .str)]/\(ys.map (·.length)).sum+ys.length*z.length<=lim/\d=.str (YV z ys):=by
  generalize q.1=a at h3;generalize l.map (·.1)=bs at h3
  match a,bs,h3 with
  |.str z,[.lst xs],h3=>
   have h3:((qG xs).bind λys=>if(ys.map (·.length)).sum+ys.length*z.length<=lim then ζ (D.str (YV z ys))else ε)=ζ d:=h3;rw[ag]at h3;obtain⟨ys,hy,h3⟩:=h3;by_cases hc:(ys.map (·.length)).sum+ys.length*z.length<=lim
   .rw[if_pos hc]at h3;cases h3;exact⟨z,ys,rfl,by rw[nW hy],hc,rfl⟩
   .rw[if_neg hc]at h3;cases h3
 obtain⟨z,ys,e1,e2,hc,rfl⟩:=inv;refine⟨P,env,F,re,q,h1,λv H1 G s rp rt=>?_⟩;rw[e1]at rp;obtain⟨rfl,rfl⟩:=rp.str_inv;refine⟨rfl,P,env,F,re.same s,l,h2,λws H2 G' ar=>?_⟩;have rs:=ar.Io;rw[e2]at rs;obtain⟨x,rfl,Lc⟩:=rs.Ji;obtain⟨p',vs,g,rfl,rfl,a1,a2⟩:=id Lc.lst_inv;exact⟨z,p',ys,_,rfl,rfl,Lc,hc,k _ H2 [] (s.trans ar.same) (.str _) bH.nil⟩
end
structure Sc where
 N:List Str
 sc:Db
 fns:List Str
 sY:List Str
 dG:List Str
noncomputable def idxOf:List Str->Str->Option Nat
 |[],_=>ε
 |y::r,x=>if y=x then ζ 0 else(idxOf r x).map (· + 1)
theorem bL:∀{l:List Str}{x:Str}{i:Nat},idxOf l x=ζ i->l[i]? = ζ x
 |y::r,x,i,h=>by
  simp only[idxOf]at h;by_cases e:y=x
  .rw[if_pos e]at h;cases h;rw[e];rfl
  .rw[if_neg e,aa]at h;obtain⟨j,hj,rfl⟩:=h;simpa using bL hj
noncomputable def cX(sc:Db)(x:Str):Option FS:=sc.names.lookup x
noncomputable def mH(sc:Db)(x:Str):Bool:=match cX sc x with
 |some .local=>δ
 |some .cell=>δ
 |some .free=>δ
 |_=>γ
noncomputable def jm(sc:Db)(x:Str):Bool:=match cX sc x with
 |some .local=>δ
 |some .cell=>δ
 |_=>γ
noncomputable def pq(sc:Db)(x:Str):Bool:=match cX sc x with
 |some .globalImplicit=>δ
 |_=>γ
noncomputable def cO(x:Str):Bool:=!(x==("__debug__" : Str)) && !(x==("__classdict__" : Str)) && !(x==("__name__" : Str))
noncomputable def notStar:Expr->Bool
 |.Starred _ _=>γ
 |_=>δ
noncomputable def fM:Expr->Bool
 |.Set _ _ _=>γ
 |_=>δ
noncomputable def fJ:Expr->Bool
 |.Slice _ _ _ _=>γ
 |_=>δ
noncomputable def fD:Expr->Bool
 |.ListComp _ _ _ _=>δ
 |.SetComp _ _ _ _=>δ
 |.DictComp _ _ _ _ _=>δ
 |_=>γ
noncomputable def cI(f:Expr->Option Ex):List Expr->Option jR
 |[]=>ζ .nil
 |e::es=>if notStar e then(f e).bind λc=>(cI f es).map λcs=>.cons c cs else ε
noncomputable def Hq(f:Expr->Option Ex)(op:BoolOp):List Expr->Option Ex
 |[]=>ε
 |[a]=>f a
 |a::r=>(f a).bind λc=>(Hq f op r).map λd=>match op with
  |.And=>.and c d
  |.Or=>.or c d
noncomputable def kM(S:Sc):List Expr->Option (List Nat)
 |[]=>ζ []
 |.Name x _::r=>if jm S.sc x then(idxOf S.N x).bind λi=>(kM S r).map λis=>i::is else ε
 |_::_=>ε
noncomputable def sg(S:Sc):Expr->Option kh
 |.Name x _=>if jm S.sc x then(idxOf S.N x).map .nm else ε
 |.Tuple es _ _=>(kM S es).map .tp
 |_=>ε
noncomputable def xB(f:Expr->Option Ex):Option Expr->Option jS
 |none=>ζ .none
 |some e=>(f e).map .some
noncomputable def jg(S:Sc)(x:Str):Bool:=pq S.sc x&&S.dG.contains x
noncomputable def isTup:Expr->Bool
 |.Tuple _ _ _=>δ
 |_=>γ
noncomputable def E5(S:Sc)(f:Expr->Option Ex)(tp:Bool):Expr->Option oY
 |.Call (.Name x p) es [] pos=>if x = "range" then(if jg S "range" then(match cI f es with
   |some (.cons a .nil)=>ζ (.Iq a)
   |some (.cons a (.cons b .nil))=>ζ (.Jq a b)
   |some (.cons a (.cons b (.cons c .nil)))=>ζ (.Jf a b c)
   |_=>ε)else ε)else if x = "enumerate" then(if jg S "enumerate" && tp then(match es with
   |[e]=>if notStar e then(f e).map .enum else ε
   |_=>ε)else ε)else if x = "zip" then(if jg S "zip" && tp then(match es with
   |[e,g]=>if notStar e&&notStar g then(f e).bind λc=>(f g).map λd=>.zip c d else ε
   |_=>ε)else ε)else(f (.Call (.Name x p) es [] pos)).map .seq
 |e=>if fM e then(f e).map .seq else ε
noncomputable def bF(sc:Db):List Str:=(sc.names.filter λp=>(p.2 == .local || p.2 == .cell)&&p.1 != (".0" : Str)).map (·.1)
noncomputable def bI(sc:Db):List Str:=(sc.names.filter λp=>p.2 == .free).map (·.1)
noncomputable def jD:List (Option Nat)->Option (List Nat)
 |[]=>ζ []
 |some i::r=>(jD r).map (i :: ·)
 |none::_=>ε
noncomputable def jN(S:Sc)(sc:Db):Bool:=
 sc.kind == .function&&sc.names.all (λp=>p.2 != .cell || cX sc p.1==ζ .cell)&&sc.names.all (λp=>p.2 != .local || cX sc p.1==ζ .local)&&sc.names.all (λp=>p.2 != .free || (cX sc p.1==ζ .free&&(cX S.sc p.1==ζ .cell || cX S.sc p.1==ζ .free))) &&
 decide (bF sc++bI sc).Nodup
noncomputable def uC(own:Nat):kh->Bool
 |.nm i=>decide (i<own)
 |.tp is=>is.all λi=>decide (i<own)
noncomputable def FU(x:Str):Option yn:=if x = "len" then ζ .len else if x = "all" then ζ .all else if x = "list" then ζ .list else if x = "min" then ζ .min2 else if x = "int" then ζ .int else if x = "sum" then ζ .sum else if x = "sorted" then ζ .sorted else ε
noncomputable def Dv(t:Str):Option String:=if t = "int" then ζ "int" else if t = "bool" then ζ "bool" else if t = "list" then ζ "list" else ε
noncomputable def Gm(S:Sc)(f:Expr->Option Ex):List Expr->Option Ex
 |[a,.Name t _]=>if pq S.sc t&&S.dG.contains t&&cO t&&notStar a then(Dv t).bind λu=>(f a).map λca=>.blt (.Lq u) (.cons ca .nil)else ε
 |_=>ε
noncomputable def nP:List Expr->Bool
 |[.Call (.Name r _) _ [] _]=>r==("range" : Str)
 |_=>γ
noncomputable def Cq(S:Sc)(f:Expr->Option Ex):List Expr->Option Ex
 |[.Call (.Name r _) es [] _]=>if r = "range" then(if jg S "range" then(match es with
  |[a]=>(cI f [a]).map λcs=>.blt .Kx cs
  |[a,b]=>(cI f [a,b]).map λcs=>.blt .Kx cs
  |_=>ε)else ε)else ε
 |_=>ε
noncomputable def uj(S:Sc)(f:Expr->Option Ex)(x:Str)(es:List Expr):Option Ex:=
 if cO x&&pq S.sc x then(match idxOf S.fns x with
  |some i=>(cI f es).map λcs=>.call i cs
  |none=>if S.dG.contains x then(if x = "isinstance" then Gm S f es else if x = "list"/\nP es=δ then Cq S f es else match es with
    |[]=>ε
    |e::r=>(FU x).bind λb=>(cI f (e::r)).map λcs=>.blt b cs)else ε)else ε
noncomputable def uq(S:Sc)(f:Expr->Option Ex)(x:Str)(a d:Expr)(k:Str):Option Ex:=
 if x = "max" then(if k = "default" then(if jg S "max" && notStar a then(f a).bind λca=>(f d).map λcd=>.blt .KQ (.cons ca (.cons cd .nil))else ε)else ε)else ε
noncomputable def Cy(x:Str):Option Fh:=if x = "index" then ζ .Iu else ε
noncomputable def zH:Expr->Bool
 |.Name _ _=>δ
 |.Subscript _ _ _=>δ
 |.Constant _ _ _=>δ
 |.Call _ (_::_) _ _=>δ
 |_=>γ
noncomputable def An(f:Expr->Option Ex)(o:Expr)(name:Str)(es:List Expr)(apos cpos:W3):Option Ex:=match es with
 |[e]=>if apos.endLine==cpos.line&&zH o then if name = "join" then(f o).bind λco=>(cI f [e]).bind λcs=>(match cs with
  |.cons ce .nil=>ζ (.Lo .JM co (.cons ce .nil))
  |_=>ε)
  else(Cy name).bind λm=>(f o).bind λco=>(cI f [e]).bind λcs=>match cs with
  |.cons ce .nil=>ζ (.Lo m co (.cons ce .nil))
  |_=>ε
  else ε
 |_=>ε
noncomputable def GI(f:Expr->Option Ex):List Expr->Option jS
 |[]=>ζ .none
 |[c]=>(f c).map .some
 |_=>ε
noncomputable def qQ(S:Sc)(f:Sc->Expr->Option Ex)(elt tg wl:Expr)(ifs:List Expr)(sc:Db):Option Ex:=
 if jN S sc&&fM wl then
  (E5 S (f S) (isTup tg) wl).bind λit=>(jD ((bI sc).map (idxOf S.N))).bind λpick=>
   (sg {S with N:=bF sc++bI sc,sc:=sc} tg).bind λt=>if uC (bF sc).length t then
    (GI (f {S with N:=bF sc++bI sc,sc:=sc}) ifs).bind λc=>(f {S with N:=bF sc++bI sc,sc:=sc} elt).map λce=>.comp (bF sc).length pick t it c ce
   else ε
 else ε
noncomputable def yH(S:Sc)(x:Str):Option Ex:=if cO x then(if mH S.sc x then(idxOf S.N x).map .var else if pq S.sc x then(idxOf S.sY x).map .Ic else ε)else ε
noncomputable def Hj:Const->Option Ex
 |.int i=>ζ (.cst (.int i))
 |.bool b=>ζ (.cst (.bl b))
 |.none=>ζ (.cst .Ii)
 |.str s=>ζ (.cst (.str s))
 |_=>ε
noncomputable def Wz(op:UnaryOp)(o:Option Ex):Option Ex:=match op with
 |.USub=>o.map .neg
 |.Not=>o.map .not
 |_=>ε
noncomputable def xG(f:Expr->Option Ex)(a:Expr)(op:Ya)(b:Expr):Option Ex:=if At op b then ε else(f a).bind λca=>(f b).map λcb=>.cmp op ca cb
noncomputable def FE(f:Expr->Option Ex)(a:Expr):List Ya->List Expr->Option Ex
 |[],_=>ε
 |[op],bs=>(match bs with
  |[]=>ε
  |[b]=>xG f a op b
  |_::_::_=>ε)
 |_::_::_,_=>ε
noncomputable def B5(f:Expr->Option Ex)(a b:Expr):Option Ex:=match b with
 |.Slice lo hi st _=>(match st with
  |none=>(f a).bind λca=>(xB f lo).bind λl=>(xB f hi).map λh=>.sl ca l h
  |some _=>ε)
 |b=>if fJ b then(f a).bind λca=>(f b).map λcb=>.ix ca cb else ε
noncomputable def ym(S:Sc)(f:Expr->Option Ex)(x:Str)(es:List Expr):List á->Option Ex
 |[]=>uj S f x es
 |[⟨k,d,_⟩]=>(match k with
  |none=>ε
  |some k=>(match es with
   |[]=>ε
   |[a]=>uq S f x a d k
   |_::_::_=>ε))
 |_::_::_=>ε
noncomputable def xi(S:Sc)(f:Expr->Option Ex)(g:Expr)(es:List Expr)(ks:List á)(cpos:W3):Option Ex:=match g with
 |.Name x _=>ym S f x es ks
 |.Attribute o name apos=>(match ks with
  |[]=>An f o name es apos cpos
  |_::_=>ε)
 |_=>ε
noncomputable def WA(S:Sc)(f:Sc->Expr->Option Ex)(elt:Expr)(sc:Db):List Comprehension->Option Ex
 |[]=>ε
 |[⟨tg,wl,ifs,as⟩]=>if as=0 then qQ S f elt tg wl ifs sc else ε
 |_::_::_=>ε
noncomputable def DD(f:Expr->Option Ex)(a:Expr)(op:FM)(b:Expr):Option Ex:=(f a).bind λca=>(f b).map λcb=>.bin op ca cb
noncomputable def zQ:Option Expr->Option Str
 |some (.Name x _)=>ζ x
 |_=>ε
noncomputable def D2:Expr->Option Int
 |.Constant (.int v) _ _=>ζ v
 |_=>ε
noncomputable def yd(S:Sc):List (Option Expr)->List Expr->Option (List (Nat×Int))
 |[],[]=>ζ []
 |k::ks,e::vs=>(zQ k).bind λx=>(D2 e).bind λv=>if cO x&&pq S.sc x then(idxOf S.sY x).bind λi=>(yd S ks vs).map λl=>(i,v)::l else ε
 |_,_=>ε
noncomputable def EO(S:Sc):List (Option Expr)->List Expr->Option Ex
 |[],[]=>ζ .KC
 |k::ks,vs=>if(k::ks).length<=15 then(yd S (k::ks) vs).map .K5 else ε
 |_,_=>ε
noncomputable def cE:Nat->Sc->Expr->Option Ex
 |0,_,_=>ε
 |n+1,S,e=>match e with
  |.Name x _=>yH S x
  |.Constant c _ _=>Hj c
  |.BinOp a op b _=>DD (cE n S) a op b
  |.UnaryOp op a _=>Wz op (cE n S a)
  |.BoolOp op es _=>Hq (cE n S) op es
  |.Compare a ops bs _=>FE (cE n S) a ops bs
  |.IfExp c a b _=>(cE n S c).bind λcc=>(cE n S a).bind λca=>(cE n S b).map λcb=>.ite cc ca cb
  |.List es _=>(cI (cE n S) es).map .lst
  |.Tuple es _ _=>(cI (cE n S) es).map .tup
  |.Subscript a b _=>B5 (cE n S) a b
  |.Call g es ks pos=>xi S (cE n S) g es ks pos
  |.ListComp elt gens sc _=>WA S (cE n) elt sc gens
  |.Dict ks vs _=>EO S ks vs
  |_=>ε
structure Ctx(X:Cx)(S:Sc)(T:Tb):Prop where
 N:X.N=S.N
 nd:S.N.Nodup
 LZ:∀x,mH S.sc x=δ->zU X.env.scope x
 loc:∀x,jm S.sc x=δ->Loc X.env.scope x/\(X.fn x=δ\/X.env.scope.names.lookup x=ζ .local)
 gl:∀x,pq S.sc x=δ->Gl X x
 cel:∀x,(cX S.sc x=ζ .cell\/cX S.sc x=ζ .free)->(X.env.kindOf x=ζ .cell\/X.env.kindOf x=ζ .free)
 units:X.A.units+40<W8/\rS X.w X.K
 calm:X.calm=δ
 fns:∀i x,idxOf S.fns x=ζ i->∃f fd ps k,kj X.prog X.w X.K X.mg X.base pG k f fd ps (Az X.K ps.length (T.cl i))/\eF k X.A/\X.mg x=ζ (.ref f)/\Ο X.K (.ref f)=δ/\Binds X.K fd ps []/\∀ds r,T.cl i ds=.ok r->ds.length=ps.length
 sY:∀i x,idxOf S.sY x=ζ i->∃v u,X.mg x=ζ u/\RelV v u/\∀H,Rep X.K H (T.gl i) v []
 dG:∀x,S.dG.contains x=δ->X.mg x=ε
theorem aS(h:notStar e=δ):Δ (e::es) env=(γ,eval e env)::Δ es env:=by
 cases e<;>first|rfl | (cases h)
theorem oW(h:fM e=δ)(x:η):IN e env x=pure x:=by
 cases e<;>first|rfl | (cases h)
theorem qv(h:fJ e=δ):kA e:=by
 intro o i;cases e<;>first|rfl | (cases h)
variable {f:Expr->Option Ex}
theorem aZ(h:cI f (e::es)=ζ cs):notStar e=δ/\∃c d,f e=ζ c/\cI f es=ζ d/\cs=.cons c d:=by
 unfold cI at h;by_cases hs:notStar e=δ
 .rw[if_pos hs]at h;rw[ag]at h;obtain⟨c,h1,h2⟩:=h;rw[aa]at h2;obtain⟨d,h2,rfl⟩:=h2;exact⟨hs,c,d,h1,h2,rfl⟩
 .rw[if_neg hs]at h;cases h
theorem eC:∀{es:List Expr}{cs:jR},cI f es=ζ cs->(Fa pos (Δ es env)).any (·.1)=γ
 |[],cs,_=>rfl
 |e::es,cs,h=>by
  obtain⟨hs,c,d,_,h2,_⟩:=aZ h;rw[aS hs];show(γ || (Fa pos (Δ es env)).any (·.1))=γ;rw[eC h2];rfl
theorem cL(h:cO x=δ):(x==("__debug__" : Str))=γ/\(x==("__classdict__" : Str))=γ/\x≠"__name__":=by
 unfold cO at h;rw[ai,ai]at h;obtain⟨⟨h1,h2⟩,h3⟩:=h;refine⟨by simpa using h1,by simpa using h2,λe=>?_⟩;subst e;simp at h3
theorem ER{c a b:Expr}{cc cb:Ex}(hc:PT X c (nr X.K T cc))(ha:PT X a (nr X.K T ca))(hb:PT X b (nr X.K T cb)):PT X (.IfExp c a b pos) (nr X.K T (.ite cc ca cb)):=by
 intro pins s σ H Q I h;obtain⟨P,env,F,re,p,bb,HZ,ht,k⟩:=h;unfold ev at HZ;obtain⟨q,h1,HZ⟩:=Rs.HY HZ;obtain⟨kb,h2,HZ⟩:=Rs.HY HZ;refine isTrue_IfExp (bT (hc pins s σ H (λd H'=>d=kb/\aG H H') I ⟨P,env,F,re,q,kb,h1,bY h2,λH' s=>⟨rfl,s⟩⟩) λd s1 ⟨H1,I1,e,s⟩=>?_);subst e;cases d with
 |true=>exact ha pins s1 σ H1 Q I1 ⟨P,env,F,re.same s,p,bb,HZ,ht,λH' s'=>k H' (s.trans s')⟩
 |false=>exact hb pins s1 σ H1 Q I1 ⟨P,env,F,re.same s,p,bb,HZ,ht,λH' s'=>k H' (s.trans s')⟩
theorem wa{a:Ex}{env:En}{p}(HZ:cU T (.Iq a) env=.ok p):p.2=[]/\∃l,aT T (.cons a .nil) env=.ok l/\((∃j,l.map (·.1)=[.int j]/\eK j=δ/\p.1=bA 0 1 j.toNat)\/(∃i j,l.map (·.1)=[.int i,.int j]/\eK i=δ/\eK j=δ/\p.1=bA i 1 (j-i).toNat) \/
   ∃i j k,l.map (·.1)=[.int i,.int j,.int k]/\eK i=δ/\eK j=δ/\k≠0/\k.natAbs<1073741824/\p.1=bA i k (Γ i j k).toNat):=by
 unfold cU at HZ;obtain⟨q,h1,HZ⟩:=Rs.HY HZ;split at HZ
 .rename_i j hj;split at HZ
  .rename_i ho;cases HZ;exact⟨rfl,[q],by unfold aT;rw[h1];unfold aT;rfl,.inl ⟨j,by simp[hj],ho,rfl⟩⟩
  .cases HZ
 .cases HZ
theorem vW{a b:Ex}{env:En}{p}(HZ:cU T (.Jq a b) env=.ok p):p.2=[]/\∃l,aT T (.cons a (.cons b .nil)) env=.ok l/\((∃j,l.map (·.1)=[.int j]/\eK j=δ/\p.1=bA 0 1 j.toNat)\/(∃i j,l.map (·.1)=[.int i,.int j]/\eK i=δ/\eK j=δ/\p.1=bA i 1 (j-i).toNat) \/
   ∃i j k,l.map (·.1)=[.int i,.int j,.int k]/\eK i=δ/\eK j=δ/\k≠0/\k.natAbs<1073741824/\p.1=bA i k (Γ i j k).toNat):=by
 unfold cU at HZ;obtain⟨q,h1,HZ⟩:=Rs.HY HZ;obtain⟨r,h2,HZ⟩:=Rs.HY HZ;split at HZ
 .rename_i i j hi hj;split at HZ
  .rename_i ho;cases HZ;rw[ai]at ho;exact⟨rfl,[q,r],by unfold aT;rw[h1];unfold aT;rw[h2];unfold aT;rfl,.inr (.inl ⟨i,j,by simp[hi,hj],ho.1,ho.2,rfl⟩)⟩
  .cases HZ
 .cases HZ
theorem zr{a b:Ex}{env:En}{p}(HZ:cU T (.Jf a b c) env=.ok p):p.2=[]/\∃l,aT T (.cons a (.cons b (.cons c .nil))) env=.ok l/\((∃j,l.map (·.1)=[.int j]/\eK j=δ/\p.1=bA 0 1 j.toNat)\/(∃i j,l.map (·.1)=[.int i,.int j]/\eK i=δ/\eK j=δ/\p.1=bA i 1 (j-i).toNat) \/
   ∃i j k,l.map (·.1)=[.int i,.int j,.int k]/\eK i=δ/\eK j=δ/\k≠0/\k.natAbs<1073741824/\p.1=bA i k (Γ i j k).toNat):=by
 unfold cU at HZ;obtain⟨q,h1,HZ⟩:=Rs.HY HZ;obtain⟨r,h2,HZ⟩:=Rs.HY HZ;obtain⟨t,h3,HZ⟩:=Rs.HY HZ;split at HZ
 .rename_i i j k hi hj hk;split at HZ
  .rename_i ho;cases HZ;simp only[ai,bne_iff_ne,decide_eq_true_eq]at ho;exact⟨rfl,[q,r,t],by unfold aT;rw[h1];unfold aT;rw[h2];unfold aT;rw[h3];unfold aT;rfl,.inr (.inr ⟨i,j,k,by simp[hi,hj,hk],ho.1.1.1,ho.1.1.2,ho.1.2,ho.2,rfl⟩)⟩
  .cases HZ
 .cases HZ
def SE(X:Cx)(T:Tb)(e:Expr)(c:Ex):Prop:=PE X e (tE X.K T c)/\PT X e (nr X.K T c)
section
variable {X:Cx}{S:Sc}{T:Tb}
theorem cJ(hf:∀e c,f e=ζ c->SE X T e c):∀{es:List Expr}{cs:jR},cI f es=ζ cs->PA X es (qV X.K T cs)
 |[],cs,h=>by cases h;exact rM
 |e::es,cs,h=>by
  obtain⟨hs,c,d,h1,h2,rfl⟩:=aZ h;exact kB (hf e c h1).1 (cJ hf h2) (aS hs)
theorem CD{op:BoolOp}{pos:W3}(hf:∀e c,f e=ζ c->SE X T e c):∀{es:List Expr}{c:Ex},Hq f op es=ζ c->PE X (.BoolOp op es pos) (tE X.K T c)/\PW X (.BoolOp op es pos) (nr X.K T c)
 |[],c,h=>by cases h
 |[a],c,h=>by
  have h:f a=ζ c:=h;have⟨h1,h2⟩:=hf a c h;refine⟨oi h1,?_⟩;cases op with
  |And=>exact A0 h2
  |Or=>exact wR h2
 |a::b::r,c,h=>by
  unfold Hq at h;rw[ag]at h;obtain⟨ca,h1,h2⟩:=h;rw[aa]at h2;obtain⟨cb,h2,h3⟩:=h2;subst h3;have⟨ia,ta⟩:=hf a ca h1;have⟨ib,tb⟩:=CD (pos:=pos) hf h2;cases op with
  |And=>exact⟨EV ia ib,CQ ta tb⟩
  |Or=>exact⟨Hi ia ib,GP ta tb⟩
theorem pY(C:Ctx X S T):∀{es:List Expr}{is:List Nat},kM S es=ζ is->GB X es (gP is)/\(Os es X.env).length=is.length/\(Os es X.env).findIdx? (·.1)=ε:=by
 intro es
 induction es with
 |nil=>intro is h;cases h;exact⟨zY,rfl,rfl⟩
 |cons e es ih=>
  intro is h;cases e with
  |Name x p=>
   unfold kM at h;by_cases hl:jm S.sc x=δ
   .rw[if_pos hl,ag]at h;obtain⟨i,h1,h2⟩:=h;rw[aa]at h2;obtain⟨js,h2,rfl⟩:=h2;obtain⟨a,b,c⟩:=ih h2;have hN:=C.nd;rw[<-C.N]at hN;have hi:=bL h1;rw[<-C.N]at hi;refine⟨wj (tU hN hi (C.loc x hl).1 (C.loc x hl).2) a,?_,?_⟩
    .show (Os es X.env).length+1=js.length+1;rw[b]
    .show List.findIdx? (·.1) ((γ,_)::Os es X.env)=ε;rw[List.findIdx?_cons];simp[c]
   .rw[if_neg hl]at h;cases h
  |_=>cases h
theorem rY(C:Ctx X S T){t:kh}(h:sg S e=ζ t):PG X e (pX X.K t):=by
 cases e with
 |Name x p=>
  unfold sg at h;dsimp only at h;by_cases hl:jm S.sc x=δ
  .rw[if_pos hl,aa]at h;obtain⟨i,h1,rfl⟩:=h;have hN:=C.nd;rw[<-C.N]at hN;have hi:=bL h1;rw[<-C.N]at hi;exact tU hN hi (C.loc x hl).1 (C.loc x hl).2
  .rw[if_neg hl]at h;cases h
 |Tuple es a b=>
  unfold sg at h;rw[aa]at h;obtain⟨is,h1,rfl⟩:=h;obtain⟨a,b,c⟩:=pY C h1;exact xw C.calm a b c
 |_=>cases h
theorem zh(C:Ctx X S T)(hf:∀e c,f e=ζ c->SE X T e c)(h:E5 S f (isTup tg) e=ζ it):PI X tg e (tI X.K T it):=by
 unfold E5 at h;split at h
 .rename_i x p es pos;by_cases hx:x = "range"
  .subst hx;rw[if_pos rfl]at h;by_cases hg:jg S "range" = δ
   .rw[if_pos hg]at h;have J7:pq S.sc "range" = δ/\S.dG.contains "range" = δ:=by
     unfold jg at hg
     rwa [ai]at hg
    cases hc:cI f es with
    |none=>rw[hc]at h;cases h
    |some cs=>
     rw[hc]at h;cases es with
     |nil=>cases hc;cases h
     |cons e0 rest=>
      obtain⟨hs,c0,d0,_,hd,rfl⟩:=aZ hc;refine EJ rfl (C.gl _ J7.1) (C.dG _ J7.2) (cJ hf hc) (aS hs) (eC hd) ?_;intro env p HZ;cases d0 with
      |nil=>
       cases h;exact wa HZ
      |cons c1 d1=>
       cases d1 with
       |nil=>
        cases h;exact vW HZ
       |cons c2 d2=>
        cases d2 with
        |nil=>
         cases h;exact zr HZ
        |cons c3 d3=>cases h
   .rw[if_neg hg]at h;cases h
  rw[if_neg hx]at h;by_cases hx:x = "enumerate"
  .subst hx;rw[if_pos rfl]at h;by_cases hg:(jg S "enumerate" && isTup tg)=δ
   .rw[if_pos hg]at h;rw[ai]at hg;have J7:pq S.sc "enumerate" = δ/\S.dG.contains "enumerate" = δ:=by
     have:=hg.1;unfold jg at this
     rwa [ai]at this
    cases tg with
    |Tuple elts x1 tp=>
     split at h
     .rename_i e0;by_cases hs:notStar e0=δ
      .rw[if_pos hs,aa]at h;obtain⟨c,h1,rfl⟩:=h;exact Aw (C.gl _ J7.1) (C.dG _ J7.2) (kB (hf _ _ h1).1 rM (aS hs)) (aS hs)
      .rw[if_neg hs]at h;cases h
     .cases h
    |_=>cases hg.2
   .rw[if_neg hg]at h;cases h
  rw[if_neg hx]at h;by_cases hx:x = "zip"
  .subst hx;rw[if_pos rfl]at h;by_cases hg:(jg S "zip" && isTup tg)=δ
   .rw[if_pos hg]at h;rw[ai]at hg;have J7:pq S.sc "zip" = δ/\S.dG.contains "zip" = δ:=by
     have:=hg.1;unfold jg at this
     rwa [ai]at this
    cases tg with
    |Tuple elts x1 tp=>
     split at h
     .rename_i e0 e1;by_cases hs:(notStar e0&&notStar e1)=δ
      .rw[if_pos hs,ag]at h;obtain⟨c,h1,h⟩:=h;rw[aa]at h;obtain⟨d,h2,rfl⟩:=h;rw[ai]at hs;exact El (C.gl _ J7.1) (C.dG _ J7.2) (kB (hf _ _ h1).1 (kB (hf _ _ h2).1 rM (aS hs.2)) (aS hs.1)) (aS hs.1) (by rw[aS hs.2];rfl)
      .rw[if_neg hs]at h;cases h
     .cases h
    |_=>cases hg.2
   .rw[if_neg hg]at h;cases h
  .rw[if_neg hx,aa]at h;obtain⟨c,h1,rfl⟩:=h;exact xh (hf _ _ h1).1
 .by_cases hn:fM e=δ
  .rw[if_pos hn,aa]at h;obtain⟨c,h1,rfl⟩:=h;exact xh (hf _ _ h1).1
  .rw[if_neg hn]at h;cases h
end
theorem gM:∀{names:List (Str×FS)}{x:Str}{k:FS},names.lookup x=ζ k->k≠.free ->
  (names.map λ(n,k)=>if(k==bi&&env.scope.kind == .function&&env.kindOf n==ζ .cell)then(n,Ev)else(n,k)).lookup x=ζ k
 |[],_,_,h,_=>by simp at h
 | (n,k0)::r,x,k,h,hk=>by
  rw[a9];by_cases hc:(k0==bi&&env.scope.kind == .function&&env.kindOf n==ζ .cell)=δ
  .simp only[hc,if_true,cy]at h ⊢;cases hx:x==n with
   |true=>
    rw[hx]at h;cases h;rw[ai,ai]at hc;exact absurd (by simpa using hc.1.1) hk
   |false=>rw[hx]at h;exact gM h hk
  .have hc:(k0==bi&&env.scope.kind == .function&&env.kindOf n==ζ .cell)=γ:=by simpa using hc
   simp only[hc,cx,if_false,cy]at h ⊢;cases hx:x==n with
   |true=>rw[hx]at h;exact h
   |false=>rw[hx]at h;exact gM h hk
theorem jZ:∀{l:List (Option Nat)}{p:List Nat},jD l=ζ p->l=p.map ζ
 |[],p,h=>by cases h;rfl
 |some i::r,p,h=>by
  simp only[jD,aa]at h;obtain⟨q,h1,rfl⟩:=h;rw[jZ h1];rfl
 |none::r,p,h=>by cases h
theorem kP{S:Sc}{sc:Db}(h:jN S sc=δ):sc.kind=.function/\(∀y∈sc.names,y.2=.cell->sc.names.lookup y.1=ζ .cell)/\(∀y∈sc.names,y.2=.local->sc.names.lookup y.1=ζ .local) /\
  (∀y∈sc.names,y.2=.free->sc.names.lookup y.1=ζ .free/\(cX S.sc y.1=ζ .cell\/cX S.sc y.1=ζ .free))/\(bF sc++bI sc).Nodup:=by
 unfold jN at h;simp only[ai,cq,eh,beq_iff_eq,bne_iff_ne,decide_eq_true_eq,cX]at h;obtain⟨⟨⟨⟨h1,h2⟩,h3⟩,h4⟩,h5⟩:=h;refine⟨h1,λy hy e=>?_,λy hy e=>?_,λy hy e=>?_,h5⟩
 .rcases h2 y hy with h|h
  .exact absurd e h
  .exact h
 .rcases h3 y hy with h|h
  .exact absurd e h
  .exact h
 .rcases h4 y hy with h|h
  .exact absurd e h
  .exact h
section
variable {X:Cx}{S:Sc}{T:Tb}{sc:Db}{pick:List Nat}
theorem rK(C:Ctx X S T)(h:jN S sc=δ)(hp:jD ((bI sc).map (idxOf S.N))=ζ pick):dN X sc (bF sc++bI sc) (dQ (bF sc).length pick):=by
 obtain⟨h1,h2,h3,h4,h5⟩:=kP h;have hp:=jZ hp;have hlen:(bI sc).length=pick.length:=by simpa using congrArg XO hp
 refine⟨h1,h2,h3,by simp[dQ,hlen],λx hx=>C.cel x (h4 _ (bw hx) rfl).2,λx hx=>(h4 _ hx rfl).1,λi j x hi hx=>?_⟩;unfold dQ at hi;by_cases Ip:i<(bF sc).length
 .rw[Ψ (by simpa using Ip),u8]at hi;split at hi<;>cases hi
 .have hle:=dw Ip;rw[am (by simpa using hle),dg,<-hp,τ]at hi;rw[am hle]at hx;rw[hx]at hi;simp only[cm,cz]at hi;have hm:=Ι hx;unfold bI at hm;rw[gt]at hm;obtain⟨p,NP,rfl⟩:=hm;rw[Xg]at NP;have hf:p.2=.free:=by simpa using NP.2
  refine⟨(h4 p NP.1 hf).1,?_⟩;rw[C.N];exact bL hi
theorem vt(C:Ctx X S T)(h:jN S sc=δ)(Ca:ι)(s0:θ)(H0:Hp)(ex:List ι):Ctx (inner X sc (bF sc++bI sc) Ca s0 H0 ex) {S with N:=bF sc++bI sc,sc:=sc} T:=by
 obtain⟨h1,h2,h3,h4,h5⟩:=kP h;have keep:∀x k,sc.names.lookup x=ζ k->k≠.free->(Č sc X.env).names.lookup x=ζ k:=λx k e hk=>gM e hk
 refine⟨rfl,h5,λx hx=>?_,λx hx=>?_,λx hx=>?_,λx hx=>?_,C.units,C.calm,C.fns,C.sY,C.dG⟩
 .unfold mH cX at hx;dsimp only at hx;split at hx
  .rename_i e;exact .inl (keep _ _ e (by simp))
  .rename_i e;exact .inr (.inl (keep _ _ e (by simp)))
  .rename_i e;exact .inr (eE e)
  .cases hx
 .unfold jm cX at hx;dsimp only at hx;split at hx
  .rename_i e;exact⟨.inl (keep _ _ e (by simp)),.inr (keep _ _ e (by simp))⟩
  .rename_i e;exact⟨.inr (keep _ _ e (by simp)),.inl (by show(sc.names.lookup x==ζ Ev)=δ;rw[e];rfl)⟩
  .cases hx
 .unfold pq cX at hx;dsimp only at hx;split at hx
  .rename_i e;exact keep _ _ e (by simp)
  .cases hx
 .unfold cX at hx;rcases hx with hx|hx
  .exact .inl (keep _ _ hx (by simp))
  .exact eE hx
end
theorem xH(n d:Nat)(o:Option Int):eO n d o=HT.eO n d o:=by cases o<;>rfl
theorem AY(n d:Nat)(hd:d<=n)(o:Option Int):eO n d o<=n\/∃i,o=ζ i/\i<0/\(n:Int)<i+n:=by
 cases o with
 |none=>exact .inl hd
 |some i=>
  left;simp only[eO];split<;>omega
theorem xQ{n d:Nat}(hd:d<=n)(o:Option Int):eO n d o<=n:=by
 rcases AY n d hd o with h|⟨i,_,h1,h2⟩
 .exact h
 .omega
theorem DJ(lo hi:Option Int)(n:Nat):X7 lo hi 1 n=(bv (eO n n hi-eO n 0 lo)).map (eO n 0 lo + ·):=by
 unfold X7;have h1:∀(o:Option Int) (d:Nat),d<=n->(match o with|none=>(d:Int)|some i=>if(1:Int) > 0 then max 0 (min (if i<0 then i+(n:Int)else i) n)else max (-1) (min (if i<0 then i+(n:Int)else i) (n-1)))=((eO n d o:Nat):Int):=by
  intro o d hd;cases o with
  |none=>rfl
  |some i=>
   simp only[eO];rw[if_pos (by decide)];by_cases hi:i<0
   .rw[if_pos hi,if_pos hi];omega
   .rw[if_neg hi,if_neg hi];omega
 have e1:=h1 lo 0 (cf _);have e2:=h1 hi n (ao _);dsimp only;rw[if_pos (by decide),if_pos (by decide)];refine Eq.trans ?_ (ĺ (eO n 0 lo) (eO n n hi));have gen:∀a b a' b':Int,a=a'->b=b'->sliceRange a b 1=sliceRange a' b' 1:=λa b a' b' h h'=>by rw[h,h']
 exact gen _ _ _ _ e1 e2
theorem Du:Dp X (λx lo hi H Q=>∃z,x=.str z/\z.length<=lim/\Q (.str ⟨(cut z.cps.toList lo hi).toArray⟩) H):=by
 intro pins s σ H x v vl vu lo hi sl Q I rx hs pl pu h;obtain⟨z,rfl,hzl,q⟩:=h;obtain⟨t,rfl⟩:=rx;have part:∀{v:η}{o:Option Int},ĸ v o->∃l:Option (Int×XY),partValue l=v/\l.map (·.1)=o:=λh=>by
  cases h with
  |none=>exact⟨ε,rfl,rfl⟩
  |int i t=>exact⟨ζ (i,t),rfl,rfl⟩
 obtain⟨l,rfl,rfl⟩:=part pl;obtain⟨u,rfl,rfl⟩:=part pu;refine⟨"str",_,PySem.F.slot_str_getitem.lookup,Zf s z t,wpAny_getItem_str_slice (l:=l) (u:=u) (st:=ε) hs rfl ?_⟩;have hp:À z l u ε=(bv (eO z.length z.length (u.map (·.1))-eO z.length 0 (l.map (·.1)))).map (eO z.length 0 (l.map (·.1)) + ·):=DJ _ _ _;have hc:(À z l u ε).filterMap (z.cps[·]?)=cut z.cps.toList (l.map (·.1)) (u.map (·.1)):=by
  rw[hp,pick_run];rfl
 unfold sliceMade;split
 .rename_i hw;have hl:(À z l u ε).length=z.length:=by
   have:=(ai _ _ ▸ hw).2;simpa using this
  rw[hp,aj,fv]at hl;have hz:(⟨(cut z.cps.toList (l.map (·.1)) (u.map (·.1))).toArray⟩:Str)=z:=by
   have a1:=xQ (n:=z.length) (cf _) (l.map (·.1));have a2:=xQ (n:=z.length) (ao _) (u.map (·.1));have:cut z.cps.toList (l.map (·.1)) (u.map (·.1))=z.cps.toList:=by
    have hlen:z.cps.toList.length=z.length:=rfl;unfold cut;rw[hlen];dsimp only;by_cases h0:z.length=0
    .have:z.cps.toList=[]:=List.eq_nil_of_length_eq_zero (hlen.trans h0);rw[this];simp
    .rw[show eO z.length 0 (l.map (·.1))=0 by omega,show eO z.length z.length (u.map (·.1))=z.length by omega,Í,ğ];exact cw (i6 hlen)
   rw[this]
  rw[hz]at q;exact⟨.str z,H,I,⟨t,rfl⟩,q⟩
 .rw[hc];refine⟨?_,.str _,H,I.tok _,⟨_,rfl⟩,q⟩;show(cut z.cps.toList (l.map (·.1)) (u.map (·.1))).toArray.size<=Ζ;rw[aq];refine a8 ?_ (hU hzl);unfold cut;rw[cn,bp];exact a8 (gb _ _) (Ņ _ _)
section
variable {X:Cx}{T:Tb}{a:Expr}{ca:Ex}{lo hi:Option Expr}{cl ch:jS}{pos p2:W3}
inductive Vl(K:Frag) (T:Tb) (c:jS) (σ:L2.St) (H:Hp) (Q:Option Int->Hp->Prop):Prop
 |mk (P:_) (env:_) (F:_) (y0:RE K P env σ H F) (o:_) (y1:iX T c env=.ok o) (y2:∀H',aG H H'->Q o H'):Vl K T c σ H Q
noncomputable def tO(K:Frag)(T:Tb)(c:jS):TO:=λσ H Q=>Vl K T c σ H Q
theorem zk{X:Cx}{e:Option Expr}{t t':TO}(h:PO X e t)(k:∀σ H Q,t' σ H Q->t σ H Q):PO X e t':=λpins s σ H Q I q=>h pins s σ H Q I (k σ H Q q)
theorem Ad:PO X ε (tO X.K T .none):=zk AA λσ H Q ⟨P,env,F,re,o,h,k⟩=>by
 unfold iX at h;cases h;exact k H (aG.refl _)
theorem Ag(h:PE X a (tE X.K T ca)):PO X (ζ a) (tO X.K T (.some ca)):=zk (z7 h) λσ H Q ⟨P,env,F,re,o,h,k⟩=>by
 unfold iX at h;obtain⟨p,h1,h2⟩:=Rs.HY h;refine⟨P,env,F,re,p,h1,λv H' G s rp rt=>?_⟩;split at h2
 .rename_i i hi;cases h2;rw[hi]at rp;obtain⟨rfl,rfl⟩:=rp.int_inv;exact⟨i,rfl,k H' s⟩
 .cases h2
theorem Gg(ha:PE X a (tE X.K T ca))(hl:PO X lo (tO X.K T cl))(hh:PO X hi (tO X.K T ch)):PE X (.Subscript a (.Slice lo hi ε p2) pos) (tE X.K T (.sl ca cl ch)):=by
 refine bB (xg (AB.or Du) ha hl hh) λσ H Q ⟨P,env,F,re,p,HZ,k⟩=>?_
 unfold ev at HZ;obtain⟨q,h1,HZ⟩:=Rs.HY HZ;obtain⟨ol,h2,HZ⟩:=Rs.HY HZ;obtain⟨oh,h3,HZ⟩:=Rs.HY HZ;obtain⟨d,h4,HZ⟩:=Rs.HY HZ;have h4:=bY h4;cases HZ;refine⟨P,env,F,re,q,h1,λv H1 G s rp rt=>⟨P,env,F,re.same s,ol,h2,λH2 s2=>⟨P,env,F,re.same (s.trans s2),oh,h3,λH3 s3=>?_⟩⟩⟩;have OR:=s2.trans s3;cases hq:q.1 with
 |lst xs=>
  rw[hq]at rp h4;cases h4;obtain⟨pa,vs,G',rfl,rfl,hr,rs⟩:=Rep.lst_inv (rp.same OR);refine .inl ⟨pa,vs,rfl,.inl hr,λpn hn=>?_⟩;obtain⟨G1,r1,u1⟩:=rs.drop (eO xs.length 0 ol);obtain⟨G2,r2,u2⟩:=r1.take (eO xs.length xs.length oh-eO xs.length 0 ol);have hc:vF vs ol oh=(vs.drop (eO xs.length 0 ol)).take (eO xs.length xs.length oh-eO xs.length 0 ol):=by
   unfold vF;rw[rs.len,xH,xH]
  rw[hc];have sub:∀a∈G2,a∈pa::G':=λa ha=>ae _ (u1.mem (u2.mem ha))
  obtain⟨Kj,nv⟩:=fZ (G0:=pa::G') r2 sub hn;have ar:Args X.K env F H H3 [q] [.ref pa] ((pa::G') ++ []):=.cons s (by rw[hq];exact rp) rt (.nil OR);rw[bh]at ar;exact k _ _ _ ((s.trans OR).trans nv.same) Kj (bH.new ar nv (by simp[aR]))
 |str z=>
  rw[hq]at rp h4;obtain⟨rfl,rfl⟩:=rp.str_inv;have h4:(if z.length<=lim then ζ (D.str ⟨(cut z.cps.toList ol oh).toArray⟩)else ε)=ζ d:=h4;by_cases hz:z.length<=lim
  .rw[if_pos hz]at h4;cases h4;exact .inr (⟨z,rfl,hz,k _ H3 [] (s.trans OR) (.str _) bH.nil⟩)
  .rw[if_neg hz]at h4;cases h4
 |_=>rw[hq]at h4;cases h4
end
variable {id:String}{l:List (Nat×Int)}{name:Str}{r:List Expr}
section
variable {X:Cx}{S:Sc}{T:Tb}
theorem zx(hf:∀e c,f e=ζ c->SE X T e c){o:Option Expr}{c:jS}(h:xB f o=ζ c):PO X o (tO X.K T c):=by
 cases o with
 |none=>cases h;exact Ad
 |some e=>
  have h:(f e).map jS.some=ζ c:=h;rw[aa]at h;obtain⟨d,h1,rfl⟩:=h;exact Ag (hf e d h1).1
theorem w6{x:String}{b:yn}(hf:∀e c,f e=ζ c->SE X T e c){p:W3}(hr:dH X (.builtin id) (mw X.K b))(hv:Op x=ζ (.builtin id))(hg:Gl X x)(hm:X.mg x=ε)(hn:cO x=δ)(ha:cI f (e::r)=ζ cs) :
  PE X (.Call (.Name x p) (e::r) [] pos) (tE X.K T (.blt b cs)):=by
 obtain⟨hs,_,_,_,h2,_⟩:=aZ ha;obtain⟨n1,n2,n3⟩:=cL hn;exact bB (cG hr hg hm hv (cJ hf ha) n3 n1 (aS hs) (eC h2)) λσ H Q h=>qq h
theorem GV{x:String}{b:yn}(hf:∀e c,f e=ζ c->SE X T e c){p:W3}(hr:dH X (.type id) (mw X.K b))(hv:Op x=ζ (.type id))(hg:Gl X x)(hm:X.mg x=ε)(hn:cO x=δ)(ha:cI f (e::r)=ζ cs) :
  PE X (.Call (.Name x p) (e::r) [] pos) (tE X.K T (.blt b cs)):=by
 obtain⟨hs,_,_,_,h2,_⟩:=aZ ha;obtain⟨n1,n2,n3⟩:=cL hn;exact bB (vA hr hg hm hv (cJ hf ha) n3 n1 (aS hs) (eC h2)) λσ H Q h=>qq h
theorem xk{t:Str}{u:String}(h:Dv t=ζ u):u∈iR/\Op t=ζ (.type u):=by
 unfold Dv at h;split at h
 .rename_i e;cases h;subst e;exact⟨by decide,boot_int⟩
 split at h
 .rename_i e;cases h;subst e;exact⟨by decide,boot_bool⟩
 split at h
 .rename_i e;cases h;subst e;exact⟨by decide,Ĝ⟩
 cases h
theorem By(C:Ctx X S T)(hf:∀e c,f e=ζ c->SE X T e c){p pos:W3}(h:uj S f x es=ζ c):PE X (.Call (.Name x p) es [] pos) (tE X.K T c):=by
 unfold uj at h;by_cases hk:(cO x&&pq S.sc x)=δ
 .rw[if_pos hk]at h;rw[ai]at hk;obtain⟨hn,hg⟩:=hk;have hg:=C.gl x hg;obtain⟨n1,n2,n3⟩:=cL hn;cases hi:idxOf S.fns x with
  |some i=>
   rw[hi]at h;dsimp only at h;rw[aa]at h;obtain⟨cs,h1,rfl⟩:=h;obtain⟨fa,fd,ps,k,FO,hr,hm,Wf,hb,hl⟩:=C.fns i x hi;cases es with
   |nil=>
    cases h1;refine bB (wL FO hr hg hm Wf hb .nil B4 n1) λσ H Q h=>?_
    have:=nS hl h;obtain⟨P,env,F,re,l,HZ,k⟩:=this;unfold aT at HZ;cases HZ;exact k [] H [] (.nil (aG.refl _))
   |cons e r=>
    obtain⟨hs,_,_,_,h2,_⟩:=aZ h1;exact bB (A3 FO hr hg hm Wf hb .nil B4 (cJ hf h1) n1 (aS hs) (eC h2)) λσ H Q h=>nS hl h
  |none=>
   rw[hi]at h;dsimp only at h;by_cases hb:S.dG.contains x=δ
   .rw[if_pos hb]at h;have hm:=C.dG x hb;by_cases hx:x = "isinstance"
    .rw[if_pos hx]at h;subst hx;unfold Gm at h;split at h
     .rename_i a t pt;by_cases hc:(pq S.sc t&&S.dG.contains t&&cO t&&notStar a)=δ
      .rw[if_pos hc]at h;simp only[ai]at hc;obtain⟨⟨⟨c1,c2⟩,c3⟩,c4⟩:=hc;rw[ag]at h;obtain⟨u,h1,h2⟩:=h;rw[aa]at h2;obtain⟨ca,h2,rfl⟩:=h2;obtain⟨hu,hbt⟩:=xk h1;obtain⟨m1,m2,m3⟩:=cL c3;refine bB (cG jO hg hm wf (aI (hf a ca h2).1 (aI (jy (v:=.ty u) (C.gl t c1) (C.dG t c2) hbt rfl m3 m1) bS rfl) (aS c4)) n3 n1 (aS c4) rfl) λσ H Q h=>xY hu h
      .rw[if_neg hc]at h;cases h
     .cases h
    .rw[if_neg hx]at h;by_cases Ru:x = "list"/\nP es=δ
     .rw[if_pos Ru]at h;obtain⟨rfl,_⟩:=Ru;unfold Cq at h;split at h
      .rename_i r pr OA pp zz;by_cases Q2:r = "range"
       .rw[if_pos Q2]at h;subst Q2;by_cases LD:jg S "range" = δ
        .rw[if_pos LD]at h;have J7:pq S.sc "range" = δ/\S.dG.contains "range" = δ:=by
          have:=LD;unfold jg at this
          rwa [ai]at this
         split at h
         .rename_i a;rw[aa]at h;obtain⟨cs,ha,rfl⟩:=h;obtain⟨n1,c1,d1,_,hd,_⟩:=aZ ha;exact uh C.calm hg hm (C.gl _ J7.1) (C.dG _ J7.2) (cJ hf ha) ⟨_,_,rfl,aS n1,rfl⟩
         .rename_i a b;rw[aa]at h;obtain⟨cs,ha,rfl⟩:=h;obtain⟨n1,c1,d1,_,hd,_⟩:=aZ ha;obtain⟨n2,_,_,_,_,_⟩:=aZ hd;exact uh C.calm hg hm (C.gl _ J7.1) (C.dG _ J7.2) (cJ hf ha) ⟨_,_,rfl,aS n1,by rw[aS n2];rfl⟩
         .cases h
        .rw[if_neg LD]at h;cases h
       .rw[if_neg Q2]at h;cases h
      .cases h
     rw[if_neg Ru]at h;cases es with
     |nil=>cases h
     |cons e r=>
      dsimp only at h;rw[ag]at h;obtain⟨b,h1,h2⟩:=h;rw[aa]at h2;obtain⟨cs,h2,rfl⟩:=h2;unfold FU at h1;split at h1
      .rename_i e;cases h1;subst e;exact w6 hf vc boot_len hg hm hn h2
      split at h1
      .rename_i e;cases h1;subst e;exact w6 hf (uH C.calm) boot_all hg hm hn h2
      split at h1
      .rename_i e;cases h1;subst e;exact GV hf (sN C.calm) Ĝ hg hm hn h2
      split at h1
      .rename_i e;cases h1;subst e;exact w6 hf (sU C.calm C.units.1) boot_min hg hm hn h2
      split at h1
      .rename_i e;cases h1;subst e;exact GV hf vi boot_int hg hm hn h2
      split at h1
      .rename_i e;cases h1;subst e;exact w6 hf (uM C.calm) boot_sum hg hm hn h2
      split at h1
      .rename_i e;cases h1;subst e;exact w6 hf oo boot_sorted hg hm hn h2
      cases h1
   .rw[if_neg hb]at h;cases h
 .rw[if_neg hk]at h;cases h
theorem Ee(hu:X.A.units+40<W8)(hf:∀e c,f e=ζ c->SE X T e c){apos cpos:W3}(h:An f o name es apos cpos=ζ c):PE X (.Call (.Attribute o name apos) es [] cpos) (tE X.K T c):=by
 unfold An at h;split at h
 .rename_i e;by_cases hk:(apos.endLine==cpos.line&&zH o)=δ
  .rw[if_pos hk]at h;rw[ai]at hk;have hb:Zz o name X.env (eval o X.env)=eval o X.env:=by
    obtain⟨_,hk⟩:=hk;cases o<;>first|rfl | (cases hk;done)|skip
    rename_i g as ks cp;cases as with
    |nil=>cases hk
    |cons a r=>cases g<;>rfl
   by_cases Rx:name = "join"
   .rw[if_pos Rx,ag]at h;subst Rx;obtain⟨co,ho,h⟩:=h;rw[ag]at h;obtain⟨cs,hc,h⟩:=h;obtain⟨ns,ce,d,he,hd,rfl⟩:=aZ hc;cases hd;cases h;refine bB (ze YW PySem.F.slot_str_join PySem.F.type_str_join Aq (hf o co ho).1 (cJ hf hc) hb ?_ hk.1 (aS ns) rfl) λσ H Q h=>u6 h
    rw[aS ns];rfl
   rw[if_neg Rx,ag]at h;obtain⟨m,hm,h⟩:=h;rw[ag]at h;obtain⟨co,ho,h⟩:=h;rw[ag]at h;obtain⟨cs,hc,h⟩:=h;obtain⟨ns,ce,d,he,hd,rfl⟩:=aZ hc;cases hd;cases h;unfold Cy at hm;split at hm
   .rename_i e;cases hm;subst e;refine bB (ze YW YU PySem.F.type_str_index yh (hf o co ho).1 (cJ hf hc) hb ?_ hk.1 (aS ns) rfl) λσ H Q h=>wy h
    rw[aS ns];rfl
   .cases hm
  .rw[if_neg hk]at h;cases h
 .cases h
theorem uw{t:kh}(h:uC own t=δ)(i:Nat)(hi:t=.nm i\/∃is,t=.tp is/\i∈is):(dQ own pick)[i]? = ζ ε:=by
 have:i<own:=by
  rcases hi with rfl|⟨is,rfl,hm⟩
  .simpa[uC]using h
  .simp only[uC,cq,decide_eq_true_eq]at h;exact h i hm
 unfold dQ;rw[Ψ (by simpa using this),u8,if_pos this]
structure nj(X:Cx)(S:Sc)(T:Tb)(elt tg wl:Expr)(ifs:List Expr)(sc:Db)(c:Ex):Prop where
 ex:∃pick t it ci ce,c=.comp (bF sc).length pick t it ci ce/\dN X sc (bF sc++bI sc) (dQ (bF sc).length pick)/\PI X tg wl (tI X.K T it) /\
  (∀C s0 H0 ex,PG (inner X sc (bF sc++bI sc) C s0 H0 ex) tg (pX X.K t)/\EZ (inner X sc (bF sc++bI sc) C s0 H0 ex) ifs (DG X.K T ci)/\PE (inner X sc (bF sc++bI sc) C s0 H0 ex) elt (tE X.K T ce)) /\
  uC (bF sc).length t=δ/\fM wl=δ
variable {sc:Db}
theorem lu(C:Ctx X S T){f:Sc->Expr->Option Ex}(hf:∀{X:Cx}{S:Sc},Ctx X S T->∀e c,f S e=ζ c->SE X T e c)(h:qQ S f elt tg wl ifs sc=ζ c):nj X S T elt tg wl ifs sc c:=by
 unfold qQ at h;by_cases hk:(jN S sc&&fM wl)=δ
 .rw[if_pos hk]at h;rw[ai]at hk;rw[ag]at h;obtain⟨it,h1,h⟩:=h;rw[ag]at h;obtain⟨pick,h2,h⟩:=h;rw[ag]at h;obtain⟨t,h3,h⟩:=h;by_cases ho:uC (bF sc).length t=δ
  .rw[if_pos ho]at h;rw[ag]at h;obtain⟨ci,h4,h⟩:=h;rw[aa]at h;obtain⟨ce,h5,rfl⟩:=h;refine⟨pick,t,it,ci,ce,rfl,rK C hk.1 h2,zh C (hf C) h1,λCa s0 H0 ex=>?_,ho,hk.2⟩;have C':=vt C hk.1 Ca s0 H0 ex;refine⟨rY C' h3,?_,(hf C' elt ce h5).1⟩;unfold GI at h4;split at h4
   .cases h4;exact AN
   .rw[aa]at h4;obtain⟨cc,h4,rfl⟩:=h4;exact Ao (hf C' _ cc h4).2
   .cases h4
  .rw[if_neg ho]at h;cases h
 .rw[if_neg hk]at h;cases h
theorem BS(C:Ctx X S T){pos:W3}(h:nj X S T elt tg wl ifs sc c):PE X (.ListComp elt [⟨tg,wl,ifs,0⟩] sc pos) (tE X.K T c):=by
 obtain⟨pick,t,it,ci,ce,rfl,h1,h2,h3,h4,h5⟩:=h;exact bB (AK h1 C.calm h2 h3 (mS (uw h4)) (oW h5)) λσ H Q h=>nM h
theorem A2(C:Ctx X S T)(hf:∀e c,f e=ζ c->SE X T e c){kn:Str}{a d:Expr}{p kp pos:W3}(h:uq S f x a d kn=ζ c):PE X (.Call (.Name x p) [a] [⟨ζ kn,d,kp⟩] pos) (tE X.K T c):=by
 unfold uq at h;split at h
 .rename_i e1;subst e1;split at h
  .rename_i e2;subst e2;by_cases LD:(jg S "max" && notStar a)=δ
   .rw[if_pos LD,ag]at h;obtain⟨ca,h1,h⟩:=h;rw[aa]at h;obtain⟨cd,h2,rfl⟩:=h;rw[ai]at LD;have J7:pq S.sc "max" = δ/\S.dG.contains "max" = δ:=by
     have:=LD.1;unfold jg at this
     rwa [ai]at this
    exact zX C.calm (C.gl _ J7.1) (C.dG _ J7.2) (hf a ca h1).1 (hf d cd h2).1 (aS LD.2)
   .rw[if_neg LD]at h;cases h
  .cases h
 .cases h
theorem uY{k:Option Expr}(h:zQ k=ζ x):∃p,k=ζ (.Name x p):=by
 cases k with
 |none=>cases h
 |some e=>cases e<;>first | (cases h;exact⟨_,rfl⟩) | (cases h)
theorem wg{v:Int}(h:D2 e=ζ v):∃a b,e = .Constant (.int v) a b:=by
 cases e with
 |Constant c a b=>cases c<;>first | (cases h;exact⟨_,_,rfl⟩) | (cases h)
 |_=>cases h
theorem uz(C:Ctx X S T){pos:W3}:∀{ks:List (Option Expr)}{vs:List Expr}{l:List (Nat×Int)},yd S ks vs=ζ l->∃us:List (V×Int),GC X pos ks vs (us.map λq=>(tC q.1,tC (.int q.2)))/\X9 (λ(q:Nat×Int) (u:V×Int)=>q.2=u.2/\∀H,Rep X.K H (T.gl q.1) u.1 []) l us/\ks.all (·.isSome)=δ/\ks.length=vs.length/\ks.length=l.length
 |[],[],l,h=>by cases h;exact⟨[],AH,.nil,rfl,rfl,rfl⟩
 |k::ks,e::vs,l,h=>by
  have hA:((zQ k).bind λx=>(D2 e).bind λv=>if cO x&&pq S.sc x then(idxOf S.sY x).bind λi=>(yd S ks vs).map λl=>(i,v)::l else ε)=ζ l:=h;clear h;obtain⟨x,hx,hB⟩:=ag.mp hA;clear hA;obtain⟨v,hv,hD⟩:=ag.mp hB;clear hB;obtain⟨p,e1⟩:=uY hx;obtain⟨a,b,e2⟩:=wg hv;rw[e1,e2];by_cases hc:(cO x&&pq S.sc x)=δ
  .rw[if_pos hc]at hD;rw[ai]at hc;obtain⟨i,h1,hE⟩:=ag.mp hD;obtain⟨l',h2,rfl⟩:=aa.mp hE;obtain⟨us,g1,g2,g3,g4,g5⟩:=uz C (pos:=pos) h2;obtain⟨u,w,e1,e2,e3⟩:=C.sY i x h1;obtain⟨n1,n2,n3⟩:=cL hc.1;exact⟨(u,v)::us,xW (eT (C.gl x hc.2) e1 e2 n1) rC g1,.cons ⟨rfl,e3⟩ g2,by rw[g7,g3];rfl,by rw[av,av,g4],by rw[av,av,g5]⟩
  .rw[if_neg hc]at hD;cases hD
 |[],_::_,l,h=>by cases h
 |_::_,[],l,h=>by cases h
theorem pZ{Q:List (V×V)->Hp->Prop}{σ:L2.St}:∀{us:List (V×Int)},Q (us.map λq=>(q.1,.int q.2)) H->kK (us.map λq=>(tC q.1,tC (.int q.2))) σ H Q
 |[],h=>h
 | (u,i)::us,h=>by
  show kK (us.map λq=>(tC q.1,tC (.int q.2))) σ H (λps H3=>Q ((u,.int i)::ps) H3);exact pZ (us:=us) (Q:=λps H3=>Q ((u,.int i)::ps) H3) h
theorem BH{gl:Nat->D}{us:List (V×Int)}(r:X9 (λ(q:Nat×Int) (u:V×Int)=>q.2=u.2/\∀H,Rep K H (gl q.1) u.1 []) l us) :
  ∀{ks Mh:List (Int×MV)}{xs:List (Key×V)},BQ gl l ks=ζ Mh->(∀H,kD K H ks xs)->∃kvs:List (Key×V),(us.map λq=>(q.1,(.int q.2:V)))=kvs.map (λkv=>(kV kv.1,kv.2))/\kvs.length=l.length/\∀H,kD K H Mh (gN xs kvs):=by
 induction r with
 |nil=>intro ks Mh xs h k;cases h;exact⟨[],rfl,rfl,k⟩
 |@cons q u l us h0 t ih=>
  intro ks Mh xs h k;unfold BQ at h;split at h
  .rename_i i hi;have r1:=h0.2 λ_=>ε
   rw[hi]at r1;obtain⟨e,_⟩:=r1.int_inv;obtain⟨kvs,e1,e2,e3⟩:=ih (xs:=putK xs (.inl i) (.int q.2)) h (λH=>(k H).put i (m:=.int q.2) rfl);refine⟨(.inl i,.int q.2)::kvs,?_,by rw[av,av,e2],e3⟩;rw[a9,a9,e1,<-h0.1,e];rfl
  .cases h
theorem Ei(C:Ctx X S T){pos:W3}{ks:List (Option Expr)}{vs:List Expr}(h:yd S ks vs=ζ l)(h0:ks≠[])(Fx:ks.length<=15):PE X (.Dict ks vs pos) (tE X.K T (.K5 l)):=by
 obtain⟨us,g1,g2,g3,g4,g5⟩:=uz C (pos:=pos) h;refine bB (Am g1 g3 g4 h0 Fx) λσ H Q ⟨P,env,F,re,p,HZ,k⟩=>?_
 unfold ev at HZ;obtain⟨Mh,h1,HZ⟩:=Rs.HY HZ;cases HZ;intro a ha;obtain⟨kvs,e1,e2,e3⟩:=BH g2 (bY h1) (xs:=[]) λ_=>trivial
 refine pZ ⟨aK,kvs,e1,by omega,?_⟩;have eu:upd (upd H a (.dK [])) a (.dK (gN [] kvs))=upd H a (.dK (gN [] kvs)):=by
  funext b;by_cases e:b=a
  .rw[e,aK,aK]
  .rw[aE e,aE e,aE e]
 rw[eu];refine k _ _ [a] (aG.new ha) (.IA (xs:=gN [] kvs) aK (e3 _)) ⟨λb hb=>?_,λR hR=>⟨by simp,λb hb=>?_,λb hb=>?_⟩⟩
 .obtain rfl:=gr.mp hb;exact .inl ha
 .obtain rfl:=gr.mp hb;exact⟨.k _,aK⟩
 .obtain rfl:=gr.mp hb;exact .inl ha
theorem cR:∀(n:Nat) {X:Cx}{S:Sc}{T:Tb}(C:Ctx X S T) (e:Expr) (c:Ex),cE n S e=ζ c->SE X T e c:=by
 intro n
 induction n with
 |zero=>intro X S T C e c h;cases h
 |succ n ih=>
  intro X S T C e c h;have Je:=ih C;cases e with
  |Name x p=>
   have h:yH S x=ζ c:=h;unfold yH at h;by_cases hn:cO x=δ
   .rw[if_pos hn]at h;obtain⟨n1,n2,n3⟩:=cL hn;by_cases hv:mH S.sc x=δ
    .rw[if_pos hv,aa]at h;obtain⟨i,h1,rfl⟩:=h;have hi:=bL h1;rw[<-C.N]at hi;have:=Dy (T:=T) (pos:=p) hi (C.LZ x hv) n1 n2;exact⟨this,cH this λ_=>rfl⟩
    .rw[if_neg hv]at h;by_cases hg:pq S.sc x=δ
     .rw[if_pos hg,aa]at h;obtain⟨i,h1,rfl⟩:=h;obtain⟨v,u,g1,g2,g3⟩:=C.sY i x h1;have:=Dt (eT (pos:=p) (C.gl x hg) g1 g2 n1) g3;exact⟨this,cH this λ_=>rfl⟩
     .rw[if_neg hg]at h;cases h
   .rw[if_neg hn]at h;cases h
  |Constant k x1 p=>
   have h:Hj k=ζ c:=h;cases k with
   |int i=>cases h;exact⟨iG (T:=T) rC λH=>Rep.int _,cH (iG (T:=T) rC λH=>Rep.int _) λ_=>rfl⟩
   |bool b=>cases h;exact⟨iG (T:=T) qK λH=>Rep.bl _,cH (iG (T:=T) qK λH=>Rep.bl _) λ_=>rfl⟩
   |none=>cases h;exact⟨iG (T:=T) pf λH=>Rep.Ii,cH (iG (T:=T) pf λH=>Rep.Ii) λ_=>rfl⟩
   |str s=>cases h;exact⟨iG (T:=T) qX λH=>Rep.str _,cH (iG (T:=T) qX λH=>Rep.str _) λ_=>rfl⟩
   |_=>cases h
  |BinOp a op b p=>
   have h:DD (cE n S) a op b=ζ c:=h;unfold DD at h;rw[ag]at h;obtain⟨ca,h1,h⟩:=h;rw[aa]at h;obtain⟨cb,h2,rfl⟩:=h;have:=CP (pos:=p) (Bm op) (Je a ca h1).1 (Je b cb h2).1;exact⟨this,cH this λ_=>rfl⟩
  |UnaryOp op a p=>
   have h:Wz op (cE n S a)=ζ c:=h;cases op with
   |USub=>
    have h:(cE n S a).map .neg=ζ c:=h;rw[aa]at h;obtain⟨ca,h1,rfl⟩:=h;have:=Em (pos:=p) (Je a ca h1).1;exact⟨this,cH this λ_=>rfl⟩
   |Not=>
    have h:(cE n S a).map .not=ζ c:=h;rw[aa]at h;obtain⟨ca,h1,rfl⟩:=h;exact⟨Eh (Je a ca h1).1,Dg (Je a ca h1).2⟩
   |_=>cases h
  |BoolOp op es p=>
   have h:Hq (cE n S) op es=ζ c:=h;have⟨h1,h2⟩:=CD (pos:=p) Je h;exact⟨h1,h2.pt⟩
  |Compare a ops bs p=>
   have h:FE (cE n S) a ops bs=ζ c:=h;cases ops with
   |nil=>cases h
   |cons op r=>cases r with
    |nil=>cases bs with
     |nil=>cases h
     |cons b r2=>cases r2 with
      |cons _ _=>cases h
      |nil=>
       have h:xG (cE n S) a op b=ζ c:=h;unfold xG at h;by_cases hb:At op b=δ
       .rw[if_pos hb]at h;cases h
       .rw[if_neg hb]at h;have hb:At op b=γ:=by simpa using hb
        rw[ag]at h;obtain⟨ca,h1,h⟩:=h;rw[aa]at h;obtain⟨cb,h2,rfl⟩:=h;exact⟨C4 (sZ op C.units) (Je a ca h1).1 (Je b cb h2).1 hb,EM C.units (Je a ca h1).1 (Je b cb h2).1 hb⟩
    |cons op' r2=>cases h
  |IfExp t a b p=>
   have h:((cE n S t).bind λcc=>(cE n S a).bind λca=>(cE n S b).map λcb=>.ite cc ca cb)=ζ c:=h;rw[ag]at h;obtain⟨cc,h1,h⟩:=h;rw[ag]at h;obtain⟨ca,h2,h⟩:=h;rw[aa]at h;obtain⟨cb,h3,rfl⟩:=h;exact⟨ES (Je t cc h1).2 (Je a ca h2).1 (Je b cb h3).1,ER (Je t cc h1).2 (Je a ca h2).2 (Je b cb h3).2⟩
  |List es p=>
   have h:(cI (cE n S) es).map .lst=ζ c:=h;rw[aa]at h;obtain⟨cs,h1,rfl⟩:=h;have:=Eb (pos:=p) (cJ Je h1);exact⟨this,cH this λ_=>rfl⟩
  |Dict ks vs p=>
   have h:EO S ks vs=ζ c:=h;unfold EO at h;split at h
   .cases h;have:PE X (.Dict [] [] p) (tE X.K T .KC):=bB vX λσ H Q h=>uN h
    exact⟨this,cH this λ_=>rfl⟩
   .split at h
    .rename_i hl;obtain⟨l,h1,rfl⟩:=aa.mp h;have:=Ei (pos:=p) C h1 (by simp) hl;exact⟨this,cH this λ_=>rfl⟩
    .cases h
   .cases h
  |Tuple es x1 p=>
   have h:(cI (cE n S) es).map .tup=ζ c:=h;rw[aa]at h;obtain⟨cs,h1,rfl⟩:=h;have:=Dr (pos:=p) (x1:=x1) (cJ Je h1);exact⟨this,cH this λ_=>rfl⟩
  |Subscript a b p=>
   have h:B5 (cE n S) a b=ζ c:=h;by_cases hb:fJ b=δ
   .have h:(if fJ b then(cE n S a).bind λca=>(cE n S b).map λcb=>.ix ca cb else ε)=ζ c:=by
     cases b<;>first|exact h|cases hb
    rw[if_pos hb]at h;rw[ag]at h;obtain⟨ca,h1,h⟩:=h;rw[aa]at h;obtain⟨cb,h2,rfl⟩:=h;have:=FY (pos:=p) (AS C.units.2) (Je a ca h1).1 (Je b cb h2).1 (qv hb);exact⟨this,cH this λ_=>rfl⟩
   .cases b with
    |Slice lo hi st p2=>
     cases st with
     |none=>
      have h:((cE n S a).bind λca=>(xB (cE n S) lo).bind λl=>(xB (cE n S) hi).map λh=>.sl ca l h)=ζ c:=h;rw[ag]at h;obtain⟨ca,h1,h⟩:=h;rw[ag]at h;obtain⟨cl,h2,h⟩:=h;rw[aa]at h;obtain⟨ch,h3,rfl⟩:=h;have:=Gg (pos:=p) (p2:=p2) (Je a ca h1).1 (zx Je h2) (zx Je h3);exact⟨this,cH this λ_=>rfl⟩
     |some _=>cases h
    |_=>exact absurd rfl hb
  |Call g es ks pos=>
   have h:xi S (cE n S) g es ks pos=ζ c:=h;cases g with
   |Name x p=>
    have h:ym S (cE n S) x es ks=ζ c:=h;cases ks with
    |nil=>
     have h:uj S (cE n S) x es=ζ c:=h;have:=By (p:=p) (pos:=pos) C Je h;exact⟨this,cH this λ_=>rfl⟩
    |cons k r=>cases r with
     |cons _ _=>obtain⟨_,_,_⟩:=k;cases h
     |nil=>
      obtain⟨k,d,kp⟩:=k;cases k with
      |none=>cases h
      |some kn=>cases es with
       |nil=>cases h
       |cons a r2=>cases r2 with
        |cons _ _=>cases h
        |nil=>
         have h:uq S (cE n S) x a d kn=ζ c:=h;have:=A2 (p:=p) (kp:=kp) (pos:=pos) C Je h;exact⟨this,cH this λ_=>rfl⟩
   |Attribute o name apos=>
    cases ks with
    |nil=>
     have h:An (cE n S) o name es apos pos=ζ c:=h;have:=Ee (apos:=apos) (cpos:=pos) C.units.1 Je h;exact⟨this,cH this λ_=>rfl⟩
    |cons _ _=>cases h
   |_=>cases h
  |ListComp elt gens sc pos=>
   have h:WA S (cE n) elt sc gens=ζ c:=h;cases gens with
   |nil=>cases h
   |cons g r=>cases r with
    |cons _ _=>obtain⟨_,_,_,_⟩:=g;cases h
    |nil=>
     obtain⟨tg,wl,ifs,as⟩:=g;have h:(if as=0 then qQ S (cE n) elt tg wl ifs sc else ε)=ζ c:=h;by_cases ha:as=0
     .rw[if_pos ha]at h;subst ha;have:=BS (pos:=pos) C (lu C (λC'=>ih C') h);exact⟨this,cH this λ_=>rfl⟩
     .rw[if_neg ha]at h;cases h
  |_=>cases h
end
structure r8(X:Cx)(S:Sc)(T:Tb):Prop where
 c:Ctx X S T
 sc:X.env.scope=S.sc
 fn:S.sc.kind=.function
 own:XI (Α X.prog X.w) X.A X.env X.xe
 nx:∀e s,X.xe e s->False
noncomputable def CI(m:Str):Option qW:=if m = "append" then ζ .append else if m = "extend" then ζ .extend else ε
noncomputable def lE(n:Nat)(S:Sc):Expr->Option (Nat×jS)
 |.Name x _=>if cO x&&mH S.sc x then(idxOf S.N x).map λi=>(i,.none)else ε
 |.Subscript (.Name x _) e _=>if cO x&&mH S.sc x&&fJ e then(idxOf S.N x).bind λi=>(cE n S e).map λc=>(i,.some c)else ε
 |_=>ε
noncomputable def wV:Expr->Bool
 |.Constant (.bool δ) _ _=>δ
 |.Tuple _ _ _=>δ
 |.IfExp _ _ _ _=>δ
 |_=>γ
noncomputable def DW(n:Nat)(S:Sc)(tg e:Expr):Option St:=match tg with
 |.Name x px=>match e with
  |.ListComp elt [⟨ON,wl,ifs,0⟩] sc p=>if jm S.sc x then(idxOf S.N x).bind λi=>(cE n S (.ListComp elt [⟨ON,wl,ifs,0⟩] sc p)).map λc=>.asg (.nm i) c γ else ε
  |e=>if fD e then ε else if jm S.sc x then(idxOf S.N x).bind λi=>(cE n S e).map λc=>.asg (.nm i) c γ else ε
 |.Tuple es k p=>if fD e || isTup e then ε else(kM S es).bind λis=>(cE n S e).map λc=>.asg (.tp is) c γ
 |.Subscript o ix p=>if wV e then(if fJ ix then(match lE n S o with
   |some (i,.none)=>(cE n S ix).bind λci=>(cE n S e).map λce=>.JN i ci ce
   |_=>ε)else ε)else if fD e || !fJ ix then ε else(lE n S o).bind λq=>(cE n S ix).bind λci=>(cE n S e).map λc=>.Ir q.1 q.2 ci c
 |_=>ε
noncomputable def EH(n:Nat)(S:Sc)(o:Expr)(name:Str)(es:List Expr)(apos cpos:W3):Option St:=
 if apos.endLine==cpos.line then((CI name).bind λm=>(lE n S o).bind λq=>match es with
  |[a]=>(cI (cE n S) [a]).map λcs=>.mut q.1 q.2 m cs
  |_=>ε)
 else ε
noncomputable def C3(n:Nat)(S:Sc)(tg:Expr)(op:FM)(e:Expr):Option St:=match tg with
 |.Name x _=>if jm S.sc x&&(op == .Add || op == .Sub)then(idxOf S.N x).bind λi=>(cE n S e).map λc=>.aug i op c else ε
 |_=>ε
noncomputable def Fb(n:Nat)(S:Sc)(e:Expr):Option St:=if fD e then ε else(cE n S e).map .expr
noncomputable def GG(n:Nat)(S:Sc):Expr->Option St
 |.Call g es ks cpos=>(match g with
  |.Attribute o name apos=>(match ks with
   |[]=>EH n S o name es apos cpos
   |k::ks=>Fb n S (.Call (.Attribute o name apos) es (k::ks) cpos))
  |g=>Fb n S (.Call g es ks cpos))
 |e=>Fb n S e
noncomputable def WB(n:Nat)(S:Sc)(e:Expr):List Expr->Option St
 |[]=>ε
 |[tg]=>DW n S tg e
 |_::_::_=>ε
noncomputable def Uj(n:Nat)(S:Sc):Option Expr->Option St
 |none=>ε
 |some e=>(cE n S e).map .ret
noncomputable def Uk(n:Nat)(S:Sc)(tg wl:Expr)(ob:Option bV):List xL->Option St
 |[]=>if fM wl then(sg S tg).bind λt=>ob.bind λcb=>(E5 S (cE n S) (isTup tg) wl).map λit=>.Ie t it cb else ε
 |_::_=>ε
noncomputable def Ui(n:Nat)(S:Sc)(e:Expr)(ob:Option bV):List xL->Option St
 |[]=>(cE n S e).bind λc=>ob.map λcb=>.K8 c cb
 |_::_=>ε
mutual
noncomputable def cS:Nat->Sc->xL->Option St
 |0,_,_=>ε
 |n+1,S,st=>match st with
  |.Assign OM e _=>WB n S e OM
  |.AugAssign tg op e _=>C3 n S tg op e
  |.Expr e _=>GG n S e
  |.Return o _=>Uj n S o
  |.If e a b _=>(cE n S e).bind λc=>(sJ n S a).bind λca=>(sJ n S b).map λcb=>.ite c ca cb
  |.For tg wl b oe _=>Uk n S tg wl (sJ n S b) oe
  |.While e b oe _=>Ui n S e (sJ n S b) oe
  |.Try b hs oe fb _=>match hs,oe,fb with
   |[_],[],[]=>(sJ n S b).map λcb=>.ite (.cst (.bl δ)) cb .nil
   |_,_,_=>ε
  |.Raise _ _ _=>ζ (.expr (.neg (.cst .Ii)))
  |_=>ε
noncomputable def sJ:Nat->Sc->List xL->Option bV
 |0,_,_=>ε
 |_+1,_,[]=>ζ .nil
 |n+1,S,s::r=>(cS n S s).bind λc=>(sJ n S r).map λd=>.cons c d
end
theorem pg{t:Option Expr}{l:Nat}(h:fD e=γ):W7 e t l env=pure γ:=by
 cases e<;>first|rfl | (cases h)
theorem nZ{t:Expr}{l:Nat}(h:fD e=γ):Zx [t] e l env=pure γ:=pg h
variable {q:Nat×jS}
section
variable {X:Cx}{S:Sc}{T:Tb}
theorem AI:PS X st (tS X.K T (.expr (.neg (.cst .Ii)))):=by
 intro pins s σ H D I h;obtain⟨P,Z,env,F,re,hz,zp,h⟩:=h;exact h.elim
theorem oO(C:Ctx X S T)(h:lE n S o=ζ q):PE X o (ma X.K T q.1 q.2):=by
 unfold lE at h;split at h
 .rename_i x p;by_cases hk:(cO x&&mH S.sc x)=δ
  .rw[if_pos hk,aa]at h;rw[ai]at hk;obtain⟨i,h1,rfl⟩:=h;obtain⟨n1,n2,n3⟩:=cL hk.1;have hi:=bL h1;rw[<-C.N]at hi;exact Dz hi (C.LZ x hk.2) n1 n2
  .rw[if_neg hk]at h;cases h
 .rename_i x p e pos;by_cases hk:(cO x&&mH S.sc x&&fJ e)=δ
  .rw[if_pos hk,ag]at h;rw[ai,ai]at hk;obtain⟨i,h1,h⟩:=h;rw[aa]at h;obtain⟨c,h2,rfl⟩:=h;obtain⟨n1,n2,n3⟩:=cL hk.1.1;have hi:=bL h1;rw[<-C.N]at hi;exact A7 hi (C.LZ x hk.1.2) n1 n2 (cR n C e c h2).1 (qv hk.2)
  .rw[if_neg hk]at h;cases h
 .cases h
theorem vg(h:lE n S o=ζ q):Zz o name env (eval o env)=eval o env:=by
 unfold lE at h;split at h
 .rfl
 .rfl
 .cases h
theorem DB(C:r8 X S T){c:St}(h:DW n S tg e=ζ c):PS X (.Assign [tg] e pos) (tS X.K T c):=by
 have hN:=C.c.nd;rw[<-C.c.N]at hN;unfold DW at h;split at h
 .rename_i x px;split at h
  .rename_i elt ON wl ifs sc p;by_cases hl:jm S.sc x=δ
   .rw[if_pos hl,ag]at h;obtain⟨i,h1,h⟩:=h;rw[aa]at h;obtain⟨ce,h2,rfl⟩:=h;have hi:=bL h1;rw[<-C.c.N]at hi;have M2:W7 (.ListComp elt [⟨ON,wl,ifs,0⟩] sc p) (ζ (.Name x px)) pos.line X.env=pure (X.env.blockKind == .function&&X.env.kindOf x==ζ .local&&px.line==p.line && !(sc.names.any λ(n,k)=>n==x&&(k == .local || k == .cell))):=rfl;cases hb:(X.env.blockKind == .function&&X.env.kindOf x==ζ .local&&px.line==p.line && !(sc.names.any λ(n,k)=>n==x&&(k == .local || k == .cell)))with
    |false=>
     rw[hb]at M2;exact zC hN hi (C.c.loc x hl).1 (cR n C.c _ _ h2).1 M2 (C.c.loc x hl).2
    |true=>
     rw[hb]at M2;cases n with
     |zero=>cases h2
     |succ n=>
      have h2:qQ S (cE n) elt ON wl ifs sc=ζ ce:=h2;obtain⟨pick,t,it,ci,ce',rfl,g1,g2,g3,g4,g5⟩:=lu C.c (λC'=>cR n C') h2;refine dJ (rj g1 C.c.calm g2 g3 (mS (uw g4)) (oW g5) hN hi (C.c.loc x hl).1 (C.c.loc x hl).2 M2) λD σ H h=>?_
      obtain⟨P,Z,env,F,re,hz,zp,h⟩:=h;unfold cP at h;obtain⟨p,hp,h⟩:=bW h;exact nM ⟨P,env,F,re,p,hp,λv H' G s rp rt=>rV re hz zp s rp rt h⟩
   .rw[if_neg hl]at h;cases h
  .by_cases hc:fD e=δ
   .rw[if_pos hc]at h;cases h
   .rw[if_neg hc]at h;by_cases hl:jm S.sc x=δ
    .rw[if_pos hl,ag]at h;obtain⟨i,h1,h⟩:=h;rw[aa]at h;obtain⟨ce,h2,rfl⟩:=h;have hi:=bL h1;rw[<-C.c.N]at hi;exact zC hN hi (C.c.loc x hl).1 (cR n C.c _ _ h2).1 (pg (by simpa using hc)) (C.c.loc x hl).2
    .rw[if_neg hl]at h;cases h
 .rename_i es k p;by_cases hc:(fD e || isTup e)=δ
  .rw[if_pos hc]at h;cases h
  .rw[if_neg hc,ag]at h;simp only[eh,not_or,í]at hc;obtain⟨is,h1,h⟩:=h;rw[aa]at h;obtain⟨ce,h2,rfl⟩:=h;obtain⟨a1,a2,a3⟩:=pY C.c h1;refine Bw (xw C.c.calm a1 a2 a3) (cR n C.c _ _ h2).1 (nZ hc.1) ?_ rfl;obtain⟨_,hc⟩:=hc;cases e<;>first|rfl | (cases hc)
 .rename_i o ix p;by_cases ht:wV e=δ
  .rw[if_pos ht]at h;by_cases hp:fJ ix=δ
   .rw[if_pos hp]at h;split at h
    .rename_i i hq;rw[ag]at h;obtain⟨ci,h2,h⟩:=h;rw[aa]at h;obtain⟨ce,h3,rfl⟩:=h;have Rg:PE X o (ma X.K T i .none):=oO C.c hq;refine dJ (xy ?_ Rg (cR n C.c _ _ h2).1 (cR n C.c _ _ h3).1 ?_) λD σ H h=>uV h
     .have:=C.c.units;omega
     .cases e<;>first|rfl | (cases ht)
    .cases h
   .rw[if_neg hp]at h;cases h
  rw[if_neg ht]at h;by_cases hc:(fD e || !fJ ix)=δ
  .rw[if_pos hc]at h;cases h
  .rw[if_neg hc,ag]at h;simp only[eh,not_or,í,Bool.not_eq_false']at hc;obtain⟨q,h1,h⟩:=h;rw[ag]at h;obtain⟨ci,h2,h⟩:=h;rw[aa]at h;obtain⟨ce,h3,rfl⟩:=h;refine dJ (wK (cR n C.c _ _ h3).1 (DC (oO C.c h1) (cR n C.c _ _ h2).1 set_list ?_) (nZ hc.1) ?_ rfl) λD σ H h=>wx h
   .intro v;obtain⟨_,hc⟩:=hc;cases ix<;>first|rfl | (cases hc)
   .cases e<;>rfl
 .cases h
theorem DP(C:r8 X S T){c:St}{apos cpos:W3}(h:EH n S o name es apos cpos=ζ c):PS X (.Expr (.Call (.Attribute o name apos) es [] cpos) pos) (tS X.K T c):=by
 unfold EH at h;by_cases hl:(apos.endLine==cpos.line)=δ
 .rw[if_pos hl]at h;rw[ag]at h;obtain⟨m,hm,h⟩:=h;rw[ag]at h;obtain⟨q,hq,h⟩:=h;have slot:∃id,PySem.Slot "list" name id/\Ļ (.builtin id)=pure (.type "method_descriptor")/\PF X id (As X.K m):=by
   unfold CI at hm;split at hm
   .rename_i e;cases hm;subst e;exact⟨_,PySem.F.slot_list_append,by rfl,sf⟩
   split at hm
   .rename_i e;cases hm;subst e;exact⟨_,PySem.F.slot_list_extend,by rfl,rW⟩
   cases hm
  obtain⟨id,s1,s2,s3⟩:=slot;split at h
  .rename_i a;rw[aa]at h;obtain⟨cs,ha,rfl⟩:=h;obtain⟨n1,c1,d1,_,hd,_⟩:=aZ ha;refine dJ (t6 (ze PySem.F.plainAttrs_list s1 s2 s3 (oO C.c hq) (cJ (cR n C.c) ha) (vg hq) ?_ hl (aS n1) (eC hd)) rfl) λD σ H h=>wF h
   rw[aS n1];rfl
  .cases h
 .rw[if_neg hl]at h;cases h
theorem Eg(C:r8 X S T){c:St}(h:C3 n S tg op e=ζ c):PS X (.AugAssign tg op e pos) (tS X.K T c):=by
 have hN:=C.c.nd;rw[<-C.c.N]at hN;unfold C3 at h;split at h
 .rename_i x px;by_cases hl:(jm S.sc x&&(op == .Add || op == .Sub))=δ
  .rw[if_pos hl,ag]at h;obtain⟨i,h1,h⟩:=h;rw[aa]at h;obtain⟨ce,h2,rfl⟩:=h;rw[ai,eh]at hl;have hi:=bL h1;rw[<-C.c.N]at hi;refine Dj hN hi (C.c.loc x hl.1).1 (cR n C.c _ _ h2).1 (C.c.loc x hl.1).2 ?_;obtain⟨_,ho⟩:=hl;cases op<;>simp_all
  .rw[if_neg hl]at h;cases h
 .cases h
theorem ite_tt{T:Tb}{env:En}:cP T (.ite (.cst (.bl δ)) cb .nil) env=aP T cb env:=by
 rw[cP];rfl
theorem DV{X:Cx}{T:Tb}{body:List xL}{hd:ExceptHandler}(nx:∀e s,X.xe e s->False)(h:gT X body (zV X.K T cb)):PS X (.Try body [hd] [] [] pos) (tS X.K T (.ite (.cst (.bl δ)) cb .nil)):=by
 intro pins s σ H D I hw;have hw:zV X.K T cb D σ H:=by
  obtain⟨P,Z,env,F,h1,h2,h3,h4⟩:=hw;rw[ite_tt]at h4;exact⟨P,Z,env,F,h1,h2,h3,h4⟩
 refine YX (Λ (h pins s σ H D I hw) (λf s1 h1=>?_) λe s1 h1=>?_)
 .cases f with
  |next=>exact Ν h1
  |brk=>exact h1
  |cont=>exact h1
  |ret u=>exact h1
 .exact (nx _ _ h1).elim
theorem BY(C:r8 X S T):∀(n:Nat),(∀(st:xL) (c:St),cS n S st=ζ c->PS X st (tS X.K T c))/\∀(l:List xL) (c:bV),sJ n S l=ζ c->gT X l (zV X.K T c):=by
 intro n
 induction n with
 |zero=>exact⟨λst c h=>(by cases h),λl c h=>(by cases h)⟩
 |succ n ih=>
  obtain⟨i1,i2⟩:=ih;refine⟨λst c h=>?_,λl c h=>?_⟩
  .cases st with
   |Assign OM e p=>
    have h:WB n S e OM=ζ c:=h;cases OM with
    |nil=>cases h
    |cons tg r=>cases r with
     |cons _ _=>cases h
     |nil=>
      exact DB C h
   |AugAssign tg op e p=>exact Eg C h
   |Expr e p=>
    have h:GG n S e=ζ c:=h;have plain:Fb n S e=ζ c->PS X (.Expr e p) (tS X.K T c):=λh=>by
     unfold Fb at h;by_cases hc:fD e=δ
     .rw[if_pos hc]at h;cases h
     .rw[if_neg hc,aa]at h;obtain⟨ce,h1,rfl⟩:=h;exact Ai (cR n C.c _ _ h1).1 (pg (by simpa using hc))
    cases e with
    |Call g es ks q=>cases g with
     |Attribute o name apos=>cases ks with
      |nil=>exact DP C h
      |cons k ks=>exact plain h
     |_=>exact plain h
    |_=>exact plain h
   |Return o p=>cases o with
    |none=>cases h
    |some e=>
     have h:(cE n S e).map .ret=ζ c:=h;rw[aa]at h;obtain⟨ce,h1,rfl⟩:=h;exact Er (cR n C.c _ _ h1).1
   |If e a b p=>
    have h:((cE n S e).bind λc=>(sJ n S a).bind λca=>(sJ n S b).map λcb=>St.ite c ca cb)=ζ c:=h;rw[ag]at h;obtain⟨cc,h1,h⟩:=h;rw[ag]at h;obtain⟨ca,h2,h⟩:=h;rw[aa]at h;obtain⟨cb,h3,rfl⟩:=h;exact CN (cR n C.c _ _ h1).2 (i2 _ _ h2) (i2 _ _ h3)
   |For tg wl b oe p=>
    cases oe with
    |cons _ _=>cases h
    |nil=>
     have h:(if fM wl then(sg S tg).bind λt=>(sJ n S b).bind λcb=>(E5 S (cE n S) (isTup tg) wl).map λit=>St.Ie t it cb else ε)=ζ c:=h;by_cases hs:fM wl=δ
     .rw[if_pos hs,ag]at h;obtain⟨t,h1,h⟩:=h;rw[ag]at h;obtain⟨cb,h3,h⟩:=h;rw[aa]at h;obtain⟨it,h2,rfl⟩:=h;exact Ep C.own C.c.calm (zh C.c (cR n C.c) h2) (rY C.c h1) (i2 _ _ h3) (oW hs)
     .rw[if_neg hs]at h;cases h
   |While e b oe p=>cases oe with
    |cons _ _=>cases h
    |nil=>
     have h:((cE n S e).bind λc=>(sJ n S b).map λcb=>St.K8 c cb)=ζ c:=h;rw[ag]at h;obtain⟨cc,h1,h⟩:=h;rw[aa]at h;obtain⟨cb,h3,rfl⟩:=h;exact Ey C.own (cR n C.c _ _ h1).2 (i2 _ _ h3)
   |Try b hs oe fb p=>cases hs with
    |nil=>cases h
    |cons hd r=>cases r with
     |cons _ _=>cases h
     |nil=>cases oe with
      |cons _ _=>cases h
      |nil=>cases fb with
       |cons _ _=>cases h
       |nil=>
        have h:(sJ n S b).map (λcb=>St.ite (.cst (.bl δ)) cb .nil)=ζ c:=h;rw[aa]at h;obtain⟨cb,h3,rfl⟩:=h;exact DV C.nx (i2 _ _ h3)
   |Raise a b p=>cases h;exact AI
   |_=>cases h
  .cases l with
   |nil=>cases h;exact BP
   |cons st r=>
    unfold sJ at h;rw[ag]at h;obtain⟨cc,h1,h⟩:=h;rw[aa]at h;obtain⟨cb,h3,rfl⟩:=h;exact wt (i1 _ _ h1) (i2 _ _ h3)
end
structure Df where
 nm:Str
 st:xL
 ps:List Str
 N:List Str
 body:bV
structure Pg where
 J9:List Df
 sY:List Str
 dG:List Str
 gl:Nat->D
 fuel:Nat
noncomputable def Pg.fns(p:Pg):List Fn:=p.J9.map λd=>⟨d.ps.length,d.N.length,d.body⟩
noncomputable def Pg.run(p:Pg):Nat->Nat->List D->Rs (D×Bool):=Pc.run p.fns p.gl p.fuel
noncomputable def Pg.sc(p:Pg)(d:Df):Sc:=⟨d.N,aB d.st,p.J9.map (·.nm),p.sY,p.dG⟩
noncomputable def Df.OV(p:Pg)(n:Nat)(d:Df):Bool:=
 decide ((aB d.st).kind=.function) && !(aB d.st).isCoroutine && !(aB d.st).isGenerator&&decide d.N.Nodup&&decide (d.N.take d.ps.length=d.ps)&&d.ps.all (λx=>jm (aB d.st) x)&&(aB d.st).names.all (λy=>decide (y.2≠.free))
structure Df.Ok(p:Pg)(d:Df):Prop where
 b:∃n,sJ n (p.sc d) (aV d.st)=ζ d.body
 S:aW d.N d.ps (aB d.st)
 bd:∀(kV doc pm:η) (an:Option ι) (cdv ct:η) (us:List η),us.length=d.ps.length->UF (wT d.nm d.nm (dF d.st) (aV d.st) (aB d.st) .none kV doc pm an cdv ct) ⟨us,[]⟩=pure (d.ps.zip us)
theorem jw{sc:Db}(h:jm sc x=δ):Loc sc x:=by
 unfold jm cX at h;split at h
 .rename_i e;exact .inl e
 .rename_i e;exact .inr e
 .cases h
theorem qM{sc:Db}(h:mH sc x=δ):zU sc x:=by
 unfold mH cX at h;split at h
 .rename_i e;exact .inl e
 .rename_i e;exact .inr (.inl e)
 .rename_i e;exact .inr (.inr e)
 .cases h
theorem tZ{sc:Db}(h:pq sc x=δ):sc.names.lookup x=ζ .globalImplicit:=by
 unfold pq cX at h;split at h
 .rename_i e;exact e
 .cases h
theorem len0{P:List η->Prop}{us:List η}(h:us.length=0)(f:P []):P us:=by
 cases us with
 |nil=>exact f
 |cons a r=>cases h
theorem F8{P:List η->Prop}{us:List η}(h:us.length=1)(f:∀a,P [a]):P us:=by
 cases us with
 |nil=>cases h
 |cons a r=>exact len0 (P:=λr=>P (a::r)) (gw h) (f a)
theorem D5{P:List η->Prop}{us:List η}(h:us.length=2)(f:∀a b,P [a,b]):P us:=by
 cases us with
 |nil=>cases h
 |cons a r=>exact F8 (P:=λr=>P (a::r)) (gw h) (f a)
theorem Gp{P:List η->Prop}{us:List η}(h:us.length=3)(f:∀a b c,P [a,b,c]):P us:=by
 cases us with
 |nil=>cases h
 |cons a r=>exact D5 (P:=λr=>P (a::r)) (gw h) (f a)
theorem G9{P:List η->Prop}{us:List η}(h:us.length=4)(f:∀a b c d,P [a,b,c,d]):P us:=by
 cases us with
 |nil=>cases h
 |cons a r=>exact Gp (P:=λr=>P (a::r)) (gw h) (f a)
theorem QJ{P:List η->Prop}{us:List η}(h:us.length=5)(f:∀a b c d e,P [a,b,c,d,e]):P us:=by
 cases us with
 |nil=>cases h
 |cons a r=>exact G9 (P:=λr=>P (a::r)) (gw h) (f a)
theorem Df.JO{p:Pg}{d:Df}{n:Nat}(h:d.OV p n=δ)(hb:sJ n (p.sc d) (aV d.st)=ζ d.body)
  (bd:∀(kV doc pm:η) (an:Option ι) (cdv ct:η) (us:List η),us.length=d.ps.length->UF (wT d.nm d.nm (dF d.st) (aV d.st) (aB d.st) .none kV doc pm an cdv ct) ⟨us,[]⟩=pure (d.ps.zip us)):d.Ok p:=by
 unfold Df.OV at h;simp only[ai,decide_eq_true_eq,en,cq]at h;obtain⟨⟨⟨⟨⟨⟨h1,h2⟩,h3⟩,h4⟩,h5⟩,h6⟩,h7⟩:=h;exact⟨⟨n,hb⟩,⟨h1,h2,h3,h4,h5,λx hx=>jw (h6 x hx),h7⟩,bd⟩
structure Pg.In(p:Pg)(K:Frag)(mg:Str->Option η):Prop where
 fn:∀(i:Nat) (d:Df),p.J9[i]? = ζ d->∃f fd,L2.lY K d.nm d.nm d.st f fd/\mg d.nm=ζ (.ref f)
 gl:∀i x,idxOf p.sY x=ζ i->∃v u,mg x=ζ u/\RelV v u/\∀H,Rep K H (p.gl i) v []
 blt:∀x,p.dG.contains x=δ->mg x=ε
theorem j7{t:Tg}(h:(aJ ds n)[i]? = ζ (ζ (d,t))):ds[i]? = ζ d/\t=bQ d []:=by
 unfold aJ at h;by_cases hi:i<ds.length
 .rw[Ψ (by simpa using hi),τ]at h;rw[ω hi]at h ⊢;simp only[cm,cz,fq]at h;obtain⟨h1,h2⟩:=h;subst h1;exact⟨rfl,h2.symm⟩
 .rw[am (by simpa using dw hi),u8]at h;split at h<;>cases h
theorem aF.parts:∀{ds:List D}{vs:List V}{G:List ι},aF K H ds vs G->∃F:Nat->List ι,(∀i d,ds[i]? = ζ d->∃v,vs[i]? = ζ v/\Rep K H d v (F i))/\(∀i,ds[i]? = ε->F i=[])/\∀i,∀a∈F i,a∈G
 |_,_,_,.nil=>⟨λ_=>[],λi d h=>(by simp at h),λ_ _=>rfl,λ_ _ h=>(nomatch h)⟩
 |_,_,_,.cons (d:=d) (v:=v) (ds:=ds) (vs:=vs) (G:=G1) (G':=G2) r s=>by
  obtain⟨F,h1,h2,h3⟩:=aF.parts s;refine⟨λi=>match i with|0=>G1|j+1=>F j,λi e h=>?_,λi h=>?_,λi a h=>?_⟩
  .cases i with
   |zero=>cases h;exact⟨v,rfl,r⟩
   |succ j=>exact h1 j e (by simpa using h)
  .cases i with
   |zero=>cases h
   |succ j=>exact h2 j (by simpa using h)
  .cases i with
   |zero=>exact au _ h
   |succ j=>exact ak _ (h3 j a h)
theorem entry{N:List Str}(hr:aF K H ds vs G)(hl:ds.length<=N.length):∃F,RE K (λa=>H a≠ε) (aJ ds N.length) (L2.start N vs) H F/\∀i,∀a∈F i,a∈G:=by
 obtain⟨F,h1,h2,h3⟩:=hr.parts;have flat:∀i d t,(aJ ds N.length)[i]? = ζ (ζ (d,t))->aY t=δ->F i=[]:=λi d t h o=>by
  obtain⟨e1,e2⟩:=j7 h;obtain⟨v,_,rp⟩:=h1 i d e1;unfold bQ at e2;by_cases hf:d.flat=δ
  .exact rp.flat hf
  .rw[if_neg hf]at e2;subst e2;cases o
 refine⟨F,⟨?_,λi d t h=>?_,λi h=>?_,λi d t h o=>?_,λi d h a ha=>?_,λa h=>h⟩,h3⟩
 .simp only[aJ,L2.start,aw,aj,dg,hr.len]
 .obtain⟨e1,e2⟩:=j7 h;obtain⟨v,e3,rp⟩:=h1 i d e1;refine⟨v,?_,rp⟩;unfold L2.start;have hi:i<vs.length:=(χ.mp e3).1;rw[Ψ (by simpa using hi),τ,e3];rfl
 .cases e:ds[i]? with
  |none=>exact h2 i e
  |some d=>
   refine absurd ?_ (h d (bQ d []));unfold aJ;have hi:i<ds.length:=(χ.mp e).1;rw[Ψ (by simpa using hi),τ,e];rfl
 .rw[flat i d t h o];exact⟨bu,λ_ h=>(nomatch h),λ_ h=>(nomatch h)⟩
 .rw[flat i d _ h rfl]at ha;cases ha
theorem nV{α:Type}{g:α->Str}:∀{l:List α}{x:Str}{i:Nat},idxOf (l.map g) x=ζ i->∃a,l[i]? = ζ a/\g a=x:=by
 intro l x i h;have:=bL h;rw[τ,aa]at this;exact this
theorem iJ(e:jJ (λa=>H a≠ε) H H'):aG H H':=λb u h=>(e.keep b (by rw[h];exactλz=>(by cases z))).trans h
section
variable {p:Pg}{P:Ε}{w:Ξ}{K:Frag}{mg:Str->Option η}{base:Υ}
end
noncomputable def OX(K:Frag):Bool:=K.all λp=>match p.2.cls with
 |.type n=>!(n == "list")
 |_=>δ
theorem lookup_mem:∀{K:Frag}{a:ι}{o:na},K.lookup a=ζ o->(a,o)∈K
 |[],_,_,h=>by cases h
 | (b,x)::r,a,o,h=>by
  rw[cy]at h;cases e:a==b with
  |true=>
   rw[e]at h;cases h;rw[eo]at e;rw[e];exact ah
  |false=>rw[e]at h;exact ae _ (lookup_mem h)
theorem DS{o:na}(h:OX K=δ)(l:K.lookup a=ζ o)(c:o.cls=.type "list"):False:=by
 unfold OX at h;rw[cq]at h;have:=h _ (lookup_mem l);rw[c]at this;simp at this
theorem m8:∀ns:List Int,aF K H (ns.map D.int) (ns.map V.int) []
 |[]=>.nil
 |n::r=>.cons (.int n) (m8 r)
theorem Dq{f:List D->Rs (D×Bool)}{fr:Bool}(hL:OX K=δ)(hS:jK K H a (ns.map V.int))(hf:f [.lst (ns.map D.int)]=.ok (.bl δ,fr)):Az K 1 f [.ref a] H (λv _=>v=.bl δ) E:=by
 rcases hS with h|⟨o,its,n,h1,h2,_⟩
 .refine⟨[.lst (ns.map D.int)],[a] ++ [],rfl,.cons (.lst h (m8 ns)) .nil,(.bl δ,fr),hf,λv H' G' _ rp _ _=>?_⟩;exact rp.IJ.1
 .exact (DS hL h1 h2).elim
noncomputable def ux(es:List AT):Bool:=es.all (λe=>match e.val with
  |.int _ _=>δ
  |.none=>δ
  |_=>γ)&&es.any (λe=>match e.key with
  |.str _ _=>δ
  |_=>γ)
noncomputable def QA(as:List ι)(K:Frag):Bool:=K.all λp=>as.contains p.1 || match p.2.data with
 |.dict es _=>!ux es.toList
 |_=>δ
theorem jz.vals{es:List AT}(h:jz es kvs):es.all (λe=>match e.val with
  |.int _ _=>δ
  |.none=>δ
  |_=>γ)=δ:=by
 induction h with
 |nil=>rfl
 |cons hh hk hv r ih=>rw[g7,hv,ih];rfl
 |si hk hv r ih=>rw[g7,hv,ih];rfl
 |sn hk hv r ih=>rw[g7,hv,ih];rfl
theorem Fs(as:List ι)(h:QA as K=δ)(h0:∀a∈as,∀o es ep,K.lookup a=ζ o->o.data=.dict es ep->∀e∈es.toList,∀s t,e.key=.str s t->(a==Ch)=γ/\e.hash=ă w s):rS w K:=by
 intro a o es ep hl hd kvs he e hm s t hk;by_cases ha:a∈as
 .exact h0 a ha o es ep hl hd e hm s t hk
 .unfold QA at h;rw[cq]at h;have:=h _ (lookup_mem hl);dsimp only at this;rw[hd,show as.contains a=γ by rw[Yl];intro z;exact ha (jp.mp z),Ù]at this;dsimp only at this;unfold ux at this;rw[he.vals,X3,en]at this;have h2:es.toList.any (λe=>match e.key with
   |.str _ _=>δ
   |_=>γ)=δ:=by
   rw[é];exact⟨e,hm,by rw[hk]⟩
  rw[h2]at this;cases this
theorem Cw(h:QA [] K=δ):rS w K:=Fs [] h λa ha=>(nomatch ha)
def WU(K:Frag)(d:Df):Prop:=∃(f:ι) (oc:η) (od:Option ι) (kV dc pm:η) (an:Option ι) (cd ct:η) (sl:Array (Option η)),
 pi K bn d.nm=ζ (ζ (.ref f))/\K.lookup f=ζ ⟨oc,od,.func (wT d.nm d.nm (dF d.st) (aV d.st) (aB d.st) .none kV dc pm an cd ct),sl⟩/\Xk K cd d.nm=δ/\Ο K (.ref f)=δ
def kY(K:Frag)(x:Str)(d:D):Prop:=∃v u,pi K bn x=ζ (ζ u)/\RelV v u/\∀H,Rep K H d v []
noncomputable def u5{α:Type}(P:α->Prop):List α->Prop
 |[]=>True
 |a::r=>P a/\u5 P r
theorem bC{α:Type}{P:α->Prop}:∀{l:List α},u5 P l->∀a∈l,P a
 |[],_,a,h=>by cases h
 |b::r,⟨h1,h2⟩,a,h=>by
  rcases c9.mp h with rfl|h
  .exact h1
  .exact bC h2 a h
structure sF(p:Pg)(K:Frag):Prop where
 fn:u5 (WU K) p.J9
 gl:∀i x,idxOf p.sY x=ζ i->kY K x (p.gl i)
 blt:u5 (λx=>pi K bn x=ζ ε) p.dG
theorem sF.isin{p:Pg}{h:Υ}{mg:Str->Option η}(s:sF p K)(X:K.In h)(G:h.Ns bn mg):p.In K mg where
 fn:=λi d hd=>by
  obtain⟨f,oc,od,kV,dc,pm,an,cd,ct,sl,a,l,c,k⟩:=bC s.fn d (Ι hd);exact⟨f,_,Ds (st:=d.st) l c k,ir X G a⟩
 gl:=λi x hx=>by
  obtain⟨v,u,a,b,c⟩:=s.gl i x hx;exact⟨v,u,ir X G a,b,c⟩
 blt:=λx hx=>PySem.W.mg_none_of X G (bC s.blt x (by simpa using hx))
end Pc
end
section
namespace Pc
open PySem
theorem aA{α β:Type}(a:α)(f:α->Rs β):(Rs.ok a).bind f=f a:=rfl
theorem bD{α:Type}(env:En)(a:α)(k:α->Fl):gU env (.ok a) k=k a:=rfl
theorem tF(e:En)(k:En->Fl):(Fl.nx e).andThen k=k e:=rfl
theorem BJ(d:D)(b:Bool)(k:En->Fl):(Fl.rt d b).andThen k=.rt d b:=rfl
theorem cY{α:Type}(a:α):ku (ζ a)=.ok a:=rfl
theorem yV(op:FM)(i j:Int):lZ op (.int i) (.int j)=(Pc.binI op i j).map .int:=by cases op<;>rfl
theorem E2(i:Int)(R:List Nat):hZ (.int i) R=.mv []:=rfl
theorem lg:∀l:List Int,D.Ig (l.map D.int)=δ
 |[]=>rfl
 |_::r=>lg r
end Pc
end
section
namespace Pc
open PySem PySem.Spec PyProof.Rows L2
variable {K:Frag}{oc:η}{od:Option ι}{sl:Array (Option η)}
theorem D8{d:Df}{f:ι}{kV dc pm:η}{an:Option ι}{cd ct:η}
 (a:pi K bn d.nm=ζ (ζ (.ref f))) (l:K.lookup f=ζ ⟨oc,od,.func (wT d.nm d.nm (dF d.st) (aV d.st) (aB d.st) .none kV dc pm an cd ct),sl⟩) (c:Xk K cd d.nm=δ) (k:Ο K (.ref f)=δ):WU K d:=
 ⟨f,oc,od,kV,dc,pm,an,cd,ct,sl,a,l,c,k⟩
variable {x:Str}
theorem gl_int{i:Int}{t:XY}(h:pi K bn x=ζ (ζ (.int i t))):kY K x (.int i):=⟨.int i,_,h,⟨t,rfl⟩,λ_=>.int i⟩
variable {a:ι}
theorem jh{its:Array η}{n:Nat}{ds:List D}{vs:List V}(h:pi K bn x=ζ (ζ (.ref a)))
  (l:K.lookup a=ζ ⟨oc,od,.seq its n,sl⟩) (c:oc=.type "tuple") (hz:its.size<=Ζ) (hv:aL vs its.toList) (hr:∀H,aF K H ds vs []) (hp:wo vs=γ:=by rfl):kY K x (.tup ds):=
 ⟨.ref a,_,h,rfl,λH=>.tup (.inr ⟨hp,_,its,n,l,c,rfl,hz,hv⟩) (hr H)⟩
theorem xx{es:Array AT}{ep:Nat}{kvs:List (Key×Option Int)}(h:pi K bn x=ζ (ζ (.ref a)))
  (l:K.lookup a=ζ ⟨oc,od,.dict es ep,sl⟩) (c:oc=.type "dict"/\od=ε/\sl = #[]) (he:jz es.toList kvs) (hn:(kvs.map (·.1)).Nodup):kY K x (.JI kvs):=
 ⟨.ref a,_,h,rfl,λH=>.JI ⟨_,es,ep,l,c,rfl,he,hn⟩⟩
noncomputable def pj(K:Frag)(g:Nat->D):Nat->List Str->Prop
 |_,[]=>True
 |i,x::r=>kY K x (g i)/\pj K g (i+1) r
variable {g:Nat->D}
theorem pW:∀{l:List Str}{k i:Nat}{x:Str},pj K g k l->idxOf l x=ζ i->kY K x (g (k+i))
 |y::r,k,i,x,⟨h1,h2⟩,e=>by
  unfold idxOf at e;by_cases hx:y=x
  .rw[if_pos hx]at e;cases e;subst hx;exact h1
  .rw[if_neg hx,aa]at e;obtain⟨j,hj,rfl⟩:=e;have:=pW h2 hj;rw[show k+1+j=k+(j+1) by omega]at this;exact this
theorem Bo{l:List Str}(h:pj K g 0 l):∀i x,idxOf l x=ζ i->kY K x (g i):=λi x e=>by
 have:=pW h e
 rwa [fg]at this
end Pc
end
section
namespace Pc
open PySem PySem.Spec PyProof.Rows L2
structure EC where
 nm:Str
 q:Str
 N:ι
 bs:List η
 sn:List Str
 sub:List η
 ab:Bool
 col:Option Bool
 dd:Option ι
 k0:Option η
 k1:Option η
 k2:Option η
 k3:Option η
 k5:Option η
noncomputable abbrev EC.o(e:EC)(C:ι)(bm:List η)(hd:Bool)(nI:String):na:=excClassObj e.nm e.q C e.N e.bs bm hd e.sn e.sub e.ab e.col e.dd e.k0 e.k1 e.k2 e.k3 e.k5 nI
variable {C:ι}{K:ψ}{JC:List η}{newId:String}
theorem kJ{h:Υ}(Ik:K.In h)(q:Uf K C JC newId=δ) :
  ∃(e:EC) (bm:_) (hdct:Bool) (mN:_),h.get? C=ζ (e.o C bm hdct newId)/\h.Ns e.N mN/\mN "__init__" = ε/\PP h JC bm:=by
 unfold Uf at q;split at q
 .rename_i dd cd sl ho;split at q
  .rename_i C' bm k0 k1 k2 k3 n k5 hm hs;simp only[ai,beq_iff_eq,en]at q;obtain⟨⟨⟨⟨⟨rfl,rfl⟩,JS⟩,ht⟩,Ib⟩,Mr⟩:=q;obtain⟨nm,bs,mro,ns,qn,hd,sn,sub,ab,col,del⟩:=cd;dsimp only at hm JS Ib Mr;subst hm JS;have NL:sl = #[k0,k1,k2,k3,ζ (.builtin n),k5]:=by
    obtain⟨l⟩:=sl;simp only at hs;rw[hs]
   subst NL;exact⟨⟨nm,qn,ns,bs,sn,sub,ab,col,dd,k0,k1,k2,k3,k5⟩,bm,hd,_,Ik _ _ ho,.of_isNs (h9 Ik Ib),gn Ik Ib Mr,Zl Ik ht⟩
  .cases q
 .cases q
variable {cpos np pos:W3}{e:Expr}{es:List Expr}{t:TA}{x:Str}
section
variable {X:Cx}
theorem yN{C:ι}{B Mi:String}{W:Hp->Prop}(hc:X.calm=δ)(hg:Gl X x)(hm:X.mg x=ζ (.ref C))(q:Uf X.K C JC newId=δ)(FB:ExcBaseFacts B newId Mi JC)(ha:PA X (e::es) t)
  (hw:∀(pins:List (ι×na)) (σ:L2.St) (H:Hp) (s:θ) (h':Υ) (a:ι) (us:List η),W H->Inv X pins σ H s->Î s.heap h' a (.ref C) us->X.xe (.ref a) {s with heap:=h' })
  (hl:∀σ H Q,t σ H Q->t σ H λvs H'=>vs.length<=Ζ/\Q vs H')
  (he:Δ (e::es) X.env=(γ,eval e X.env)::Δ es X.env:=by rfl) (IG:(Fa cpos (Δ es X.env)).any (·.1)=γ:=by rfl) (hd:(x==("__debug__" : Str))=γ:=by decide) :
  PS X (.Raise (ζ (.Call (.Name x np) (e::es) [] cpos)) ε pos) (λD σ H=>t σ H λvs H'=>W H'):=by
 intro pins s σ H D I h;obtain⟨ec,bm,hdct,mN,hC,hN,Mr,T⟩:=kJ I.ok.mod.Ik q;refine wpAny_Raise_call_subT (C:=C) (nm:=ec.nm) (q:=ec.q) (N:=ec.N) (bs:=ec.bs) (bm:=bm) (hdct:=hdct) (sn:=ec.sn) (sub:=ec.sub) (ab:=ec.ab) (col:=ec.col) (dd:=ec.dd) (k0:=ec.k0) (k1:=ec.k1) (k2:=ec.k2) (k3:=ec.k3) (k5:=ec.k5)
  FB (mN:=mN) (T.hasType FB.hasBase) (I.ok.hd hc) (by rw[he];show(γ || (Fa cpos (Δ es X.env)).any (·.1))=γ;rw[IG];rfl) Mr (cV I hg hm ⟨rfl,?_⟩ hd)
 have N6:=ha cpos pins s σ H _ I (hl σ H _ h);rw[he]at N6 ⊢;refine XJ (Λ N6 (λus s₂ h₂=>?_) λ_ _ y=>y);obtain⟨vs,H2,I2,r2,l2,w2⟩:=h₂;exact⟨rfl,by rw[<-r2.length];exact l2,I2.bk _ _ hC,hN.keeps I2.bk,T.keeps I2.bk,λh' a hx=>hw pins σ H2 s₂ h' a us w2 I2 hx⟩
end
def Bf(B:Υ)(fr:List ι)(H':Hp)(h h':Υ):Prop:=∀b o,h'.get? b=ζ o->b∈fr\/B.get? b=ζ o\/(h.get? b=ε/\H' b=ε)
inductive Fc(P:Ε) (w:Ξ) (outer:List Yo) (H:Hp) (s:θ) (E:XK) (e:η) (s':θ):Prop
 |mk (a:_) (C:_) (a0:_) (H':_) (B:_) (y0:e=.ref a) (y1:s'.os=s.os) (y2:WY s'.gens) (y3:Un (cK outer) [] H H' s.heap s'.heap) (y4:gY P w H' s'.heap) (y5:sw B outer a C a0 s'.heap) (y6:Bf B (cK outer) H' s.heap s'.heap) (y7:E C ε H'):Fc P w outer H s E e s'
noncomputable def lh(P:Ε)(w:Ξ):nU:=λouter H s E e s'=>Fc P w outer H s E e s'
variable {H:Hp}{P:Ε}{h':Υ}{w:Ξ}
theorem kN{h:Υ}(x:gY P w H h)(k:∀b o,H b≠ε->h.get? b=ζ o->h'.get? b=ζ o):gY P w H h':=λa o e=>
 (x a o e).Iy (λb u hb q=>k b u (by rcases hb with rfl|hb<;>(intro z;simp_all)) q) (λ_ q=>q) λ_ _ q=>q
variable {A:Ρ}{E:XK}{H1:Hp}{N:List Str}{a f:ι}{base h2:Υ}{cd:η}{mg:Str->Option η}{outer:List Yo}{pins:List (ι×na)}{qual:Str}{s s1:θ}{scope:Db}{us:List η}
theorem qw 
  {σ:L2.St}{C:η}(I:Inv (aX (lh P w) P w K mg base N qual scope f cd A outer s H E) pins σ H1 s1)
  (hx:Î s1.heap h2 a C us) (hE:E C ε H1):(aX (lh P w) P w K mg base N qual scope f cd A outer s H E).xe (.ref a) {s1 with heap:=h2}:=by
 have Ls:=I.stack;have LC:∀env∈(im qual scope s.heap.objs.size f cd::outer),∀b,env.frame=ζ b->b∈cK (im qual scope s.heap.objs.size f cd::outer):=λenv he b hb=>W0.mpr ⟨env,he,hb⟩
 show υ (Α P w) (A.deeper (im qual scope s.heap.objs.size f cd)) (leaving (im qual scope s.heap.objs.size f cd) (.ref a)) _ _ _;refine wpAny_leaves_madeW (base:=KF s1.heap (cK (im qual scope s.heap.objs.size f cd::outer))) (h:=s1.heap) (outer:=outer) I.ok.frames rfl (λb o q=>h8 _ q) (YY Ls LC) hx λh' t fl tup hbn KL=>?_
 have L0:∀b o,s.heap.get? b=ζ o->b≠s.heap.objs.size:=λb o e=>az (ρ e)
 have fr:cK (im qual scope s.heap.objs.size f cd::outer)=s.heap.objs.size::cK outer:=rfl;have Iy:∀b o,s1.heap.get? b=ζ o->b≠s.heap.objs.size->b∉cK outer->h'.get? b=ζ o:=λb o e h1 h2=>fl.1 b o (gh _ e (by
  rw[fr];intro z;rcases c9.mp z with z|z
  .exact h1 z
  .exact h2 z))
 have JX:∀b o,s1.heap.get? b=ζ o->b∈cK outer->∃sl,h'.get? b=ζ {o with slots:=sl}:=λb o e hb=>by
  obtain⟨_,o',e',hd⟩:=Ls.mem (b:=b) (show b∈s.heap.objs.size::cK outer from ae _ hb);rw[e]at e';cases e';exact KL b o (hx.keeps b o e) hd
 have bs:=I.base;have Iv:∀b,H1 b≠ε->b≠s.heap.objs.size/\b∉cK outer:=λb hb=>by
  have:=I.IQ;refine⟨λz=>hb (this b (show b∈s.heap.objs.size::cK outer by rw[z];exact ah)),λz=>hb (this b (show b∈s.heap.objs.size::cK outer from ae _ z))⟩
 refine⟨a,C,.ref t,H1,_,rfl,I.os,I.bare,⟨λb o e n hf _=>?_,λb o e n hf _=>?_,λb o e n _=>bs.free b o e n (by simp[aX]),λb o e _=>?_,bs.IZ,bs.IV,bs.Ja⟩,kN I.Ib λb o hb e=>Iy b o e (Iv b hb).1 (Iv b hb).2,fl,λb o e=>?_,hE⟩
 .exact Iy b o (bs.keep b o e n hf (by simp[aX])) (L0 b o e) hf
 .obtain⟨sl,e1⟩:=bs.slot b o e n hf (by simp[aX]);obtain⟨La,e2⟩:=JX b _ e1 hf;exact⟨La,e2⟩
 .obtain⟨o1,e1⟩:=bs.there b o e (by simp[aX]);by_cases hf:b∈cK outer
  .obtain⟨La,e2⟩:=JX b _ e1 hf;exact⟨_,e2⟩
  .exact⟨o1,Iy b o1 e1 (L0 b o e) hf⟩
 .by_cases hf:b∈cK outer
  .exact .inl hf
  .cases e1:s1.heap.get? b with
   |none=>
    refine .inr (.inr ⟨?_,?_⟩)
    .cases e0:s.heap.get? b with
     |none=>rfl
     |some o0=>
      obtain⟨o1,e2⟩:=bs.there b o0 e0 (by simp[aX]);rw[e1]at e2;cases e2
    .cases e0:H1 b with
     |none=>rfl
     |some u=>
      obtain⟨ob,e2⟩:=bU.JQ (I.Ib b u e0);rw[e1]at e2;cases e2
   |some o1=>
    by_cases hL:b=s.heap.objs.size
    .refine .inr (.inr ⟨?_,?_⟩)
     .rw[hL];cases e0:s.heap.get? s.heap.objs.size with
      |none=>rfl
      |some o0=>exact absurd rfl (L0 _ _ e0)
     .cases e0:H1 b with
      |none=>rfl
      |some u=>exact absurd hL (Iv b (by rw[e0];simp)).1
    .have:=Iy b o1 e1 hL hf;rw[e]at this;cases this;refine .inr (.inl (gh _ e1 ?_));rw[fr];intro z;rcases c9.mp z with z|z
     .exact hL z
     .exact hf z
structure zW(X:Cx)(H H':Hp)(s:θ)(B h:Υ):Prop where
 un:Un (cK X.stack) [] H H' s.heap h
 Ib:gY X.prog X.w H' h
 bf:Bf B (cK X.stack) H' s.heap h
variable {a0:η}
section
variable {X:Cx}{pins:List (ι×na)}{σ:L2.St}{H H':Hp}{s:θ}{B h h':Υ}
theorem zW.Kh(F:zW X H H' s B h)(I:Inv X pins σ H s):∀b∈cK X.stack,H' b=ε:=λb hb=>by
 obtain⟨_,o,e,_⟩:=I.stack.mem hb;exact F.un.free b o e (I.IQ b hb) (by simp)
theorem zW.next(F:zW X H H' s B h)(I:Inv X pins σ H s)(st:B.StaysIn h')(fr:∀b∈cK X.stack,∃o,h.get? b=ζ o/\∀vs,o.data≠.fields vs)(ut:h.UpToSlots h'):zW X H H' s B h':=by
 have keep:∀b o,h.get? b=ζ o->b∉cK X.stack->(s.heap.get? b≠ε\/H' b≠ε)->h'.get? b=ζ o:=λb o e hf hn=>by
  rcases F.bf b o e with z|z|⟨z1,z2⟩
  .exact absurd z hf
  .exact st b o z
  .rcases hn with hn|hn
   .exact absurd z1 hn
   .exact absurd z2 hn
 have slot:∀b o,h.get? b=ζ o->b∈cK X.stack->∃sl,h'.get? b=ζ {o with slots:=sl}:=λb o e hf=>by
  obtain⟨o',e',hd⟩:=fr b hf;rw[e]at e';cases e';exact ut b o e hd
 refine⟨⟨λb o e n hf _=>?_,λb o e n hf _=>?_,λb o e n hx=>F.un.free b o e n hx,λb o e hx=>?_,F.un.IZ,F.un.IV,F.un.Ja⟩,kN F.Ib λb o hb e=>?_,λb o e=>?_⟩
 .exact keep b o (F.un.keep b o e n hf (by simp)) hf (.inl (by rw[e];simp))
 .obtain⟨sl,e1⟩:=F.un.slot b o e n hf (by simp);obtain⟨La,e2⟩:=slot b _ e1 hf;exact⟨La,e2⟩
 .obtain⟨o1,e1⟩:=F.un.there b o e (by simp);by_cases hf:b∈cK X.stack
  .obtain⟨La,e2⟩:=slot b _ e1 hf;exact⟨_,e2⟩
  .exact⟨o1,keep b o1 e1 hf (.inl (by rw[e];simp))⟩
 .exact keep b o e (λz=>hb (F.Kh I b z)) (.inr hb)
 .by_cases hf:b∈cK X.stack
  .exact .inl hf
  .cases e1:h.get? b with
   |none=>
    refine .inr (.inr ⟨?_,?_⟩)
    .cases e0:s.heap.get? b with
     |none=>rfl
     |some o0=>
      obtain⟨o1,e2⟩:=F.un.there b o0 e0 (by simp);rw[e1]at e2;cases e2
    .cases e0:H' b with
     |none=>rfl
     |some u=>
      obtain⟨ob,e2⟩:=bU.JQ (F.Ib b u e0);rw[e1]at e2;cases e2
   |some o1=>
    rcases F.bf b o1 e1 with z|z|z
    .exact absurd z hf
    .have:=st b o1 z;rw[e]at this;cases this;exact .inr (.inl z)
    .exact .inr (.inr z)
theorem zW.inv{g':Array Xn}{d':Y0}{t':Nat}(F:zW X H H' s B h)(I:Inv X pins σ H s)(hg:WY g'):Inv X pins σ H' {s with heap:=h,gens:=g',drawn:=d',toks:=t' }:=
 I.call (ch:=[]) F.un F.Ib hg λb z=>nomatch z
theorem yo{e:η}{s':θ}(c:lh X.prog X.w X.stack H s E e s'):∃a C a0 H' B,e=.ref a/\s'.os=s.os/\WY s'.gens/\zW X H H' s B s'.heap/\sw B X.stack a C a0 s'.heap/\E C ε H':=by
 obtain⟨a,C,a0,H',B,e1,e2,e3,e4,e5,e6,e7,e8⟩:=c;exact⟨a,C,a0,H',B,e1,e2,e3,⟨e4,e5,e7⟩,e6,e8⟩
theorem cN{C:η}(f:sw B X.stack a C a0 h):∀b∈cK X.stack,∃o,h.get? b=ζ o/\∀vs,o.data≠.fields vs:=λb hb=>(f.2.2.1.mem hb).2
theorem j6{L:ι}{C:η}(f:Z0 B X.stack a C a0 L h):∀b∈cK X.stack,∃o,h.get? b=ζ o/\∀vs,o.data≠.fields vs:=λb hb=>(f.2.2.1.mem hb).2
noncomputable abbrev markX(X:Cx)(a:ι):Cx:={X with A:=X.A.mark (ζ (.ref a)),calm:=γ,xe:=λ_ _=>False}
theorem pM(I:Inv X pins σ H s)(a:ι)(hf:(X.A.mark (ζ (.ref a))).frames=ζ X.stack):Inv (markX X a) pins σ H s:=
 ⟨⟨I.ok.mod,I.ok.kind,I.ok.glob,I.ok.blt,I.ok.above,I.ok.inj,I.ok.has,I.ok.KJ,λz=>(by cases z),hf,I.ok.Ll,I.ok.LX,I.ok.bs,I.ok.Ks,I.ok.Jr,I.ok.Jv,I.ok.IH,I.ok.KI⟩,I.os,I.bare,I.base,I.loc,I.cell,I.free,I.Il,I.pin,I.Ib,I.len⟩
end
variable {bm:List η}{ec:EC}{hdct:Bool}
section
variable {M:ZM}{A:Ρ}{E:η->θ->Prop}{prog:Ε}{w:Ξ}
theorem j4 
  {MM:EC}{C':ι}{LH:List η}{Jx:Bool}{Kd:String}
  {h:Υ}{g:Array Xn}{d:Y0}{t:Nat}{os:WX}{e:ι}{oe:na}{Q:Bool->θ->Prop}
  (hC:h.get? C=ζ (ec.o C bm hdct newId)) (Wm:h.get? C'=ζ (MM.o C' LH Jx Kd)) (he:h.get? e=ζ oe) (K2:oe.cls=.ref C)
  (JU:LH.contains (.type "BaseException")=δ) (hq:Q ((Μ C::bm).contains (.ref C')) ⟨h,g,d,t,os⟩):υ M A (excMatches (.ref e) (.ref C')) Q E ⟨h,g,d,t,os⟩:=by
 have LF:(Μ C'::LH).contains (.type "BaseException")=δ:=by rw[dk,JU,Y9]
 have f:=tc_notTuple;unfold excMatches
 repeat (first | (with_reducible refine Η he ?_;rw[K2])|with_reducible refine Η Wm ?_ | (with_reducible refine lf Wm ?_;rw[LF]) | (with_reducible refine lf hC ?_)|wp_step)
 cases hb:(Μ C::bm).contains (.ref C')<;>(rw[hb]at hq;first|exact hq | (wp_walk;exact hq))
end
section
variable {X:Cx}{pins:List (ι×na)}{σ:L2.St}{H:Hp}{s:θ}{D:Ends}
noncomputable def ls(X:Cx)(pins:List (ι×na))(σ:L2.St)(W:η->Hp->Prop)(e:η)(s1:θ):Prop:=
 ∃H0 s0 a C a0 H' B,Inv X pins σ H0 s0/\e=.ref a/\s1.os=s0.os/\WY s1.gens/\zW X H0 H' s0 B s1.heap/\sw B X.stack a C a0 s1.heap/\W C H'
def w9(K:ψ)(C Cd:ι):Prop:=∃(JC:List η) (newId:String) (cd:ClassData) (c0:η) (dd:Option ι) (sl:Array (Option η)),Uf K C JC newId=δ/\K.lookup C=ζ ⟨c0,dd,.cls cd,sl⟩/\cd.mro.contains (.ref Cd)=δ
end
variable {M:ZM}{i:Nat}
section
variable {X:Cx}{pins:List (ι×na)}{σ:L2.St}{H:Hp}{s:θ}{D:Ends}
theorem qp{E:η->θ->Prop}{v:V}{Q:Unit->θ->Prop}(I:Inv X pins σ H s)(hN:X.N.Nodup)(hi:X.N[i]? = ζ x)(hk:X.env.scope.names.lookup x=ζ .local)(hv:σ[i]? = ζ (ζ v))
  (h:∀s',Inv X pins (σ.set i ε) H s'->Q () s'):υ M A (unbindName X.env x) Q E s:=by
 obtain⟨m,hn,hl⟩:=id I.loc;have K2:(X.env.scope.kind == .class || (X.env.scope.kind == .module&&X.env.locals != X.env.globals))=γ:=by rw[I.ok.kind];rfl
 have Pl:i<σ.length:=by rw[I.len];exact(χ.mp hi).1
 have K6:=I.K6;have tracked:∀{a:ι}{h':Υ},(∃o,s.heap.get? a=ζ o/\H a=ε)->Yh a s.heap h'->gY X.prog X.w H h':=λ{a h'} ha hs b ob e=>by
  obtain⟨_,_,Iz⟩:=ha;refine(I.Ib b ob e).Iy (λc w' hc q=>(hs.2 c ?_).trans q) (λ_ q=>q) λ_ _ q=>q
  rintro rfl;rcases hc with rfl|hc
  .rw[Iz]at e;cases e
  .rw[Iz]at hc;cases hc
 have hm:∃u,m x=ζ u:=by
  obtain⟨u,_,q⟩:=hl i x v hi hv (.inl hk);rcases q with⟨_,e⟩|⟨k,_⟩
  .exact⟨u,e⟩
  .have:X.env.kindOf x=ζ .local:=hk;rcases k with k|k<;>(rw[this]at k;cases k)
 obtain⟨u,hu⟩:=hm;refine wpAny_unbindName_local hk hn hu K2 λh' u' Kz hs=>?_
 obtain⟨oL,_,_,Rl,_⟩:=id hn;refine h _ ⟨I.ok,I.os,I.bare,⟨λb o e n hb hx=>?_,λb o e n hb hx=>?_,I.base.free,λb o e hx=>?_,I.base.IZ,I.base.IV,I.base.Ja⟩,⟨_,Kz,λj y v' e1 e2 e3=>?_⟩,λy c e=>?_,I.free,I.Il,λp hp=>?_,tracked ⟨oL,Rl,I.free⟩ hs,by simpa using I.len⟩
 .exact (hs.2 b (az (ax (ρ e) I.ok.above))).trans (I.base.keep b o e n hb hx)
 .obtain⟨sl,e1⟩:=I.base.slot b o e n hb hx;exact⟨sl,(hs.2 b (az (ax (ρ e) I.ok.above))).trans e1⟩
 .obtain⟨o',e1⟩:=I.base.there b o e hx;exact⟨o',(hs.2 b (az (ax (ρ e) I.ok.above))).trans e1⟩
 .by_cases hj:j=i
  .subst hj;rw[Β Pl]at e2;cases e2
  .rw[Θ (cj hj)]at e2;obtain⟨u',r',q⟩:=hl j y v' e1 e2 e3;refine⟨u',r',?_⟩;rcases q with⟨k,e⟩|⟨k,c,e,z⟩
   .refine .inl ⟨k,?_⟩;have:y≠x:=λe=>hj (kL hN e1 (e ▸ hi))
    simp[this,e]
   .exact .inr ⟨k,c,e,z.sameBut hs (K6 y c e)⟩
 .obtain⟨w',z⟩:=I.cell y c e;exact⟨w',z.sameBut hs (K6 y c e)⟩
 .obtain⟨e,n,ne,nf,d⟩:=I.pin p hp;exact⟨(hs.2 p.1 ne).trans e,n,ne,nf,d⟩
theorem mO{E:η->θ->Prop}{Q:Unit->θ->Prop}(I:Inv X pins σ H s)(hN:X.N.Nodup)(hi:X.N[i]? = ζ x)(hk:X.env.scope.names.lookup x=ζ .local)
  (h:∀s',Inv X pins (σ.set i ε) H s'->Q () s'):υ M A (do bindName X.env x .none;Á X.env x pos) Q E s:=by
 refine ν (wpAny_bindName (dC I hN hi (.inl hk) (show RelV .Ii .none from rfl) (λs1 I1=>?_) (.inr hk)));unfold Á;refine wpAny_onRaise (qp I1 hN hi hk (Β (by rw[I.len];exact(χ.mp hi).1)) λs2 I2=>h s2 ?_);rw[List.set_set]at I2;exact I2
noncomputable abbrev j0(X:Cx)(a:ι)(o:na):Cx:={X with A:=X.A.mark (ζ (.ref a)),calm:=γ,xe:=λ_ _=>False,pn:=(a,o)::X.pn}
theorem m9(I:Inv X pins σ H s)(a:ι)(o:na)(hf:(X.A.mark (ζ (.ref a))).frames=ζ X.stack)(ha:s.heap.get? a=ζ o/\H a=ε/\a≠X.env.locals/\a∉X.fs/\∀v,o.data≠.cell v):Inv (j0 X a o) pins σ H s:=
 ⟨⟨I.ok.mod,I.ok.kind,I.ok.glob,I.ok.blt,I.ok.above,I.ok.inj,I.ok.has,I.ok.KJ,λz=>(by cases z),hf,I.ok.Ll,I.ok.LX,I.ok.bs,I.ok.Ks,I.ok.Jr,I.ok.Jv,I.ok.IH,I.ok.KI⟩,I.os,I.bare,I.base,I.loc,I.cell,I.free,I.Il,λp hp=>by
  rcases c9.mp hp with rfl|hp
  .exact ha
  .exact I.pin p hp,I.Ib,I.len⟩
end
inductive fP(h:Υ) (JC:List η) (ns:List Str):List η->Prop
 |base:fP h JC ns JC
 |own {A:ι}{c0:η}{dd:Option ι}{cd:ClassData}{sl:Array (Option η)}{mA:Str->Option η}{tl:List η} :
   h.get? A=ζ {cls:=c0,dict:=dd,data:=.cls cd,slots:=sl}->h.Ns cd.ns mA->(∀n∈ns,mA n=ε)->fP h JC ns tl->fP h JC ns (.ref A::tl)
noncomputable def mT:List Str:=["__getattribute__","__getattr__","__class__"]
variable {n:Str}{ns:List Str}{y:Option η}
section
variable {M:ZM}{A:Ρ}{E:η->θ->Prop}{h:Υ}{g:Array Xn}{d:Y0}{t:Nat}{os:WX}
theorem uL{tl:List η}{Q:Option η->θ->Prop}(hn:n∈ns)(T:fP h JC ns tl)(IC:Â JC n=pure y)(hq:Q y ⟨h,g,d,t,os⟩) :
  υ M A (Â tl n) Q E ⟨h,g,d,t,os⟩:=by
 induction T with
 |base=>rw[IC];exact Ν hq
 |own hA hN Mr _ ih=>
  rw[Ġ];refine ν (wpAny_classOwn_cls hA hN ?_);rw[Mr n hn];exact ih
variable {ec:EC}{C:ι}{bm JC:List η}{hdct:Bool}{B newId:String}
theorem dU{mN:Str->Option η}{Q:Option η->θ->Prop}(hn:n∈ns)
  (hC:h.get? C=ζ (ec.o C bm hdct newId)) (hN:h.Ns ec.N mN) (IM:∀n∈ns,mN n=ε) (T:fP h JC ns bm) (hbm:mroOf (.type B)=pure JC)
  (hB:Ps (.type B) n=pure y) (hq:Q y ⟨h,g,d,t,os⟩):υ M A (Ps (.ref C) n) Q E ⟨h,g,d,t,os⟩:=by
 have IC:Â JC n=pure y:=by rw[Œ,hbm]at hB;exact hB
 rw[Œ];refine ν (ī hC ?_);rw[Ġ];refine ν (wpAny_classOwn_exc hC hN ?_);rw[IM n hn];exact uL hn T IC hq
end
theorem yT:Ps (.type "ValueError") "__class__" = pure (ζ (.builtin "object.__class__")):=by rw[Ĭ,î];kernel_rfl
noncomputable abbrev fE:List η:=[.type "ValueError",.type "Exception",.type "BaseException",.type "object"]
variable {Kn:η}{tk:XY}
section
variable {prog:Ε}{w:Ξ}{A:Ρ}{E:η->θ->Prop}{h:Υ}{g:Array Xn}{d:Y0}{t:Nat}{os:WX}{a:ι}{o:na}
 {ec:EC}{C:ι}{bm:List η}{hdct:Bool}{newId:String}{mN:Str->Option η}
theorem Bx{R:Yu->θ->Prop}(hC:h.get? C=ζ (ec.o C bm hdct newId))(T:PP h fE bm)(hx:h.get? a=ζ o)(hc:o.cls=.ref C)(hq:R (.ok (.ret (.ref C))) ⟨h,g,d,t,os⟩) :
  Pi (Α prog w) A (.call (.builtin "getset_descriptor.__get__") ⟨[.builtin "object.__class__",.ref a,.ref C],[]⟩) R ⟨h,g,d,t,os⟩:=by
 have Wk:(⟨h,g,d,t,os⟩:θ).TypeIs (.builtin "object.__class__") "getset_descriptor":=XV;have LF:(Μ C::bm).contains (.type (".".intercalate ("object.__class__".cutAt '.').dropLast))=δ:=by
  rw[F.owner_object_class,dk,T.hasType (show fE.contains (.type "object")=δ by decide)];rfl
 refine AC Zm.plain F.entry_gs_get (Zm.check _ _ _ _ _ _ _ _ Wk (F.args_gs_get _ _ _) ?_)
 repeat (any_goals (first|assumption | (with_reducible refine Η hx ?_;rw[hc]) | (with_reducible refine lf hC ?_;rw[LF])|wp_step))
 refine⟨X8 _ (by decide +kernel),SL F.entry_object_class ?_⟩
 repeat (any_goals (first|assumption | (with_reducible refine Η hx ?_;rw[hc])|wp_step))
theorem qj{Q:Unit->θ->Prop}(hC:h.get? C=ζ (ec.o C bm hdct newId))(T:PP h fE bm)
  (hx:h.get? a=ζ o) (hc:o.cls=.ref C) (hq:Q () ⟨h,g,d,t,os⟩):υ M A (WZ "BaseException.__getattribute__" ⟨[.ref a,Kn],[]⟩) Q E ⟨h,g,d,t,os⟩:=by
 have hk:builtinKind "BaseException.__getattribute__" = ζ .slot:=by decide +kernel
 have Mk:splitId "BaseException.__getattribute__" = ζ ("BaseException","__getattribute__"):=by decide +kernel
 have LF:(Μ C::bm).contains (.type "BaseException")=δ:=by rw[dk,T.hasType (show fE.contains (.type "BaseException")=δ by decide)];rfl
 have ha:=F.args_bexc_ga (.ref a) Kn;simp only[WZ,hk,Mk];refine ν ?_
 .unfold Ý
  repeat (first | (with_reducible refine Η hx ?_;rw[hc]) | (with_reducible refine lf hC ?_;rw[LF])|wp_step)
  exact hq
theorem uF{Q:Fin->θ->Prop}(hC:h.get? C=ζ (ec.o C bm hdct newId))(hN:h.Ns ec.N mN)(IM:∀n∈mT,mN n=ε)(T:PP h fE bm)(TN:fP h fE mT bm)
  (hx:h.get? a=ζ o) (hc:o.cls=.ref C) (hq:Q (.done (.ret (.ref C))) ⟨h,g,d,t,os⟩) :
  υ (Α prog w) A (XC.«object.__getattribute__» ⟨[.ref a,.str "__class__" tk],[]⟩) Q E ⟨h,g,d,t,os⟩:=by
 have Wk:(⟨h,g,d,t,os⟩:θ).TypeIs (.builtin "object.__class__") "getset_descriptor":=XV;have f5:=XV;have f6:=Zm.lookup;have f7:=F.slot_gs_set.lookup;have hmA:("__class__" : Str)∈mT:=.tail _ (.tail _ (.head _))
 repeat (any_goals (first|assumption | (with_reducible refine Η hx ?_;rw[hc])|with_reducible refine dU hmA hC hN IM TN Φ.mro yT ?_|wp_step))
 refine Bx hC T hx hc ?_
 repeat (any_goals (first|assumption|wp_step))
theorem zK{R:Yu->θ->Prop}(hC:h.get? C=ζ (ec.o C bm hdct newId))(hN:h.Ns ec.N mN)(IM:∀n∈mT,mN n=ε)(T:PP h fE bm)(TN:fP h fE mT bm)
  (hx:h.get? a=ζ o) (hc:o.cls=.ref C) (hq:R (.ok (.ret (.ref C))) ⟨h,g,d,t,os⟩) :
  Pi (Α prog w) A (.call (.builtin "BaseException.__getattribute__") ⟨[.ref a,.str "__class__" tk],[]⟩) R ⟨h,g,d,t,os⟩:=
 AC Φ.ga.plain Ď (qj hC T hx hc (uF hC hN IM T TN hx hc hq))
theorem DL{fill expr:Bool}{Q:η->θ->Prop}(hC:h.get? C=ζ (ec.o C bm hdct newId))(hN:h.Ns ec.N mN)(IM:∀n∈mT,mN n=ε)(T:PP h fE bm)(TN:fP h fE mT bm)
  (hx:h.get? a=ζ o) (hc:o.cls=.ref C) (hq:Q (.ref C) ⟨h,g,d,t,os⟩) :
  υ (Α prog w) A (getAttrBy (.ref a) (.str "__class__" tk) fill expr) Q E ⟨h,g,d,t,os⟩:=by
 have f3:=Φ.ga.bind (.ref a);have hx0:(expr&&Z1 (wn "BaseException.__getattribute__"))=γ:=by cases expr<;>rfl
 have QS:(wn "BaseException.__getattribute__" == wn "object.__getattribute__")=γ:=by decide +kernel
 have hx1:(Z1 (Μ C)&&wn "BaseException.__getattribute__" == wn "object.__getattribute__")=γ:=by rw[QS];rfl
 have Rr:("__getattribute__" : Str)∈mT:=.head _;have Rq:("__getattr__" : Str)∈mT:=.tail _ (.head _)
 repeat (any_goals (first|assumption | (with_reducible refine Η hx ?_;rw[hc])|with_reducible refine dU Rr hC hN IM TN Φ.mro Φ.ga.lookup ?_|with_reducible refine dU Rq hC hN IM TN Φ.mro Φ.noGetattr ?_|wp_step))
 refine zK hC hN IM T TN hx hc ?_
 repeat (any_goals (first|assumption|wp_step))
theorem yy{Q:Option η->θ->Prop}(hC:h.get? C=ζ (ec.o C bm hdct newId))(hN:h.Ns ec.N mN)(IM:∀n∈mT,mN n=ε)(T:PP h fE bm)(TN:fP h fE mT bm)
  (hx:h.get? a=ζ o) (hc:o.cls=.ref C) (hq:Q (ζ (.ref C)) ⟨h,g,d,t+1,os⟩):υ (Α prog w) A (getAttr? (.ref a) "__class__") Q E ⟨h,g,d,t,os⟩:=by
 unfold getAttr? getAttrBy?
 repeat (any_goals (first|assumption|with_reducible apply DL hC hN IM T TN hx hc|wp_step))
end
variable {Ww:Int}
section
variable {prog:Ε}{w:Ξ}{A:Ρ}{E:η->θ->Prop}{h:Υ}{g:Array Xn}{d:Y0}{t:Nat}{os:WX}{a:ι}{o:na}
 {ec:EC}{C:ι}{bm:List η}{hdct:Bool}{newId:String}{mN:Str->Option η}
 {MM:EC}{C':ι}{LH:List η}{Jx:Bool}{Kd:String}
theorem vD:isSubtype (.type "type") (.type "type")=pure δ:=by rw[isSubtype_type];kernel_rfl
theorem yf{Q:Fin->θ->Prop}(hC:h.get? C=ζ (ec.o C bm hdct newId))(hN:h.Ns ec.N mN)(IM:∀n∈mT,mN n=ε)(T:PP h fE bm)(TN:fP h fE mT bm)
  (hD:h.get? C'=ζ (MM.o C' LH Jx Kd)) (hx:h.get? a=ζ o) (hc:o.cls=.ref C)
  (hq:∀t',Q (.done (.ret (.bool ((Μ C::bm).contains (.ref C'))))) ⟨h,g,d,t',os⟩) :
  υ (Α prog w) A (XC.«isinstance.nested» ⟨[.ref a,.ref C',.int Ww tk],[]⟩) Q E ⟨h,g,d,t,os⟩:=by
 have f:=vD;by_cases e:(Μ C==Μ C')=δ
 .have NN:=hq t;have:(Μ C::bm).contains (.ref C')=δ:=by
   rw[dk,eo.mp e];simp
  rw[this]at NN
  repeat (any_goals (first|assumption | (with_reducible refine Η hx ?_;rw[hc])|wp_step))
 .have e':(Μ C==Μ C')=γ:=by simpa using e
  cases hb:(Μ C::bm).contains (.ref C')with
  |true=>
   have NN:=hq t;rw[hb]at NN
   repeat (any_goals (first|assumption | (with_reducible refine Η hx ?_;rw[hc])|with_reducible refine Η hD ?_ | (with_reducible refine lf hC ?_;rw[hb])|wp_step))
  |false=>
   have NN:=hq (t+1);rw[hb]at NN
   repeat (any_goals (first|assumption | (with_reducible refine Η hx ?_;rw[hc])|with_reducible refine Η hD ?_|with_reducible refine Η hC ?_ | (with_reducible refine lf hC ?_;rw[hb])|with_reducible apply yy hC hN IM T TN hx hc|wp_step))
theorem xu{Q:Fin->θ->Prop}(hC:h.get? C=ζ (ec.o C bm hdct newId))(T:PP h fE bm)
  (hx:h.get? a=ζ o) (hc:o.cls=.ref C) (hq:Q (.done (.ret (.bool δ))) ⟨h,g,d,t,os⟩) :
  υ (Α prog w) A (XC.«isinstance.nested» ⟨[.ref a,.type "ValueError",.int Ww tk],[]⟩) Q E ⟨h,g,d,t,os⟩:=by
 have hb:(Μ C::bm).contains (.type "ValueError")=δ:=by rw[dk,T.hasType (show fE.contains (.type "ValueError")=δ by decide)];rfl
 have Js:Ļ (.type "ValueError")=pure (.type "type"):=by kernel_rfl
 have e':(Μ C==GM "ValueError")=γ:=rfl
 repeat (any_goals (first|assumption | (with_reducible refine Η hx ?_;rw[hc]) | (with_reducible refine lf hC ?_;rw[hb])|wp_step))
end
noncomputable def ur(K:ψ):List η->Bool
 |[]=>fE == []
 |v::r=>(v::r)==fE || match v with
  |.ref A=>(match K.lookup A with
   |some ⟨_,_,.cls cd,_⟩=>XG K cd.ns&&mT.all (λn=>pi K cd.ns n==ζ ε)&&ur K r
   |_=>γ)
  |_=>γ
noncomputable def oK(K:ψ)(C:ι):Bool:=Uf K C fE "ValueError.__new__" && (match K.lookup C with
 |some ⟨_,_,.cls cd,_⟩=>XG K cd.ns&&mT.all (λn=>pi K cd.ns n==ζ ε)&&ur K cd.mro.tail
 |_=>γ)
noncomputable def dY(K:ψ)(C D:ι):Bool:=match K.lookup C with
 |some ⟨_,_,.cls cd,_⟩=>cd.mro.contains (.ref D)
 |_=>γ
theorem qP{h:Υ}(Ik:K.In h):∀{l:List η},ur K l=δ->fP h fE mT l
 |[],e=>by
  have e:(fE==([]:List η))=δ:=e;rw[<-eo.mp e];exact .base
 |v::r,e=>by
  unfold ur at e;rcases ZE.mp e with q|q
  .rw[eo.mp q];exact .base
  .split at q
   .split at q
    .rename_i ho;simp only[ai,cq,beq_iff_eq]at q;exact .own (Ik _ _ ho) (.of_isNs (h9 Ik q.1.1)) (λn hn=>gn Ik q.1.1 (q.1.2 n hn)) (qP Ik q.2)
    .cases q
   .cases q
structure G6(K:ψ)(h:Υ)(C:ι)(bm:List η):Prop where
 ex:∃(e:EC) (hdct:Bool) (mN:_),h.get? C=ζ (e.o C bm hdct "ValueError.__new__")/\h.Ns e.N mN/\∀n∈mT,mN n=ε
 tail:PP h fE bm
 tn:fP h fE mT bm
 over:∀D,dY K C D=(Μ C::bm).contains (.ref D)
theorem z8{h:Υ}(Ik:K.In h)(q:oK K C=δ):∃bm,G6 K h C bm:=by
 unfold oK at q;rw[ai]at q;obtain⟨ec,bm,hdct,mN,hC,hN,Mr,T⟩:=kJ Ik q.1;have q2:=q.2;split at q2
 .rename_i c0 d0 cd sl ho;simp only[ai,cq,beq_iff_eq]at q2;obtain⟨⟨e1,e2⟩,e3⟩:=q2;have hk:=Ik _ _ ho;rw[hC]at hk;have IT:cd.mro=.ref C::bm/\cd.ns=ec.N:=by
   injection hk with hk
   injection hk with _ _ IP _
   injection IP with IP
   subst IP;exact⟨rfl,rfl⟩
  refine⟨bm,⟨ec,hdct,mN,hC,hN,λn hn=>PySem.W.ns_none_of Ik hN (by rw[<-IT.2];exact e2 n hn)⟩,T,?_,λD=>?_⟩
  .rw[IT.1]at e3;exact qP Ik e3
  .unfold dY;rw[ho];show cd.mro.contains (.ref D)=_;rw[IT.1]
 .cases q2
noncomputable def qT(K:ψ)(D:ι):Bool:=match K.lookup D with
 |some ⟨.type "type",_,.cls cd,sl⟩=>(match cd.mro,sl.toList with
  |.ref C'::_,[_,_,_,_,ζ (.builtin _),_]=>C'==D && !cd.hasDel
  |_,_=>γ)
 |_=>γ
theorem kS{h:Υ}{D:ι}(Ik:K.In h)(q:qT K D=δ) :
  ∃(e:EC) (bm:_) (hdct:Bool) (newId:String),h.get? D=ζ (e.o D bm hdct newId):=by
 unfold qT at q;split at q
 .rename_i dd cd sl ho;split at q
  .rename_i C' bm k0 k1 k2 k3 n k5 hm hs;simp only[ai,beq_iff_eq,en]at q;obtain⟨rfl,JS⟩:=q;obtain⟨nm,bs,mro,ns,qn,hd,sn,sub,ab,col,del⟩:=cd;dsimp only at hm JS;subst hm JS;have NL:sl = #[k0,k1,k2,k3,ζ (.builtin n),k5]:=by
    obtain⟨l⟩:=sl;simp only at hs;rw[hs]
   subst NL;exact⟨⟨nm,qn,ns,bs,sn,sub,ab,col,dd,k0,k1,k2,k3,k5⟩,bm,hd,n,Ik _ _ ho⟩
  .cases q
 .cases q
def Cr(K:ψ)(C:ι):Prop:=∀{h:Υ},K.In h->∃bm,G6 K h C bm
theorem DR(q:oK K C=δ):Cr K C:=λIk=>z8 Ik q
section
variable {prog:Ε}{w:Ξ}{A:Ρ}{E:η->θ->Prop}{K:ψ}
variable {o:na}
theorem AQ{D:ι}{Q:η->θ->Prop}(Ik:K.In s.heap)(qC:Cr K C)(qD:qT K D=δ)(hx:s.heap.get? a=ζ o)(hc:o.cls=.ref C)(hq:∀t',Q (.bool (dY K C D)) {s with toks:=t' }) :
  υ (Α prog w) A (call (.builtin "isinstance") [.ref a,.ref D]) Q E s:=by
 obtain⟨bm,FC⟩:=qC Ik;obtain⟨ec,hdct,mN,hC,hN,IM⟩:=FC.ex;obtain⟨MM,LH,Jx,nI,hD⟩:=kS Ik qD;obtain⟨h,g,d,t,os⟩:=s;refine Þ (yf hC hN IM FC.tail FC.tn hD hx hc λt'=>?_) (by intro e;cases e);rw[<-FC.over D];exact hq t'
theorem A9{Q:η->θ->Prop}(Ik:K.In s.heap)(qC:Cr K C)(hx:s.heap.get? a=ζ o)(hc:o.cls=.ref C)(hq:Q (.bool δ) s) :
  υ (Α prog w) A (call (.builtin "isinstance") [.ref a,.type "ValueError"]) Q E s:=by
 obtain⟨bm,FC⟩:=qC Ik;obtain⟨ec,hdct,mN,hC,hN,IM⟩:=FC.ex;obtain⟨h,g,d,t,os⟩:=s;exact Þ (xu hC FC.tail hx hc hq) (by intro e;cases e)
end
section
variable {X:Cx}{pins:List (ι×na)}{σ:L2.St}{H:Hp}{s:θ}{D:Ends}{k:Nat}{f:ι}{fd:sK}{ps:List Str}{sp:Sp}{Jl:List V}{ds:List η}{W:η->Hp->Prop}
end
section
variable {X:Cx}{a C:ι}{o:na}
end
def Df.Bd(d:Df):Prop:=∀(kV doc pm:η) (an:Option ι) (cdv ct:η) (us:List η),us.length=d.ps.length->UF (wT d.nm d.nm (dF d.st) (aV d.st) (aB d.st) .none kV doc pm an cdv ct) ⟨us,[]⟩=pure (d.ps.zip us)
def Df.LI(p:Pg)(fo:List Str)(d:Df):Prop:=d.Ok p\/(d.Bd/\d.nm∈fo)
variable {fo:List Str}
theorem Df.LI.bd{p:Pg}{d:Df}(h:d.LI p fo):d.Bd:=by
 rcases h with h|h
 .exact h.bd
 .exact h.1
theorem cQ{p:Pg}{d:Df}{n:Nat}(h:d.OV p n=δ):aW d.N d.ps (aB d.st):=by
 unfold Df.OV at h;simp only[ai,decide_eq_true_eq,en,cq]at h;obtain⟨⟨⟨⟨⟨⟨h1,h2⟩,h3⟩,h4⟩,h5⟩,h6⟩,h7⟩:=h;exact⟨h1,h2,h3,h4,h5,λx hx=>jw (h6 x hx),h7⟩
section
variable {p:Pg}{P:Ε}{w:Ξ}{K:Frag}{mg:Str->Option η}{base:Υ}
def j5(p:Pg)(P:Ε)(w:Ξ)(K:Frag)(mg:Str->Option η)(base:Υ)(n:Nat):Prop:=∀(i:Nat) (d:Df),p.J9[i]? = ζ d->∀f fd,L2.lY K d.nm d.nm d.st f fd->kj P w K mg base pG n f fd d.ps (Az K d.ps.length (p.run n i))
def pA(p:Pg)(fo:List Str)(P:Ε)(w:Ξ)(K:Frag)(mg:Str->Option η)(base:Υ):Prop:=∀(n i:Nat) (d:Df),p.J9[i]? = ζ d->d.nm∈fo->j5 p P w K mg base n->∀f fd,L2.lY K d.nm d.nm d.st f fd->kj P w K mg base pG (n+1) f fd d.ps (Az K d.ps.length (p.run (n+1) i))
theorem Ay(hp:∀d∈p.J9,d.LI p fo)(hi:p.In K mg)(hh:rS w K)(hf:pA p fo P w K mg base):∀n,j5 p P w K mg base n:=by
 intro n
 induction n with
 |zero=>
  intro i d hd f fd F;refine⟨λvs H Q E h=>kx h,λA outer s H args us vs Q E hr he hb hv hs=>?_⟩;obtain⟨ds,G,_,_,r,h,_⟩:=hs;cases h
 |succ n ih=>
  intro i d hd f fd F;rcases hp d (Ι hd)with⟨⟨m,hb⟩,S,_⟩|⟨_,hn⟩
  rotate_left
  .exact hf n i d hd hn ih f fd F
  refine F.ok S (λvs H Q E h=>kx h) λcdv A outer s H vs Q E hr hs=>?_
  have C:r8 (aX pG P w K mg base d.N d.nm (aB d.st) f cdv A outer s H E).IL (p.sc d) ⟨p.run n,p.gl,p.fuel⟩:=by
   refine⟨⟨rfl,S.nd,λx h=>qM h,λx h=>⟨jw h,.inl rfl⟩,λx h=>tZ h,λx h=>h,?_,rfl,λj x hj=>?_,λj x hj=>hi.gl j x hj,λx h=>hi.blt x h⟩,rfl,S.kind,Zs,λ_ _ z=>z⟩
   .exact⟨gq (Z2 (by decide:40<=64) _) hr.units,hh⟩
   .obtain⟨e,he,hx⟩:=nV hj;obtain⟨f',Ju,F',M'⟩:=hi.fn j e he;have B':=F'.binds (hp e (Ι he)).bd;subst hx;refine⟨f',Ju,e.ps,n,ih j e he f' Ju F',hr,M',F'.kp,B',λds r h=>?_⟩;have h:p.run n j ds=.ok r:=h;cases n with
    |zero=>cases h
    |succ n=>
     unfold Pg.run Pc.run at h;have:p.fns[j]? = ζ ⟨e.ps.length,e.N.length,e.body⟩:=by unfold Pg.fns;rw[τ,he];rfl
     rw[this]at h;dsimp only at h;by_cases hl:ds.length=e.ps.length
     .exact hl
     .rw[if_neg hl]at h;cases h
  refine⟨_,(BY C m).2 _ _ hb,?_⟩;obtain⟨ds,G,hl,rs,r,IS,k⟩:=hs;unfold Pg.run Pc.run at IS;have:p.fns[i]? = ζ ⟨d.ps.length,d.N.length,d.body⟩:=by unfold Pg.fns;rw[τ,hd];rfl
  rw[this]at IS;dsimp only at IS;rw[if_pos hl]at IS;have hN:ds.length<=d.N.length:=by
   rw[hl,<-S.pre,cn];exact gb _ _
  obtain⟨F0,re,hF⟩:=entry rs hN;refine⟨λa=>H a≠ε,λa=>H a=ε\/a∈G,aJ ds d.N.length,F0,re,λj a ha=>.inr (hF j a ha),λa h=>.inl (Xm.mp h),?_⟩;show post K _ _ _ _ H _ (aP ⟨p.run n,p.gl,p.fuel⟩ d.body (aJ ds d.N.length));have IS:(match aP ⟨p.run n,p.gl,p.fuel⟩ d.body (aJ ds d.N.length)with
   |.rt d fr=>Rs.ok (d,fr)
   |.nx _=>.ok (.Ii,δ)
   |_=>.bad)=.ok r:=IS
  cases hq:aP ⟨p.run n,p.gl,p.fuel⟩ d.body (aJ ds d.N.length)with
  |rt dd fr=>
   rw[hq]at IS;cases IS;intro v H' G' rp ev z fz;exact k v H' G' (iJ ev) rp z λhf=>let ⟨a,b⟩:=fz hf;⟨a,λx hx=>⟨Xm.mp (b x hx).1,(b x hx).2⟩⟩
  |nx e=>
   rw[hq]at IS;cases IS;intro σ' H' F' af;exact k .Ii H' [] (iJ af.ev) .Ii (λ_ h=>(nomatch h)) λ_=>⟨bu,λ_ h=>(nomatch h)⟩
  |bad=>rw[hq]at IS;cases IS
end
theorem FQ{l:ZS}{q:Ε}{loose:List Str}{XP:(Str->Option η)->Υ->Prop}{YP:Ξ->Υ->Prop}{d:DefRec}{K:Yr->ψ}(p:Pg)(fo:List Str)(n i:Nat)(x:Str)(e:Df)(hn:l.most=ζ 63)(N0:d.params.defaults=[])
  (hY:∀(w:Ξ) (h:Υ),YP w h->(K w.params).In h) (hd:p.J9[i]? = ζ e) (Rh:e.ps=[x]) (hnm:d.name=e.nm) (hr:eF n Yj) (ok:u5 (Df.LI p fo) p.J9) (st:∀w:Ξ,sF p (K w.params)) (hL:∀w:Ξ,OX (K w.params)=δ) (hH:∀w:Ξ,rS w (K w.params))
  (hf:∀(w:Ξ) (mg:Str->Option η) (h base:Υ),(K w.params).In h->h.Ns bn mg->p.In (K w.params) mg->pA p fo l.prog w (K w.params) mg base)
  (QK:∀ns:List Int,ns.length<=63->∃fr,p.run n i [.lst (ns.map D.int)]=.ok (.bl δ,fr)) :
  è q loose XP YP l.row.toRowW d [] (λf vs=>ZA f vs):=by
 refine L2.Br (n:=63) (k:=n) (x:=x) (CX:=λ_=>pG) (sp:=λw=>Az (K w.params) 1 (p.run n i)) hn (by decide) N0 hr hY (λw mg fa h KX G hm=>?_) (λw H a ns hl _ hS=>?_) λ_ _ _ _ _ z=>z
 .have I:=(st w).isin KX G;obtain⟨f,fd,F,m⟩:=I.fn i e hd;rw[hnm,m]at hm;obtain rfl:f=fa:=by cases hm;rfl
  refine⟨fd,λs u=>?_,λbase kb nb=>?_⟩
  .obtain⟨oc,od,kV,doc,pm,an,cdv,ct,Kl,rfl,lk,IT⟩:=F.ex;have:=(bC ok e (Ι hd)).bd kV doc pm an cdv ct [u] (by rw[Rh];rfl);rw[Rh]at this;exact .of_eq this
  .have:=Ay (P:=l.prog) (w:=w) (base:=base) (bC ok) I (hH w) (hf w mg h base KX G I) n i e hd f fd F;rw[Rh]at this;exact this
 .obtain⟨fr,h⟩:=QK ns hl;exact Dq (hL w) hS h
theorem pC{K:Frag}(h:oK K C=δ):Uf K C fE "ValueError.__new__" = δ:=by
 unfold oK at h;rw[ai]at h;exact h.1
theorem yi{K:Frag}{D:ι}(h:oK K C=δ)(o:dY K C D=δ):w9 K C D:=by
 unfold dY at o;split at o
 .rename_i c0 dd cd sl hl;exact⟨_,_,cd,c0,dd,sl,pC h,hl,o⟩
 .cases o
structure nY(k:Nat)(A:Ρ):Prop where
 hd:A.handled=ε
 dp:A.depth+5*k+6<wS
 un:A.units+16*k+203<W8
variable {k:Nat}
theorem nY.deeper(r:nY k A)(env:Yo):eF k (A.deeper env):=
 ⟨r.hd,by have:=r.dp;show A.depth+1+5*k+5<_;omega,by have:=r.un;show A.units+3+16*k+200<_;omega⟩
structure bX(P:Ε)(w:Ξ)(K:ψ)(mg:Str->Option η)(base:Υ)(CX:nU)(RP:Ρ->Prop)(f:ι)(fd:sK)(ps:List Str)(sp:Sp):Prop where
 len:∀vs H Q E,sp vs H Q E->vs.length=ps.length
 run:∀(A:Ρ) (outer:List Yo) (s:θ) (H:Hp) (args:PySem.Args) (us:List η) (vs:List V) (Q:VK) (E:XK),RP A->uX P w K mg base A outer s H->à s fd args (ps.zip us)->aL vs us->sp vs H Q E ->
  Pi (Α P w) A (.call (.ref f) args) (CR CX outer P w H s Q E) s
variable {CX:nU}{st:xL}
section
variable {P:Ε}{w:Ξ}{K:ψ}{mg:Str->Option η}{base:Υ}{f:ι}{fd:sK}{ps N:List Str}{sp:Sp}
theorem bX.plain(F:bX P w K mg base CX (eF k) f fd ps sp):kj P w K mg base CX k f fd ps sp:=⟨F.len,F.run⟩
theorem gS{RP:Ρ->Prop}(F:L2.lY K x qual st f fd)(S:aW N ps (aB st))(M9:∀A,RP A->A.handled=ε/\A.depth<wS)(len:∀vs H Q E,sp vs H Q E->vs.length=ps.length)
  (IU:∀(cdv:η) (A:Ρ) (outer:List Yo) (s:θ) (H:Hp) (vs:List V) (Q:VK) (E:XK),RP A->sp vs H Q E ->
   ∃t,gT (aX CX P w K mg base N qual (aB st) f cdv A outer s H E) (aV st) t/\t {nx:=λ_ H'=>Q .Ii H',rt:=Q} (L2.start N vs) H):bX P w K mg base CX RP f fd ps sp:=by
 obtain⟨oc,od,kV,doc,pm,an,cdv,ct,Kl,rfl,lk,IT⟩:=F.ex;refine⟨len,λA outer s H args us vs Q E hr e0 hb r Kq=>?_⟩;have hl:=len _ _ _ _ Kq;have KX:K.In s.heap:=e0.mod.Ik.keeps λb o e=>(e0.bs b o e).1
 have lim:s.heap.NoLimit:=e0.mod.nolimit.keeps λb o e=>(e0.bs b o e).1
 have Jj:∀y∈ps.zip us,(aB st).names.lookup y.1=ζ .local\/((aB st).names.lookup y.1=ζ .cell/\((io (s.heap.objs.size+1) (aB st).names []).lookup y.1).isSome=δ):=λ⟨n,v⟩ hy=>by
  rcases S.par n (fm hy).1 with q|q
  .exact .inl q
  .exact .inr ⟨q,gv _ _ _ (.inl q)⟩
 refine Xh (M9 A hr).2 (KX _ _ lk) rfl S.co S.gen rfl (ic KX IT) (hb _ _ _ _ ?_);refine WF S.kind Jj λenv he s1 x=>?_
 subst he;refine⟨lim.keeps x.toInCall.keep,YE ?_⟩;obtain⟨t,ht,hq⟩:=IU cdv A outer s H vs Q E hr Kq;have I:Inv (aX CX P w K mg base N qual (aB st) f cdv A outer s H E) [] (L2.start N vs) H s1:=jQ S (M9 A hr).1 e0 hl r x;refine Λ (ht [] s1 (L2.start N vs) H _ I hq) (λfl s' hs=>?_) λe s' hs=>hs
 have fin:∀{σ':L2.St}{H':Hp}{v:V}{u:η},Inv (aX CX P w K mg base N qual (aB st) f cdv A outer s H E) [] σ' H' s'->RelV v u->Q v H'->CE outer P w H s Q u s' :=
  λ{σ' H' v u} J rv q=>⟨v,H',J.os,J.bare,J.base,J.Ib,rv,q⟩
 cases fl with
 |ret u=>
  obtain⟨v,σ',H',J,rv,q⟩:=hs;exact fin J rv q
 |next=>
  obtain⟨σ',H',J,q⟩:=hs;exact fin (v:=V.Ii) (u:=zn) J rfl q
 |brk=>
  obtain⟨_,_,_,q⟩:=hs;exact Χ q
 |cont=>
  obtain⟨_,_,_,q⟩:=hs;exact Χ q
end
variable {Q:VK}{p:W3}{vs:List V}
section
variable {X:Cx}{pins:List (ι×na)}{σ:L2.St}{H:Hp}{s:θ}{D:Ends}{RP:Ρ->Prop}{f:ι}{fd:sK}{ps:List Str}{sp:Sp}{Jl:List V}{ds:List η}{W:η->Hp->Prop}
theorem Ar(F:bX X.prog X.w X.K X.mg X.base (lh X.prog X.w) RP f fd ps sp)(hr:RP X.A)(hb:Binds X.K fd ps ds)(hd:aL Jl ds)
  (I:Inv X pins σ H s) (r:aL vs us) (h:sp (vs++Jl) H Q (λC _ H'=>W C H')):υ (Α X.prog X.w) X.A (call (.ref f) us) (EP X pins σ Q) (ls X pins σ W) s:=by
 have r2:aL (vs++Jl) (us++ds):=r.append hd;have hl:(us++ds).length=ps.length:=by rw[<-r2.length];exact F.len _ _ _ _ h
 refine UV (Xb (F.run X.A X.stack s H ⟨us,[]⟩ (us++ds) (vs++Jl) Q _ hr I.env0 (hb s us I.Jd hl) r2 h) λr s' hq=>?_);cases r with
 |error e=>
  have hq:lh X.prog X.w X.stack H s (λC _ H'=>W C H') e s':=hq;obtain⟨a,C,a0,H',B,e1,e2,e3,e4,e5,e6⟩:=yo (X:=X) hq;exact⟨H,s,a,C,a0,H',B,I,e1,e2,e3,e4,e5,e6⟩
 |ok fl=>
  cases fl with
  |ret u=>exact I.after hq
  |next=>exact Χ hq
  |brk=>exact Χ hq
  |cont=>exact Χ hq
theorem uW(F:bX X.prog X.w X.K X.mg X.base (lh X.prog X.w) RP f fd ps sp)(hr:RP X.A)(hg:Gl X x)(hm:X.mg x=ζ (.ref f))(hk:Ο X.K (.ref f)=δ)(hb:Binds X.K fd ps ds)(hd:aL Jl ds)
  (I:Inv X pins σ H s) (ha:PA X.IL (e::es) t) (h:t σ H λvs H1=>sp (vs++Jl) H1 Q (λC _ H'=>W C H')) (JT:(x==("__debug__" : Str))=γ:=by decide)
  (he:Δ (e::es) X.env=(γ,eval e X.env)::Δ es X.env:=by rfl) (IG:(Fa pos (Δ es X.env)).any (·.1)=γ:=by rfl) :
  υ (Α X.prog X.w) X.A (eval (.Call (.Name x p) (e::es) [] pos) X.env) (EP X pins σ Q) (ls X pins σ W) s:=by
 refine lw (cV I hg hm ?_ JT);refine dz (h₀:=X.base) I.ok.mod.Ik hk (Λ (ha pos pins s σ H _ (I.ID _) h) (λus s1 ⟨vs,H1,I1,r,q⟩=>⟨I1.Ih.Jd,?_⟩) λ_ _ z=>Χ z) he IG;exact Ar F hr hb hd I1.Ih r q
end
section
variable {X:Cx}{S:Sc}{T:Tb}
theorem PS.IL{t:TS}(h:PS X.IL st t):PS X st t:=λpins s σ H D I hw=>by
 have:=h pins s σ H D (I.ID _) hw;refine Λ this (λf s1 q=>?_) λ_ _ z=>z.elim
 cases f with
 |next=>obtain⟨σ',H',J,q⟩:=q;exact⟨σ',H',J.Ih,q⟩
 |brk=>obtain⟨σ',H',J,q⟩:=q;exact⟨σ',H',J.Ih,q⟩
 |cont=>obtain⟨σ',H',J,q⟩:=q;exact⟨σ',H',J.Ih,q⟩
 |ret u=>obtain⟨v,σ',H',J,r,q⟩:=q;exact⟨v,σ',H',J.Ih,r,q⟩
end
variable {ps:List Str}
section
variable {p:Pg}{P:Ε}{w:Ξ}{K:Frag}{mg:Str->Option η}{base:Υ}
theorem su{n:Nat}{CX:nU}{nm:Str}{sc:Db}{f:ι}{cdv:η}{A:Ρ}{outer:List Yo}{s:θ}{H:Hp}{E:XK}(hp:∀d∈p.J9,d.LI p fo)(hi:p.In K mg)(hh:rS w K)(ih:j5 p P w K mg base n)(S:aW N ps sc)
  (hr:eF n (A.deeper (im nm sc s.heap.objs.size f cdv))):r8 (aX CX P w K mg base N nm sc f cdv A outer s H E).IL ⟨N,sc,p.J9.map (·.nm),p.sY,p.dG⟩ ⟨p.run n,p.gl,p.fuel⟩:=by
 refine⟨⟨rfl,S.nd,λx h=>qM h,λx h=>⟨jw h,.inl rfl⟩,λx h=>tZ h,λx h=>h,?_,rfl,λj x hj=>?_,λj x hj=>hi.gl j x hj,λx h=>hi.blt x h⟩,rfl,S.kind,Zs,λ_ _ z=>z⟩
 .exact⟨gq (Z2 (by decide:40<=64) _) hr.units,hh⟩
 .obtain⟨e,he,hx⟩:=nV hj;obtain⟨f',Ju,F',M'⟩:=hi.fn j e he;have B':=F'.binds (hp e (Ι he)).bd;subst hx;refine⟨f',Ju,e.ps,n,ih j e he f' Ju F',hr,M',F'.kp,B',λds r h=>?_⟩;have h:p.run n j ds=.ok r:=h;cases n with
  |zero=>cases h
  |succ n=>
   unfold Pg.run Pc.run at h;have:p.fns[j]? = ζ ⟨e.ps.length,e.N.length,e.body⟩:=by unfold Pg.fns;rw[τ,he];rfl
   rw[this]at h;dsimp only at h;by_cases hl:ds.length=e.ps.length
   .exact hl
   .rw[if_neg hl]at h;cases h
end
variable {pos':W3}
section
variable {X:Cx}{pins:List (ι×na)}{σ:L2.St}{H:Hp}{s:θ}{D:Ends}{W:η->Hp->Prop}
theorem BM{i:Nat}{Q:VK}(hN:X.N.Nodup)(hi:X.N[i]? = ζ x)(hx:Loc X.env.scope x)(I:Inv X pins σ H s)(h:υ (Α X.prog X.w) X.A (eval e X.env) (EP X pins σ Q) (ls X pins σ W) s)(hq:∀v H',Q v H'->D.nx (σ.set i (ζ v)) H')
  (hs:W7 e (ζ (.Name x pos')) pos.line X.env=pure γ:=by rfl) (hf:X.fn x=δ\/X.env.scope.names.lookup x=ζ .local:=by first|exact .inl rfl|exact .inr rfl|assumption) :
  υ (Α X.prog X.w) X.A (ZN [.Assign [.Name x pos'] e pos] X.env) (SP X pins D) (ls X pins σ W) s:=by
 refine ww (Λ (Q:=SP X pins D) (YD (bT h λv s1 ⟨y,H1,I1,r1,q1⟩=>dC I1 hN hi hx r1 (λs2 I2=>⟨_,H1,I2,hq _ _ q1⟩) hf) hs) (λf s1 q=>?_) λ_ _ z=>z);cases f with
 |next=>exact Ix q
 |ret v=>exact q
 |brk=>exact q
 |cont=>exact q
end
section
variable {X:Cx}{pins:List (ι×na)}{σ:L2.St}{H:Hp}{s:θ}{D:Ends}
noncomputable abbrev Bs(X:Cx)(a:ι)(o:na):Cx:={X with pn:=(a,o)::X.pn}
noncomputable abbrev Gh:Ends:=⟨λ_ _=>False,λ_ _=>False,λ_ _=>False,λ_ _=>False⟩
theorem DH{f:Flow}(h:SP X pins Gh f s):False:=by
 cases f with
 |next=>obtain⟨_,_,_,q⟩:=h;exact q
 |brk=>obtain⟨_,_,_,q⟩:=h;exact q
 |cont=>obtain⟨_,_,_,q⟩:=h;exact q
 |ret u=>obtain⟨_,_,_,_,_,q⟩:=h;exact q
theorem lW{o:na}(I:Inv (j0 X a o) pins σ H s)(ok:X.Ok):Inv (Bs X a o) pins σ H s:=
 ⟨⟨ok.mod,ok.kind,ok.glob,ok.blt,ok.above,ok.inj,ok.has,ok.KJ,ok.hd,ok.frames,ok.Ll,ok.LX,ok.bs,ok.Ks,ok.Jr,ok.Jv,ok.IH,ok.KI⟩,I.os,I.bare,I.base,I.loc,I.cell,I.free,I.Il,I.pin,I.Ib,I.len⟩
variable {a C:ι}{o:na}
end
section
variable {X:Cx}{pins:List (ι×na)}{σ:L2.St}{H:Hp}{s:θ}{D:Ends}
theorem jV{a:ι}{o:na}(I:Inv (Bs X a o) pins σ H s)(ok:X.Ok)(hn:X.s₀.heap.get? a=ε)(hp:∀p∈X.pn++pins,p.1≠a):Inv X pins σ (upd H a (.JA o (.own a))) s:=by
 obtain⟨e,n,nl,nf,nc⟩:=I.pin (a,o) (au _ ah);have e:s.heap.get? a=ζ o:=e;have n:H a=ε:=n;have ne:∀b u,H b=ζ u->b≠a:=λb u q=>bO q n
 refine⟨ok,I.os,I.bare,⟨I.base.keep,I.base.slot,λb ob q m hx=>?_,I.base.there,λb xs q=>?_,λb ob u q=>?_,λb ps q=>?_⟩,I.loc,I.cell,?_,λx c q=>?_,λp q=>?_,λb u q=>?_,I.len⟩
 .rw[aE (λz=>by rw[z]at q;have q:X.s₀.heap.get? a=ζ ob:=q;rw[hn]at q;cases q)];exact I.base.free b ob q m hx
 .have:=I.base.IZ b xs q;rw[aE (ne _ _ this)];exact this
 .have:=I.base.IV b ob u q;rw[aE (ne _ _ this)];exact this
 .obtain⟨m,this⟩:=I.base.Ja b ps q;exact⟨m,by rw[aE (ne _ _ this)];exact this⟩
 .rw[aE (λz=>nl z.symm)];exact I.free
 .rw[aE (λz=>by
   obtain⟨v,oc,h1,h2⟩:=I.cell x c q;have h1:s.heap.get? c=ζ oc:=h1;rw[z,e]at h1;cases h1;exact nc v h2)]
  exact I.Il x c q
 .obtain⟨e1,n1,r1⟩:=I.pin p (ae _ q);exact⟨e1,by rw[aE (hp p q)];exact n1,r1⟩
 .by_cases hb:b=a
  .subst hb;rw[aK]at q;cases q;exact⟨e,o,e⟩
  .rw[aE hb]at q;exact(I.Ib b u q).Iy (λc v _ w=>w) (λc w=>by rw[aE (ne _ _ w)];exact w) λc xs w=>by rw[aE (ne _ _ w)];exact w
theorem Au(hs:X.stack=X.env::X.outer)(hf:X.env.frame=ζ X.env.locals)(ok:X.Ok)(hex:X.ex=[]){body rest:List xL}{i:Nat}{Cd:ι}{WD:List η}{newD:String}{hp:W3}{b₀:xL}{JK:List xL}{ts:ι->TS}{tr:TS}{W:η->Hp->Prop}(hN:X.N.Nodup)(hi:X.N[i]? = ζ n)(hk:X.env.scope.names.lookup n=ζ .local)
  (hg:Gl X x) (hm:X.mg x=ζ (.ref Cd)) (qD:Uf X.K Cd WD newD=δ) (hB:WD.contains (.type "BaseException")=δ)
  (Q0:∀a o C H',W C H'->o.cls=C->(∃vs,o.data=.fields vs)->gT (j0 X a o) (b₀::JK) (ts a))
  (Q5:gT X rest tr)
  (hw:∀C H',W C H'->(∃c,C=.ref c/\w9 X.K c Cd)/\∀a o,o.cls=C->ts a ⟨λσ' H2=>H2 a=ε->tr D (σ'.set i ε) (upd H2 a (.JA o (.own a))),λ_ _=>False,λ_ _=>False,λ_ _=>False⟩ (σ.set i (ζ (.ref a))) H') (hd:(x==("__debug__" : Str))=γ:=by decide)
  (hb:υ (Α X.prog X.w) X.A (ZN body X.env) (SP X pins ⟨λσ' H'=>tr D σ' H',λ_ _=>False,λ_ _=>False,λ_ _=>False⟩) (ls X pins σ W) s) :
  υ (Α X.prog X.w) X.A (ZN (.Try body [.ExceptHandler (ζ (.Name x np)) (ζ n) (b₀::JK) hp] [] [] pos::rest) X.env) (SP X pins D) X.xe s:=by
 refine ww (Λ (Q:=λf s'=>f=.next/\∃σ' H2,Inv X pins σ' H2 s'/\tr D σ' H2) ?_ (λf s2 q=>?_) λ_ _ z=>z)
 rotate_left
 .obtain⟨rfl,σ',H2,I2,h3⟩:=q;exact Q5 pins s2 σ' H2 D I2 h3
 refine YX (Λ hb (λf s1 h1=>?_) λe s1 h1=>?_)
 .cases f with
  |next=>obtain⟨σ',H',I,q⟩:=h1;exact Ix ⟨rfl,σ',H',I,q⟩
  |brk=>obtain⟨_,_,_,q⟩:=h1;exact q.elim
  |cont=>obtain⟨_,_,_,q⟩:=h1;exact q.elim
  |ret u=>obtain⟨_,_,_,_,_,q⟩:=h1;exact q.elim
 obtain⟨H0,s0,a,C,a0,H',B,I0,rfl,ho,N4,F1,f1,w1⟩:=h1;obtain⟨⟨c,rfl,JC,newId,cd,c0,dd0,sl0,qC,lC,mC⟩,QZ⟩:=hw C H' w1;have Oz:=f1;rw[hs]at Oz;refine wpAny_looks_onW (by rw[ok.frames,hs]) hf Oz λh2 g2 u2=>?_
 rw[<-hs]at g2;have F2:=F1.next I0 g2.1 (cN f1) u2;refine wpAny_landsW g2 λh3 f3 u3=>?_
 have F3:=F2.next I0 f3.1 (j6 g2) u3;have e3:({s1 with heap:=h3}:θ)={s0 with heap:=h3,gens:=s1.gens,drawn:=s1.drawn,toks:=s1.toks}:=by
  cases s1;cases s0;cases ho;rfl
 have I3:Inv X pins σ H' {s1 with heap:=h3}:=by
  rw[e3];exact F3.inv I0 N4
 have M3:=pM I3 a ok.frames;refine Ï (ï (cV (X:=markX X a) M3 hg hm ?_ hd)) (by intro q;cases q);obtain⟨MM,LH,Jx,mN',hD,hND,hniD,TD⟩:=kJ I3.Jd qD;obtain⟨ec,bm,hdct,mN,hC,hNC,hniC,TC⟩:=kJ I3.Jd qC;obtain⟨oe,he,RK⟩:=f3.there;have Rm:(Μ c::bm).contains (.ref Cd)=δ:=by
  have:=I3.Jd _ _ lC;rw[hC]at this;cases this;exact mC
 refine j4 hC hD he RK (TD.hasType hB) ?_;rw[Rm];refine Zt ?_;refine lands_againW f3 λh4 f4 u4=>?_
 have F4:=F3.next I0 f4.1 (cN f3) u4;have e4:({s1 with heap:=h4}:θ)={s0 with heap:=h4,gens:=s1.gens,drawn:=s1.drawn,toks:=s1.toks}:=by
  cases s1;cases s0;cases ho;rfl
 have I4:Inv X pins σ H' {s1 with heap:=h4}:=by
  rw[e4];exact F4.inv I0 N4
 obtain⟨o4,Ng,e5,c5,d5,_⟩:=f4.first;have Iv:a∉cK X.stack:=λz=>by
  obtain⟨o',e',Mx⟩:=cN f4 a z;rw[e5]at e';cases e';exact Mx Ng d5
 obtain⟨Lx,KU⟩:s0.heap.get? a=ε/\H' a=ε:=by
  rcases F4.bf a o4 e5 with z|z|z
  .exact absurd z Iv
  .rw[f4.2.1]at z;cases z
  .exact z
 have Mj:cK X.stack=X.env.locals::X.fs:=by
  rw[hs];unfold cK;rw[gm,hf];rfl
 rw[Mj]at Iv;have P4:Inv (j0 X a o4) pins σ H' {s1 with heap:=h4}:=m9 I4 a o4 ok.frames ⟨e5,KU,λz=>Iv (by rw[z];exact ah),λz=>Iv (ae _ z),λv z=>by rw[d5]at z;cases z⟩;refine dC (X:=j0 X a o4) P4 hN hi (.inl hk) (show RelV (.ref a) (.ref a)from rfl) (λs5 I5=>?_) (.inr hk);refine Λ (Q0 a o4 _ H' w1 c5 ⟨Ng,d5⟩ pins s5 _ H' _ I5 (QZ a o4 c5)) (λf s6 h6=>?_) λ_ _ z=>z.elim
 cases f with
 |next=>
  obtain⟨σ',H6,I6,q⟩:=h6;refine mO (X:=Bs X a o4) (lW I6 ok) hN hi hk λs7 I7=>?_
  have h6:H6 a=ε:=(I7.pin (a,o4) (au _ ah)).2.1;refine⟨rfl,_,_,jV I7 ok ?_ λp hp z=>?_,q h6⟩
  .cases e:X.s₀.heap.get? a with
   |none=>rfl
   |some ob=>
    obtain⟨o',e'⟩:=I0.base.there a ob e (by rw[hex];exact br);rw[Lx]at e';cases e'
  .have:=(I0.pin p hp).1;rw[z,Lx]at this;cases this
 |brk=>obtain⟨_,_,_,q⟩:=h6;exact q.elim
 |cont=>obtain⟨_,_,_,q⟩:=h6;exact q.elim
 |ret u=>obtain⟨_,_,_,_,_,q⟩:=h6;exact q.elim
end
section
variable {X:Cx}
end
def fS(h:Υ)(e:ι)(od:Option ι):Prop:=∃o,h.get? e=ζ o/\o.dict=od
theorem lN(o:na)(f):(o.mapFields f).dict=o.dict:=by
 unfold Xf;split<;>rfl
section
variable {M:ZM}{A:Ρ}{E:η->θ->Prop}{s:θ}{base:Υ}{env:Yo}{outer l:List Yo}{L e:ι}{oe:na}{vs:Array η}{head a0 cls fl:η}{LG:Bool}{od:Option ι}
theorem xS{Q:Unit->θ->Prop}(fr:A.frames=ζ (env::outer))(ff:s.heap.FunFrames base (env::outer))(ef:env.frame=ζ L)(at_:s.heap.get? e=ζ oe)(st:base.StaysIn s.heap)(nw:base.get? e=ε)(da:oe.data=.fields vs)(sz:1<vs.size)
  (v0:vs[0]? = ζ a0) (k:∀h',Heap.NotedW base (env::outer) e oe.cls a0 (YN L) s.heap h'->fS h' e oe.dict->Q () {s with heap:=h' }) :
  υ M A (do let a <- frameOf env;let pl <- entryPlaceOf L LG;let b <- YZ head a .none (YN L) .none pl;setField (.ref e) 1 b) Q E s:=by
 have Iv:e∉(env::outer).filterMap (·.frame):=λz=>by
  obtain⟨_,o,ho,nf⟩:=ff.mem z;rw[at_]at ho;cases ho;exact nf vs da
 refine ν (wpAny_frameOf_fun fr ff ef λg so=>ν (wpAny_entryPlaceOf λpl hp=>?_));unfold YZ newFields;refine ν (XE ?_ (hp.sizeOk5 _ _ _ _ _));have Jn:g.get? e=ζ oe:=(so.2.1 e Iv).trans at_;have Vr:base.StaysIn g:=λb o q=>(so.2.1 b λz=>by rw[(ff.mem z).1]at q;cases q).trans (st b o q)
 generalize hT:({cls:=.type "traceback",dict:=ε,data:=.fields ([head,.ref L,.none,YN L,.none]++(if pl.isEmpty then π 6 zn else pl)).toArray}:na)=oT;have frT:oT.isFreed=γ:=by subst hT;rfl
 have daT:oT.data=.fields ([head,.ref L,.none,YN L,.none]++(if pl.isEmpty then π 6 zn else pl)).toArray:=by subst hT;rfl
 have at2:=ξ oT Jn;refine Zn at2 da sz (k _ ?_ ?_)
 .have ne:g.objs.size≠e:=Ze (ρ Jn);have Wx:=Xt da (·.setIfInBounds 1 (Μ g.objs.size));have at3:=f8 (Xf (·.setIfInBounds 1 (Μ g.objs.size))) at2 (XN Wx);have tb3:=(Κ (g.push oT) (Xf (·.setIfInBounds 1 (Μ g.objs.size))) (cj ne)).trans (Τ g frT);have kp:∀b o,b≠e->g.get? b=ζ o->((g.push oT).update e (Xf (·.setIfInBounds 1 (Μ g.objs.size)))).get? b=ζ o:=λb o hb q=>
   (Κ _ _ (cj hb)).trans (ξ _ q)
  have JP:∀b o,s.heap.get? b=ζ o->(∀ws,o.data≠.fields ws)->b≠e:=λb o q nf z=>by
   subst z;rw[at_]at q;cases q;exact nf vs da
  refine⟨λb o q=>kp b o (λz=>by rw[z,nw]at q;cases q) (Vr b o q),ff.of_keeps λb o q nf=>?_,⟨_,_,g.objs.size,_,_,at3,⟨Obj.cls_mapFields _ _,by rw[Array.getElem?_setIfInBounds_ne (by decide)];exact v0⟩,Wx,by simp[sz],Vr.fresh,ne,tb3,daT,?_⟩,λb o q nf=>?_⟩
  .obtain⟨sl,q1⟩:=so.2.2 b o q;exact⟨_,kp b _ (JP b o q nf) q1,rfl⟩
  .rcases hp with rfl|⟨_,_,_,_,_,_,_,rfl⟩<;>simp
  .obtain⟨sl,q1⟩:=so.2.2 b o q;exact⟨sl,kp b _ (JP b o q nf) q1⟩
 .exact⟨_,f8 _ at2 (XN (Xt da _)),lN _ _⟩
theorem kF{Q:Unit->θ->Prop}(st:base.StaysIn s.heap)(ff:s.heap.FunFrames base l)(tr:s.heap.TracedAtW base e cls a0 fl)(dc:fS s.heap e od)
  (k:∀h',base.StaysIn h'->h'.FunFrames base l->h'.TracedW base e cls a0->(∀b o,s.heap.get? b=ζ o->(∀ws,o.data≠.fields ws)->h'.get? b=ζ o)->fS h' e od->Q () {s with heap:=h' }) :
  υ M A (Z3 (.ref e) ε) Q E s:=by
 obtain⟨ob,ws,T,oT,ts,e1,e2,e3,e4,e5,e6,e7,e8,e9⟩:=tr;have z3:3<ts.size:=(Da.mp e9).1;have ot:∀b,b≠T->(s.heap.update T (Xf (·.setIfInBounds 3 ((ε:Option ι).elim zn λf=>YN f)))).get? b=s.heap.get? b:=λb hb=>Κ _ _ (cj hb)
 have JP:∀b o,s.heap.get? b=ζ o->(∀us,o.data≠.fields us)->b≠T:=λb o q nf z=>by
  subst z;rw[e7]at q;cases q;exact nf ts e8
 unfold Z3;refine ν (Y4 e1 e3 e4 ?_);rw[if_pos (show(Μ T != zn)=δ from by simp)];refine Zn e7 e8 z3 (k _ (λb o q=>(ot b λz=>by rw[z,e5]at q;cases q).trans (st b o q)) (ff.of_keeps λb o q nf=>⟨o,(ot b (JP b o q nf)).trans q,rfl⟩) ?_ (λb o q nf=>(ot b (JP b o q nf)).trans q) ?_)
 .exact⟨ob,ws,T,_,_,(ot e (cj e6)).trans e1,e2,e3,e4,e5,e6,f8 _ e7 (XN (Xt e8 _)),Xt e8 _,by simp[z3]⟩
 .obtain⟨o,q1,q2⟩:=dc;exact⟨o,(ot e (cj e6)).trans q1,q2⟩
theorem CL{Q:Unit->θ->Prop}(fr:A.frames=ζ (env::outer))(ff:s.heap.FunFrames base (env::outer))(ef:env.frame=ζ L)(at_:s.heap.get? e=ζ oe)(st:base.StaysIn s.heap)(nw:base.get? e=ε)(da:oe.data=.fields vs)(v1:vs[1]? = ζ .none)
  (v0:vs[0]? = ζ a0) (k:∀h',sw base outer e oe.cls a0 h'->s.heap.UpToSlots h'->fS h' e oe.dict->Q () {s with heap:=h' }):υ M A (leaving env (.ref e)) Q E s:=by
 unfold leaving ZW;simp only[ef];refine ν (ν (Y4 at_ da v1 ?_));rw[if_neg (by decide)];refine xS fr ff ef at_ st nw da (Da.mp v1).1 v0 λg ⟨n1,n2,n3,n4⟩ dc=>?_
 refine kF (s:={s with heap:=g}) n1 n2 n3 dc λh' k1 k2 k3 k4 k5=>k h' ⟨k1,nw,?_,k3⟩ (λb o q nf=>?_) k5
 .obtain⟨_,_,z⟩:=k2;exact z
 .obtain⟨sl,q1⟩:=n4 b o q nf;exact⟨sl,k4 b _ q1 nf⟩
theorem BZ{Q:Unit->θ->Prop}(fr:A.frames=ζ (env::outer))(ef:env.frame=ζ L)(f:sw base (env::outer) e cls a0 s.heap)(dc:fS s.heap e od)
  (k:∀h',Z0 base (env::outer) e cls a0 L h'->s.heap.UpToSlots h'->fS h' e od->Q () {s with heap:=h' }):υ M A (ZW (.ref e) env) Q E s:=by
 obtain⟨f1,f2,f3,ob,ws,T,oT,ts,e1,⟨rfl,e2⟩,e3,e4,e5,e6,e7,e8,e9⟩:=f;have RI:ob.dict=od:=by
  obtain⟨o,q1,q2⟩:=dc;rw[e1]at q1;cases q1;exact q2
 unfold ZW;simp only[ef];refine ν (Y4 e1 e3 e4 ?_);rw[if_pos (show(Μ T != zn)=δ from by simp)];refine ν (Y4 e7 e8 e9 ?_);rw[if_neg (show¬ ((zn==YN L)=δ)from by simp[YN])];refine ν (Zn e7 e8 (Da.mp e9).1 ?_);have ot:∀b,b≠T->(s.heap.update T (Xf (·.setIfInBounds 3 zn))).get? b=s.heap.get? b:=λb hb=>Κ _ _ (cj hb)
 have JP:∀b o,s.heap.get? b=ζ o->(∀us,o.data≠.fields us)->b≠T:=λb o q nf z=>by
  subst z;rw[e7]at q;cases q;exact nf ts e8
 refine xS fr (f3.of_keeps λb o q nf=>⟨o,(ot b (JP b o q nf)).trans q,rfl⟩) ef ((ot e (cj e6)).trans e1) (λb o q=>(ot b λz=>by rw[z,e5]at q;cases q).trans (f1 b o q)) f2 e3 (Da.mp e4).1 e2 λh' ⟨n1,n2,n3,n4⟩ d'=>?_
 exact k h' ⟨n1,f2,n2,n3⟩ (λb o q nf=>n4 b o ((ot b (JP b o q nf)).trans q) nf) (RI ▸ d')
theorem VH{Q:Unit->θ->Prop}(fr:A.frames=ζ (env::outer))(ef:env.frame=ζ L)(f:sw base (env::outer) e cls a0 s.heap)(dc:fS s.heap e od)
  (k:∀h',sw base outer e cls a0 h'->s.heap.UpToSlots h'->fS h' e od->Q () {s with heap:=h' }):υ M A (leaving env (.ref e)) Q E s:=by
 unfold leaving;refine ν (BZ fr ef f dc λg ⟨n1,n2,n3,n4⟩ u d1=>?_);refine kF (s:={s with heap:=g}) n1 n3 n4 d1 λh' k1 k2 k3 k4 k5=>k h' ⟨k1,n2,?_,k3⟩ (u.trans λb o q nf=>⟨o.slots,k4 b o q nf⟩) k5
 obtain⟨_,_,z⟩:=k2;exact z
theorem Dw{Q:Unit->θ->Prop}(f:Z0 base l e cls a0 L s.heap)(dc:fS s.heap e od)(k:∀h',sw base l e cls a0 h'->s.heap.UpToSlots h'->fS h' e od->Q () {s with heap:=h' }):υ M A (Z3 (.ref e) ε) Q E s:=by
 obtain⟨f1,f2,f3,f4⟩:=f;exact kF f1 f3 f4 dc λh' k1 k2 k3 k4 k5=>k h' ⟨k1,f2,k2,k3⟩ (λb o q nf=>⟨o.slots,k4 b o q nf⟩) k5
theorem C2{Q:Unit->θ->Prop}(f:sw base l e cls a0 s.heap)(dc:fS s.heap e od)(k:∀h',sw base l e cls a0 h'->s.heap.UpToSlots h'->fS h' e od->Q () {s with heap:=h' }):υ M A (Z3 (.ref e) ε) Q E s:=by
 obtain⟨f1,f2,f3,f4⟩:=f;exact kF f1 f3 f4.at dc λh' k1 k2 k3 k4 k5=>k h' ⟨k1,f2,k2,k3⟩ (λb o q nf=>⟨o.slots,k4 b o q nf⟩) k5
end
noncomputable def ug(K:ψ)(ns:List Str):List η->Bool
 |[]=>fE == []
 |v::r=>(v::r)==fE || match v with
  |.ref A=>(match K.lookup A with
   |some ⟨_,_,.cls cd,_⟩=>XG K cd.ns&&ns.all (λn=>pi K cd.ns n==ζ ε)&&ug K ns r
   |_=>γ)
  |_=>γ
theorem qo{h:Υ}(Ik:K.In h):∀{l:List η},ug K ns l=δ->fP h fE ns l
 |[],e=>by
  have e:(fE==([]:List η))=δ:=e;rw[<-eo.mp e];exact .base
 |v::r,e=>by
  unfold ug at e;rcases ZE.mp e with q|q
  .rw[eo.mp q];exact .base
  .split at q
   .split at q
    .rename_i ho;simp only[ai,cq,beq_iff_eq]at q;exact .own (Ik _ _ ho) (.of_isNs (h9 Ik q.1.1)) (λn hn=>gn Ik q.1.1 (q.1.2 n hn)) (qo Ik q.2)
    .cases q
   .cases q
theorem rL{h:Υ}{N:ι}{m:Str->Option η}{v:η}(Ik:K.In h)(G:h.Ns N m)(e:pi K N n=ζ (ζ v)):m n=ζ v:=by
 obtain⟨o,es,ep,ho,hd,_,hf⟩:=G;unfold pi at e;split at e
 .rename_i q;have:=Ik _ _ q;rw[ho]at this;cases this;cases hd;split at e
  .rename_i he;rw[<-hf];unfold nsFind findBy;rw[<-Array.find?_toList,he];simpa using e
  .split at e<;>cases e
 .cases e
noncomputable def vb(K:ψ)(C:ι)(ns:List Str)(fI:ι):Bool:=match K.lookup C with
 |some ⟨.type "type",_,.cls cd,sl⟩=>(match cd.mro,sl.toList with
  |.ref C'::bm,[_,_,_,_,ζ (.builtin n),_]=>C'==C&&n == "ValueError.__new__" && !cd.hasDel&&cd.hasDict&&PySem.W.tailIn K fE bm&&ug K ns bm&&XG K cd.ns&&ns.all (λn=>pi K cd.ns n==ζ ε)&&pi K cd.ns "__init__" == ζ (ζ (.ref fI))
  |_,_=>γ)
 |_=>γ
structure U8(K:ψ)(h:Υ)(C:ι)(ns:List Str)(fI:ι)(bm:List η):Prop where
 ex:∃(e:EC) (mN:_),h.get? C=ζ (e.o C bm δ "ValueError.__new__")/\h.Ns e.N mN/\(∀n∈ns,mN n=ε)/\mN "__init__" = ζ (.ref fI)
 tail:PP h fE bm
 tn:fP h fE ns bm
variable {fI:ι}
theorem jx{h:Υ}(Ik:K.In h)(q:vb K C ns fI=δ):∃bm,U8 K h C ns fI bm:=by
 unfold vb at q;split at q
 .rename_i dd cd sl ho;split at q
  .rename_i C' bm k0 k1 k2 k3 n k5 hm hs;simp only[ai,beq_iff_eq,en,cq]at q;obtain⟨⟨⟨⟨⟨⟨⟨⟨rfl,rfl⟩,JS⟩,Wi⟩,ht⟩,hnt⟩,Ib⟩,We⟩,hi⟩:=q;obtain⟨nm,bs,mro,KD,qn,hd,sn,sub,ab,col,del⟩:=cd;dsimp only at hm JS Ib hi Wi We;subst hm JS Wi;have NL:sl = #[k0,k1,k2,k3,ζ (.builtin "ValueError.__new__"),k5]:=by
    obtain⟨l⟩:=sl;simp only at hs;rw[hs]
   subst NL;have G:h.Ns KD _:=.of_isNs (h9 Ik Ib);exact⟨bm,⟨⟨nm,qn,KD,bs,sn,sub,ab,col,dd,k0,k1,k2,k3,k5⟩,_,Ik _ _ ho,G,λn hn=>gn Ik Ib (We n hn),rL Ik G hi⟩,Zl Ik ht,qo Ik hnt⟩
  .cases q
 .cases q
theorem qR{self:η}{Nf:Str}{h:Υ}(T:PP h fE bm):refuseLoop self Nf bm=refuseLoop self Nf fE:=by
 induction T with
 |base=>rfl
 |own _ _ _ _ ih=>rw[ņ];exact ih
section
variable {prog:Ε}{w:Ξ}{A:Ρ}{E:η->θ->Prop}{h:Υ}{g:Array Xn}{d:Y0}{t:Nat}{os:WX}{e:ι}{oe:na}{vs:Array η}{ns:List Str}
 {ec:EC}{C:ι}{bm:List η}{newId:String}{mN:Str->Option η}{x:Str}{v:η}
theorem zD{Q:Unit->θ->Prop}(hC:h.get? C=ζ (ec.o C bm δ newId))(T:PP h fE bm)(he:h.get? e=ζ oe)(hc:oe.cls=.ref C)(hq:Q () ⟨h,g,d,t,os⟩) :
  υ M A (WZ "object.__setattr__" ⟨[.ref e,Kn,v],[]⟩) Q E ⟨h,g,d,t,os⟩:=by
 have SF:=Ã;have LF:(Μ C::bm).contains (.type "object")=δ:=by rw[dk,T.hasType (show fE.contains (.type "object")=δ by decide),Y9]
 have ha:=SF.args (.ref e) Kn v;simp only[WZ,SF.kind,SF.split];refine ν ?_;unfold Ý
 repeat (first | (with_reducible refine Η he ?_;rw[hc]) | (with_reducible refine lf hC ?_;rw[LF])|wp_step)
 exact hq
theorem set_own{Q:Unit->θ->Prop}(hC:h.get? C=ζ (ec.o C bm δ newId))(hN:h.Ns ec.N mN)(IM:∀n∈ns,mN n=ε)(T:PP h fE bm)(TN:fP h fE ns bm)(n1:("__setattr__" : Str)∈ns) (n2:x∈ns)
  (hB:Ps (.type "ValueError") x=pure ε) (he:h.get? e=ζ oe) (hc:oe.cls=.ref C) (hdn:oe.dict=ε) (hd:oe.data=.fields vs)
  (hq:∀h' tk dx,h'.get? e=ζ {oe with dict:=ζ dx}->h.get? dx=ε->h'.Ns dx (λy=>if y=x then ζ v else ε)->(∀b o,b≠e->h.get? b=ζ o->h'.get? b=ζ o)->Q () ⟨h',g,d,tk,os⟩) :
  υ (Α prog w) A (setAttr (.ref e) x v) Q E ⟨h,g,d,t,os⟩:=by
 have SF:=Ã;have f3:=SF.slot.bind (.ref e);unfold setAttr callSpecial? specialOf
 repeat (any_goals (first|assumption | (with_reducible refine Η he ?_;rw[hc])|with_reducible refine dU n1 hC hN IM TN SF.mro SF.slot.lookup ?_|wp_step))
 refine AC SF.slot.plain SF.entry (zD hC T he hc ?_);have NO:=SF.passes (.ref e);unfold XC.«object.__setattr__»
 repeat (first|rw[refuse_eq] | (rw[ņ,qR T,NO]) | (with_reducible refine Η he ?_;rw[hc])|with_reducible refine ī hC ?_|with_reducible refine dU n2 hC hN IM TN SF.mro hB ?_|wp_step)
 rw[hdn,if_neg (by simp[typeHasDict])];split
 .rename_i z;cases z
 split
 .rename_i z;rw[hd]at z;cases z
 have NZ:(h.push {cls:=.type "dict",data:=.dict #[]}).get? e=ζ oe:=ξ _ he;have ne:e≠h.objs.size:=az (ρ he);refine ν (wpAny_alloc' (ν (wpAny_update' NZ (Ν ?_))));have gd:((h.push {cls:=.type "dict",data:=.dict #[]}).update e λo=>{cls:=o.cls,dict:=ζ h.objs.size,data:=o.data,slots:=o.slots}).get? h.objs.size=ζ {cls:=.type "dict",data:=.dict #[]}:=
  (ZF _ _ _ _ ne.symm).trans (Heap.get?_push_at rfl rfl)
 have nd:((h.push {cls:=.type "dict",data:=.dict #[]}).update e λo=>{cls:=o.cls,dict:=ζ h.objs.size,data:=o.data,slots:=o.slots}).Ns h.objs.size (λ_=>ε):=
  ⟨_,#[],_,gd,rfl,λ_ z=>absurd z (by simp),λ_=>rfl⟩
 show υ _ _ (XB h.objs.size (.str x _) x v) _ _ _;unfold XB ð;refine ν (Ν (ν (wpAny_nsSet1 (Ŧ nd) λh' Kz hs=>?_)));obtain⟨oD,esD,epD,hoD,hdD,hcD⟩:=Kz.count (Within.cons x v Within.nil);refine ν (wpAny_lookBehind hoD (by rw[hdD];exact pastItsLine_dict (a8 hcD (by rw[av,du,wE];omega))) ?_)
 repeat (any_goals (first|assumption|wp_step))
 refine hq h' _ h.objs.size ?_ (Xe (ao _)) Kz.ns λb o hb q=>?_
 .refine (hs.2 e ne).trans (f8 _ NZ ?_);have fr:=(X6.mp he).2;obtain⟨oc,od,odt,Kl⟩:=oe;cases odt<;>first|rfl|exact fr
 .exact (hs.2 b (az (ρ q))).trans ((ZF _ _ _ _ hb).trans (ξ _ q))
end
noncomputable abbrev oA(C:ι)(t0:ι):na:={cls:=.ref C,data:=.fields #[.ref t0,.none,.none,.none,.bool γ,.none]}
section
variable {prog:Ε}{w:Ξ}{A:Ρ}{E:η->θ->Prop}{h:Υ}{g:Array Xn}{d:Y0}{t:Nat}{os:WX}{e t0:ι}{us:List η}
 {ec:EC}{C fI:ι}{bm:List η}{hdct:Bool}{mN:Str->Option η}
theorem vv{Q:η->θ->Prop}(hC:h.get? C=ζ (ec.o C bm hdct "ValueError.__new__")) (T:PP h fE bm) (he:h.get? e=ζ (oA C t0)) (hl:us.length<=Ζ)
  (hq:∀h' t1,h'.get? e=ζ (oA C t1)->h.get? t1=ε->(∀b o,b≠e->h.get? b=ζ o->h'.get? b=ζ o)->Q .none ⟨h',g,d,t,os⟩) :
  υ (Α prog w) A (call (.builtin "ValueError.__init__") (.ref e::us)) Q E ⟨h,g,d,t,os⟩:=by
 have FB:=ie;refine UV (AC FB.init.plain FB.initEntry (wpAny_check_init_subT FB T hC he rfl ?_))
 wp_walk
 have ne:e≠h.objs.size:=az (ρ he);refine hq _ h.objs.size ?_ (Xe (ao _)) λb o hb z=>?_
 .rw[f8 _ (ξ _ he) rfl];rfl
 .rw[Κ _ _ (cj hb)];exact ξ _ z
theorem vJ{Q:η->θ->Prop}(hC:h.get? C=ζ (ec.o C bm hdct "ValueError.__new__")) (hN:h.Ns ec.N mN) (T:PP h fE bm) (hi:mN "__init__" = ζ (.ref fI)) {oI:na}(hf:h.get? fI=ζ oI) (hfc:oI.cls=.type "function") (hl:us.length<=Ζ)
  (hq:∀h' e t0,h'.get? e=ζ (oA C t0)->h.get? e=ε->(∀b o,h.get? b=ζ o->h'.get? b=ζ o) ->
   υ (Α prog w) (A.under (.builtin "type.__call__" ⟨.ref C::us,[]⟩)) (call (.ref fI) (.ref e::us)) (λr s'=>r=.none/\Q (.ref e) s') E ⟨h',g,d,t,os⟩) :
  υ (Α prog w) A (call (.ref C) us) Q E ⟨h,g,d,t,os⟩:=by
 have FB:=ie;have f1:=tc_lookup;have f2:=tc_bind (.ref C);have hT:(⟨h,g,d,t,os⟩:θ).TypeIs (.ref C) "type":=⟨_,hC,rfl⟩;refine UV (codeAny_of_tree ?_);show υ _ _ (callAny (.ref C) _) _ _ _
 repeat (any_goals (first|assumption|with_reducible refine Η hC ?_|wp_step))
 refine⟨rfl,codeAny_call_builtin_at (X8 _ (by decide +kernel)) entry_typeCall (wpAny_check_type_call_sub hC ?_)⟩
 repeat (first|with_reducible refine Η hC ?_|with_reducible refine wpAny_madeBy_exc hC ?_|wp_step)
 refine codeAny_call_builtin_code (X8 _ FB.quiet) (wpAny_check_new_subT FB T hC (codeAny_exc_new_subT FB T hC ?_ hl));show υ _ _ _ _ _ ⟨(h.push {cls:=.type "tuple",data:=.seq us.toArray}).push (oA C h.objs.size),g,d,t,os⟩;generalize htu:({cls:=.type "tuple",data:=.seq us.toArray}:na)=ot;have kp:∀b o,h.get? b=ζ o->((h.push ot).push (oA C h.objs.size)).get? b=ζ o:=λb o z=>ξ _ (ξ _ z)
 have MD:=kp _ _ hC;have hf1:=kp _ _ hf;have hN1:=hN.keeps kp;have hg:((h.push ot).push (oA C h.objs.size)).get? (h.objs.size+1)=ζ (oA C h.objs.size):=by
  subst htu
  heap_get
 have hcC:(Μ C::bm).contains (.ref C)=δ:=by simp
 unfold Ý
 repeat (first|with_reducible refine Η hg ?_ | (with_reducible refine lf MD ?_;rw[hcC])|wp_step)
 show υ _ _ (Ps (.ref C) _) _ _ _;refine wpAny_typeLookup_tail MD hN1 (T.keeps kp) FB.mroIs FB.init.lookup ?_;rw[hi];refine KE (ν ?_);unfold bindSpecial;refine ν (wpAny_typeOf (T:="function") ⟨_,hf1,hfc⟩ ?_);rw[if_pos (by decide)];refine Ν (ν (Λ (hq _ _ _ hg (Xe (YA _)) kp) (λr s' z=>?_) λ_ _ z=>z));obtain⟨rfl,z⟩:=z
 wp_walk
 exact z
end
noncomputable abbrev ins(x:Str):List Str:=["__getattribute__","__getattr__","__class__","__setattr__",x]
noncomputable abbrev BU(C t0 dx:ι):na:={cls:=.ref C,dict:=ζ dx,data:=.fields #[.ref t0,.none,.none,.none,.bool γ,.none]}
structure Cm(st:xL)(S x:Str):Prop where
 ex:∃(c1 c2:Str) (p1 p2 p3 p4 p5 p6 p7 p8 p9 VF VE VD VC VB:W3),aV st=[.Expr (.Call (.Attribute (.Name S p1) "__init__" p2) [.Name "self" p3,.JoinedStr [.Constant (.str c1) 0 p4,.FormattedValue (.Name x p5) (-1) ε p6,.Constant (.str c2) 0 p7] p8] [] p9) VF,
   .Assign [.Attribute (.Name "self" VE) x VD] (.Name x VC) VB] /\
  (p2.endLine==p9.line)=δ/\c1.length<=1000/\c2.length<=1000
 sc:aW ["self",x] ["self",x] (aB st)
 gl:(aB st).names.lookup S=ζ .globalImplicit
 l1:(aB st).names.lookup ("self" : Str)=ζ .local
 l2:(aB st).names.lookup x=ζ .local
 ne:x≠"self"
 db:(S==("__debug__" : Str))=γ/\(x==("__debug__" : Str))=γ
structure A4(K:ψ)(mg:Str->Option η)(S x qual:Str)(C cS fI:ι)(fd:sK)(st:xL):Prop where
 hS:mg S=ζ (.ref cS)
 cls:vb K C (ins x) fI=δ
 keep:Ο K (.ref C)=δ
 ga:PySem.W.specialIn K (.ref cS) "__getattribute__" = ζ (ζ (.builtin "type.__getattribute__"))
 rd:PySem.W.readsIn K cS (.type "type")=δ
 fc:PySem.W.findCls K (.ref cS) (.type "type") "__init__" = ζ (.val (.builtin "ValueError.__init__"))
 F:L2.lY K "__init__" qual st fI fd
 ft:(K.lookup fI).any (λo=>o.cls == .type "function")=δ
 bd:Binds K fd ["self",x] []
 s:Cm st S x
 nx:Ps (.type "ValueError") x=pure ε
theorem log2_small{n:Int}(h:n.natAbs<2 ^ 64):n.natAbs.log2<1920:=by
 by_cases z:n.natAbs=0
 .rw[z];decide
 .have:=(Nat.log2_lt z).mpr h;omega
section
variable {P:Ε}{w:Ξ}{K:ψ}{mg:Str->Option η}{base:Υ}{A:Ρ}{E:η->θ->Prop}{s:θ}{e t0 C cS fI:ι}{fd:sK}{st:xL}{S x qual:Str}{n:Int}{u:XY}
theorem wY{Q:η->θ->Prop}(mod:Mod K mg base)(ks:∀b o,base.get? b=ζ o->s.heap.get? b=ζ o)(k:A4 K mg S x qual C cS fI fd st)(hn:n.natAbs<2 ^ 64)(hd:A.depth<wS)(he:s.heap.get? e=ζ (oA C t0))(hb:base.get? e=ε)
  (hq:∀s' t1 dx,s'.os=s.os->s'.gens=s.gens->s'.drawn=s.drawn->s'.heap.get? e=ζ (BU C t1 dx)->(∃m,s'.heap.Ns dx m/\m x=ζ (.int n u))->s.heap.get? dx=ε->(∀b o,b≠e->s.heap.get? b=ζ o->s'.heap.get? b=ζ o)->Q .none s') :
  υ (Α P w) A (call (.ref fI) [.ref e,.int n u]) Q E s:=by
 obtain⟨oc,od,kV,doc,pm,an,cdv,ct,Kl,rfl,lk,IT⟩:=k.F.ex;obtain⟨c1,c2,p1,p2,p3,p4,p5,p6,p7,p8,p9,VF,VE,VD,VC,VB,IU,KZ,Pn,N1⟩:=k.s.ex;have KX:K.In s.heap:=mod.Ik.keeps ks;have lim:s.heap.NoLimit:=mod.nolimit.keeps ks;have sc:=k.s.sc;have Jj:∀y∈[("self" : Str),x].zip [Μ e,.int n u],(aB st).names.lookup y.1=ζ .local\/((aB st).names.lookup y.1=ζ .cell/\((io (s.heap.objs.size+1) (aB st).names []).lookup y.1).isSome=δ):=λy hy=>by
  rcases c9.mp hy with rfl|hy
  .exact .inl k.s.l1
  .rcases c9.mp hy with rfl|hy
   .exact .inl k.s.l2
   .cases hy
 refine UV (Xh hd (KX _ _ lk) rfl sc.co sc.gen rfl (ic KX IT) (k.bd s [.ref e,.int n u] KX rfl _ _ _ _ ?_));refine WF sc.kind Jj λenv RG s1 x1=>?_
 subst RG;refine⟨lim.keeps x1.toInCall.keep,YE ?_⟩;show υ _ (A.deeper (im qual (aB st) s.heap.objs.size fI cdv)) (ZN (aV st) (im qual (aB st) s.heap.objs.size fI cdv)) _ _ _;rw[IU];have M5:(im qual (aB st) s.heap.objs.size fI cdv).scope.kind=.function:=sc.kind;have Ky:s1.heap.Ns s.heap.objs.size (Y2 (im qual (aB st) s.heap.objs.size fI cdv).kindOf ([("self" : Str),x].zip [Μ e,.int n u]) λ_=>ε):=x1.toInCall.ns;obtain⟨h1,tk,rfl,Pa⟩:=x1.done;have nd:[("self" : Str),x].Nodup:=sc.nd;have m1:=iV (m:=λ_=>ε) (kindOf:=(im qual (aB st) s.heap.objs.size fI cdv).kindOf) (vs:=[Μ e,.int n u]) (i:=0) nd rfl rfl k.s.l1;have m2:=iV (m:=λ_=>ε) (kindOf:=(im qual (aB st) s.heap.objs.size fI cdv).kindOf) (vs:=[Μ e,.int n u]) (i:=1) nd rfl rfl k.s.l2;generalize hm:Y2 (im qual (aB st) s.heap.objs.size fI cdv).kindOf ([("self" : Str),x].zip [Μ e,.int n u]) (λ_=>ε)=m at m1 m2 Ky;have Ky:h1.Ns s.heap.objs.size m:=Ky;have VQ:∀{A':Ρ}{E':η->θ->Prop}{s':θ}{p:W3}{Q':η->θ->Prop},s'.heap.Ns s.heap.objs.size m->Q' (.ref e) s'->υ (Α P w) A' (eval (.Name "self" p) (im qual (aB st) s.heap.objs.size fI cdv)) Q' E' s' :=
  λKz LU=>Yt (Xo M5 k.s.l1 Kz m1 LU) (by decide)
 have VP:∀{A':Ρ}{E':η->θ->Prop}{s':θ}{p:W3}{Q':η->θ->Prop},s'.heap.Ns s.heap.objs.size m->Q' (.int n u) s'->υ (Α P w) A' (eval (.Name x p) (im qual (aB st) s.heap.objs.size fI cdv)) Q' E' s' :=
  λKz LU=>Yt (Xo M5 k.s.l2 Kz m2 LU) k.s.db.2
 have NR:=log2_small hn;have kb:∀b o,base.get? b=ζ o->h1.get? b=ζ o:=λb o z=>Pa b o (ks b o z)
 have K1:K.In h1:=mod.Ik.keeps kb;have eL:e≠s.heap.objs.size:=az (ρ he);have NZ:=Pa _ _ he;obtain⟨bm,FI⟩:=jx K1 k.cls;obtain⟨ec,mN,hC,hN,IM,hi⟩:=FI.ex;have Ny:C≠e:=λz=>by rw[z,NZ]at hC;cases hC
 refine ww (Zd ?_ (by simp[ø,M5]) rfl);rw[arm_eval_Call];refine ν (Xp M5 k.s.gl (Y1 (mg:=mg) (show Heap.Ns _ bn mg from mod.glob.keeps kb) k.hS ?_) k.s.db.1);refine ν (Xl ?_);have Ri:œ δ (.Name S p1) (im qual (aB st) s.heap.objs.size fI cdv) p2 p9=pure p9:=by unfold œ;simp[KZ]
 unfold methodCall;rw[show methodCallForm _ _ _=δ from rfl];refine ν (KE (PySem.W.method_cls (name:="__init__") K1 k.ga (PySem.W.cls_value (name:="__init__") K1 k.rd k.fc rfl ?_)));refine ν (ÿ Ri ?_);refine PySem.W.callWith_of (P:=λ_=>True) rfl (λh _=>⟨.machine,.inr (.inl rfl),.now⟩) ?_;refine XJ (KM (VQ Ky (KM ?_)));have l1:(wP (toString n)).length<=2000:=by
  rw[PySem.ofString_length];have:=int_text_length_le (k:=1920) (by decide) NR;omega
 show υ _ _ (eval (.JoinedStr [.Constant (.str c1) 0 p4,.FormattedValue (.Name x p5) (-1) ε p6,.Constant (.str c2) 0 p7] p8) (im qual (aB st) s.heap.objs.size fI cdv)) _ _ _;refine wpAny_JoinedStr (X0 ⟨c1,_,rfl,?_,wpAny_FormattedValue_plain (VP Ky (wpAny_formatField_int NR ⟨_,_,rfl,?_,X0 ⟨c2,_,rfl,?_,?_,W4 ⟨trivial,?_⟩⟩⟩))⟩)
 any_goals (simp only[strLen_append,wE];have:(Str.empty).length=0:=rfl;omega)
 refine vv hC FI.tail NZ (by rw[wE];exact(by decide:1<=16777216)) λh2 t1 M7 Pj O9=>?_
 have VI:h2.Ns s.heap.objs.size m:=by
  obtain⟨o,es,ep,z,r⟩:=Ky;exact⟨o,es,ep,O9 _ _ (cj eL) z,r⟩
 have kb2:∀b o,base.get? b=ζ o->h2.get? b=ζ o:=λb o z=>O9 b o (λy=>by rw[y,hb]at z;cases z) (kb b o z)
 obtain⟨LH,Vc⟩:=jx (mod.Ik.keeps kb2) k.cls;obtain⟨MM,mN',RU,hN2,Rp,hi2⟩:=Vc.ex;refine ww (plainObj_wpAny_Assign_Attribute (VP VI (VQ VI ?_)) rfl);refine set_own (oe:=oA C t1) RU hN2 Rp Vc.tail Vc.tn (by simp) (by simp) k.nx M7 rfl rfl rfl λh3 Vj dx he3 Mu hn3 kp3=>?_
 refine Ix (hq _ t1 dx rfl rfl rfl he3 ⟨_,hn3,by simp⟩ ?_ λb o Lh z=>kp3 b o Lh (O9 b o Lh (Pa b o z)));cases z:s.heap.get? dx with
 |none=>rfl
 |some o=>
  by_cases y:dx=e
  .rw[y,M7]at Mu;cases Mu
  .rw[O9 dx o y (Pa dx o z)]at Mu;cases Mu
end
def Fg(x:Str)(B:Υ)(fr:List ι)(h:Υ)(a:ι)(n:Nat):Prop:=∃dx m u,fS h a (ζ dx)/\h.Ns dx m/\m x=ζ (.int n u)/\B.get? dx=ε/\dx∉fr
noncomputable def ko(x:Str)(P:Ε)(w:Ξ):nU:=λouter H s E e s'=>∃a C a0 H' B n,e=.ref a/\s'.os=s.os/\WY s'.gens/\Un (cK outer) [] H H' s.heap s'.heap/\gY P w H' s'.heap /\
 sw B outer a C a0 s'.heap/\Bf B (cK outer) H' s.heap s'.heap/\Fg x B (cK outer) s'.heap a n/\E C (ζ n) H'
section
variable {M:ZM}{A:Ρ}{E:η->θ->Prop}{s:θ}{env:Yo}{ec:EC}{C:ι}{bm:List η}{hdct:Bool}{newId:String}
theorem vI{y:Ŗ η}{Q:Flow->θ->Prop}(JU:bm.contains (.type "BaseException")=δ) (hh:A.handled=ε)
  (h:υ M A y (λv s₁=>∃e t dx,v=.ref e/\s₁.heap.get? C=ζ (ec.o C bm hdct newId)/\s₁.heap.get? e=ζ (BU C t dx)/\E (.ref e) s₁) E s) :
  υ M A (raiseStmt env (ζ y) ε) Q E s:=by
 have LF:(Μ C::bm).contains (.type "BaseException")=δ:=by rw[dk,JU,Y9]
 unfold raiseStmt;refine ν (Λ h (λv s₁ h₁=>?_) λ_ _ z=>z);obtain⟨e,t,dx,rfl,hC,he,hE⟩:=h₁;obtain⟨hp,g,d,tk,os⟩:=s₁
 repeat (first|with_reducible refine Η he ?_|with_reducible refine Η hC ?_ | (with_reducible refine lf hC ?_;rw[LF])|wp_step)
 exact wpAny_raiseNew_none hh hE
end
variable {dx:ι}{fd:sK}
section
variable {X:Cx}
theorem uQ{y S:Str}{C cS:ι}{W:Nat->Hp->Prop}(hc:X.calm=δ)(hdp:X.A.depth+1<wS)(hg:Gl X y)(hm:X.mg y=ζ (.ref C))(k:A4 X.K X.mg S x qual C cS fI fd st)(ha:PA X [e] t)
  (hw:∀(pins:List (ι×na)) (σ:L2.St) (H:Hp) (s:θ) (h':Υ) (tk:Nat) (a t1 dx:ι) (n:Nat) (u:XY),W n H->Inv X pins σ H s->s.heap.get? a=ε->h'.get? a=ζ (BU C t1 dx)->(∃m,h'.Ns dx m/\m x=ζ (.int n u))->s.heap.get? dx=ε ->
   (∀b o,s.heap.get? b=ζ o->h'.get? b=ζ o)->X.xe (.ref a) {s with heap:=h',toks:=tk})
  (he:Δ [e] X.env=[(γ,eval e X.env)]:=by rfl) (hd:(y==("__debug__" : Str))=γ:=by decide) :
  PS X (.Raise (ζ (.Call (.Name y np) [e] [] cpos)) ε pos) (λD σ H=>t σ H λvs H'=>∃n:Nat,vs=[.int n]/\n<2 ^ 64/\W n H'):=by
 intro pins s σ H D I h;obtain⟨bm,FI⟩:=jx I.ok.mod.Ik k.cls;obtain⟨ec,mN,hC,hN,IM,hi⟩:=FI.ex;rw[arm_exec_Raise];simp only[evalOpt,Option.map];refine ν (Xl (vI (C:=C) (ec:=ec) (bm:=bm) (hdct:=δ) (newId:="ValueError.__new__")
  (FI.tail.hasType (show fE.contains (.type "BaseException")=δ by decide)) (I.ok.hd hc) ?_))
 refine ν (Λ (wpAny_Call_ofName (cV I hg hm ?_ hd)) (λv s₃ h₃=>ν (Xl (Ν h₃))) λ_ _ z=>z);refine dz (h₀:=X.base) I.ok.mod.Ik k.keep (Λ (ha cpos pins s σ H _ I h) (λus s1 ⟨vs,H1,I1,r,n,hv,hn,hW⟩=>⟨I1.Jd,?_⟩) λ_ _ z=>z) he rfl;subst hv;obtain⟨u,rfl⟩:∃u,us=[.int n u]:=by
  cases r with
  |cons r1 r2=>
   cases r2;obtain⟨u,rfl⟩:=(show∃u,_=Ω n u from r1);exact⟨u,rfl⟩
 obtain⟨oc,od,kV,doc,pm,an,cdv,ct,Kl,rfl,lk,IT⟩:=k.F.ex;have ft:=k.ft;rw[show List.lookup fI X.K=_ from lk]at ft;have MD:=I1.bk _ _ hC;obtain⟨h1,g1,d1,tk1,VG⟩:=s1;refine vJ MD (hN.keeps I1.bk) (FI.tail.keeps I1.bk) hi (I1.Jd _ _ lk) (by simpa using ft) (by rw[wE];exact(by decide:1<=16777216)) λh2 a t0 ha0 Lz kp=>?_
 have kb:∀b o,X.base.get? b=ζ o->h2.get? b=ζ o:=λb o z=>kp b o (I1.bk b o z)
 refine wY (n:=n) I.ok.mod kb k (by simpa using hn) (by rw[depth_under_make];exact hdp) ha0 (by
  cases z:X.base.get? a with
  |none=>rfl
  |some o=>have:=I1.bk _ _ z;rw[Lz]at this;cases this) λs3 t1 dx e1 e2 e3 e4 e5 e6 e7=>⟨rfl,a,t1,dx,rfl,?_,e4,?_⟩
 .exact e7 _ _ (λz=>by rw[z,Lz]at MD;cases MD) (kp _ _ MD)
 .obtain⟨h3,g3,d3,Vj,os3⟩:=s3;cases e1;cases e2;cases e3;refine hw pins σ H1 ⟨h1,g1,d1,tk1,VG⟩ h3 Vj a t1 dx n u hW I1 Lz e4 e5 ?_ λb o z=>e7 b o (λy=>by rw[y,Lz]at z;cases z) (kp b o z)
  cases z:h1.get? dx with
  |none=>rfl
  |some o=>
   have:=kp _ _ z;have e6:h2.get? dx=ε:=e6;rw[e6]at this;cases this
theorem vo 
  {σ:L2.St}{C:η}(I:Inv (aX CX P w K mg base N qual scope f cd A outer s H E) pins σ H1 s1) (kp:∀b o,s1.heap.get? b=ζ o->h2.get? b=ζ o)
  (fl:sw (KF s1.heap (cK (im qual scope s.heap.objs.size f cd::outer))) outer a C a0 h') (KL:h2.UpToSlots h') :
  Un (cK outer) [] H H1 s.heap h'/\gY P w H1 h'/\Bf (KF s1.heap (cK (im qual scope s.heap.objs.size f cd::outer))) (cK outer) H1 s.heap h':=by
 have Ls:=I.stack;have L0:∀b o,s.heap.get? b=ζ o->b≠s.heap.objs.size:=λb o e=>az (ρ e)
 have fr:cK (im qual scope s.heap.objs.size f cd::outer)=s.heap.objs.size::cK outer:=rfl;have Iy:∀b o,s1.heap.get? b=ζ o->b≠s.heap.objs.size->b∉cK outer->h'.get? b=ζ o:=λb o e h1 h2=>fl.1 b o (gh _ e (by
  rw[fr];intro z;rcases c9.mp z with z|z
  .exact h1 z
  .exact h2 z))
 have JX:∀b o,s1.heap.get? b=ζ o->b∈cK outer->∃sl,h'.get? b=ζ {o with slots:=sl}:=λb o e hb=>by
  obtain⟨_,o',e',hd⟩:=Ls.mem (b:=b) (show b∈s.heap.objs.size::cK outer from ae _ hb);rw[e]at e';cases e';exact KL b o (kp b o e) hd
 have bs:=I.base;have Iv:∀b,H1 b≠ε->b≠s.heap.objs.size/\b∉cK outer:=λb hb=>by
  have:=I.IQ;refine⟨λz=>hb (this b (show b∈s.heap.objs.size::cK outer by rw[z];exact ah)),λz=>hb (this b (show b∈s.heap.objs.size::cK outer from ae _ z))⟩
 refine⟨⟨λb o e n hf _=>?_,λb o e n hf _=>?_,λb o e n _=>bs.free b o e n (by simp[aX]),λb o e _=>?_,bs.IZ,bs.IV,bs.Ja⟩,kN I.Ib λb o hb e=>Iy b o e (Iv b hb).1 (Iv b hb).2,λb o e=>?_⟩
 .exact Iy b o (bs.keep b o e n hf (by simp[aX])) (L0 b o e) hf
 .obtain⟨sl,e1⟩:=bs.slot b o e n hf (by simp[aX]);obtain⟨La,e2⟩:=JX b _ e1 hf;exact⟨La,e2⟩
 .obtain⟨o1,e1⟩:=bs.there b o e (by simp[aX]);by_cases hf:b∈cK outer
  .obtain⟨La,e2⟩:=JX b _ e1 hf;exact⟨_,e2⟩
  .exact⟨o1,Iy b o1 e1 (L0 b o e) hf⟩
 .by_cases hf:b∈cK outer
  .exact .inl hf
  .cases e1:s1.heap.get? b with
   |none=>
    refine .inr (.inr ⟨?_,?_⟩)
    .cases e0:s.heap.get? b with
     |none=>rfl
     |some o0=>
      obtain⟨o1,e2⟩:=bs.there b o0 e0 (by simp[aX]);rw[e1]at e2;cases e2
    .cases e0:H1 b with
     |none=>rfl
     |some u=>
      obtain⟨ob,e2⟩:=bU.JQ (I.Ib b u e0);rw[e1]at e2;cases e2
   |some o1=>
    by_cases hL:b=s.heap.objs.size
    .refine .inr (.inr ⟨?_,?_⟩)
     .rw[hL];cases e0:s.heap.get? s.heap.objs.size with
      |none=>rfl
      |some o0=>exact absurd rfl (L0 _ _ e0)
     .cases e0:H1 b with
      |none=>rfl
      |some u=>exact absurd hL (Iv b (by rw[e0];simp)).1
    .have:=Iy b o1 e1 hL hf;rw[e]at this;cases this;refine .inr (.inl (gh _ e1 ?_));rw[fr];intro z;rcases c9.mp z with z|z
     .exact hL z
     .exact hf z
theorem uR 
  {σ:L2.St}{tk:Nat}{t1:ι}{n:Nat}{u:XY}(I:Inv (aX (ko x P w) P w K mg base N qual scope f cd A outer s H E) pins σ H1 s1) (Lz:s1.heap.get? a=ε) (he:h2.get? a=ζ (BU C t1 dx))
  (hm:∃m,h2.Ns dx m/\m x=ζ (.int n u)) (Mu:s1.heap.get? dx=ε) (kp:∀b o,s1.heap.get? b=ζ o->h2.get? b=ζ o) (hE:E (.ref C) (ζ n) H1):(aX (ko x P w) P w K mg base N qual scope f cd A outer s H E).xe (.ref a) {s1 with heap:=h2,toks:=tk}:=by
 have Ls:=I.stack;have LC:∀env∈(im qual scope s.heap.objs.size f cd::outer),∀b,env.frame=ζ b->b∈cK (im qual scope s.heap.objs.size f cd::outer):=λenv he b hb=>W0.mpr ⟨env,he,hb⟩
 have Wg:∀b,s1.heap.get? b=ε->(KF s1.heap (cK (im qual scope s.heap.objs.size f cd::outer))).get? b=ε:=λb hb=>by
  cases z:(KF s1.heap (cK (im qual scope s.heap.objs.size f cd::outer))).get? b with
  |none=>rfl
  |some o=>have:=h8 _ z;rw[hb]at this;cases this
 show υ (Α P w) (A.deeper (im qual scope s.heap.objs.size f cd)) (leaving (im qual scope s.heap.objs.size f cd) (.ref a)) _ _ _;refine CL (base:=KF s1.heap (cK (im qual scope s.heap.objs.size f cd::outer))) (s:={s1 with heap:=h2,toks:=tk}) (outer:=outer) I.ok.frames ((YY Ls LC).of_keeps λb o hb _=>⟨o,kp b o hb,rfl⟩) rfl he
  (λb o q=>kp b o (h8 _ q)) (Wg a Lz) rfl rfl rfl λh' fl KL dc=>?_
 obtain⟨r1,r2,r3⟩:=vo I kp fl KL;obtain⟨m,m1,m2⟩:=hm;refine⟨a,.ref C,.ref t1,H1,_,n,rfl,I.os,I.bare,r1,r2,fl,r3,⟨dx,m,u,dc,KL.ns m1,m2,Wg dx Mu,λz=>?_⟩,hE⟩;obtain⟨_,o,e1,_⟩:=Ls.mem (b:=dx) (show dx∈s.heap.objs.size::cK outer from ae _ z);rw[Mu]at e1;cases e1
end
section
variable {X:Cx}{S:Sc}{T:Tb}{W:Nat->Hp->Prop}
end
section
variable {p:Pg}{P:Ε}{w:Ξ}{K:Frag}{mg:Str->Option η}{base:Υ}
def Vt(K:Frag)(n:Nat)(C:ι)(f:List D->Option ((D×Bool) ⊕ Nat)):Sp:=λvs H Q E=>∃ds G,ds.length=n/\aF K H ds vs G/\(match f ds with
 |some (.inl (d,fr))=>∀v H' G',aG H H'->Rep K H' d v G'->(∀a∈G',H a=ε\/a∈G)->(fr=δ->G'.Nodup/\∀a∈G',H a=ε/\∃vs:ML,H' a=ζ vs.o)->Q v H'
 |some (.inr k)=>∀H',aG H H'->E (.ref C) (ζ k) H'
 |none=>False)
theorem Be{n:Nat}{f:List D->Option ((D×Bool) ⊕ Nat)}(h:Vt K n C f vs H Q E):vs.length=n:=by
 obtain⟨ds,G,h1,h2,_⟩:=h;rw[<-h1,h2.len]
end
noncomputable def r9(K:ψ)(C:ι):Bool:=qT K C&&(match K.lookup C with
 |some ⟨_,_,.cls cd,_⟩=>cd.mro.tail.contains (.type "BaseException")
 |_=>γ)
theorem xM{h:Υ}{D:ι}(Ik:K.In h)(q:r9 K D=δ) :
  ∃(e:EC) (bm:_) (hdct:Bool) (newId:String),h.get? D=ζ (e.o D bm hdct newId)/\bm.contains (.type "BaseException")=δ:=by
 unfold r9 at q;rw[ai]at q;obtain⟨ec,bm,hdct,newId,hD⟩:=kS Ik q.1;refine⟨ec,bm,hdct,newId,hD,?_⟩;have q2:=q.2;split at q2
 .rename_i ho;have:=Ik _ _ ho;rw[hD]at this;injection this with this
  injection this with _ _ IP _
  injection IP with IP
  subst IP;exact q2
 .cases q2
theorem xR{h:Υ}{D:ι}(Ik:K.In h)
  (hC:h.get? C=ζ (ec.o C bm hdct newId)) (ho:dY K C D=δ):(Μ C::bm).contains (.ref D)=δ:=by
 unfold dY at ho;split at ho
 .rename_i hl;have:=Ik _ _ hl;rw[hC]at this;injection this with this
  injection this with _ _ IP _
  injection IP with IP
  subst IP;exact ho
 .cases ho
theorem fP.less{h:Υ}{KD:List Str}{l:List η}(x:fP h JC ns l)(hs:∀n∈KD,n∈ns):fP h JC KD l:=by
 induction x with
 |base=>exact .base
 |own a b c _ ih=>exact .own a b (λn hn=>c n (hs n hn)) ih
theorem uk:∀n∈mT,n∈ins x:=λn hn=>by
 simp only[mT,c9,br,or_false]at hn;rcases hn with rfl|rfl|rfl<;>simp
theorem BD(q:vb K C (ins x) fI=δ):Cr K C:=λ{h} Ik=>by
 obtain⟨bm,FI⟩:=jx Ik q;obtain⟨ec,mN,hC,hN,IM,hi⟩:=FI.ex;refine⟨bm,⟨ec,δ,mN,hC,hN,λn hn=>IM n (uk n hn)⟩,FI.tail,FI.tn.less uk,λD=>?_⟩;unfold vb at q;split at q
 .rename_i ho;have:=Ik _ _ ho;rw[hC]at this;injection this with this
  injection this with _ _ IP _
  injection IP with IP
  subst IP;unfold dY;rw[ho]
 .cases q
section
variable {X:Cx}{pins:List (ι×na)}{σ:L2.St}{H:Hp}{s:θ}{D:Ends}{x:Str}{W:η->Nat->Hp->Prop}
noncomputable def kE(x:Str)(X:Cx)(pins:List (ι×na))(σ:L2.St)(W:η->Nat->Hp->Prop)(e:η)(s1:θ):Prop:=
 ∃H0 s0 a C a0 H' B n,Inv X pins σ H0 s0/\e=.ref a/\s1.os=s0.os/\WY s1.gens/\zW X H0 H' s0 B s1.heap/\sw B X.stack a C a0 s1.heap/\Fg x B (cK X.stack) s1.heap a n/\W C n H'
theorem mL{RP:Ρ->Prop}{sp:Sp}{Jl:List V}{ds:List η}{y:Str}{Q:VK}(F:bX X.prog X.w X.K X.mg X.base (ko x X.prog X.w) RP f fd ps sp)(hr:RP X.A)(hg:Gl X y)(hm:X.mg y=ζ (.ref f))(hk:Ο X.K (.ref f)=δ)(hb:Binds X.K fd ps ds)(hd:aL Jl ds)
  (I:Inv X pins σ H s) (ha:PA X.IL (e::es) t) (h:t σ H λvs H1=>sp (vs++Jl) H1 Q (λC o H'=>∃n,o=ζ n/\W C n H')) (JT:(y==("__debug__" : Str))=γ:=by decide)
  (he:Δ (e::es) X.env=(γ,eval e X.env)::Δ es X.env:=by rfl) (IG:(Fa pos (Δ es X.env)).any (·.1)=γ:=by rfl) :
  υ (Α X.prog X.w) X.A (eval (.Call (.Name y p) (e::es) [] pos) X.env) (EP X pins σ Q) (kE x X pins σ W) s:=by
 refine lw (cV I hg hm ?_ JT);refine dz (h₀:=X.base) I.ok.mod.Ik hk (Λ (ha pos pins s σ H _ (I.ID _) h) (λus s1 ⟨vs,H1,I1,r,q⟩=>⟨I1.Ih.Jd,?_⟩) λ_ _ z=>Χ z) he IG;have I:=I1.Ih;have r2:aL (vs++Jl) (us++ds):=r.append hd;have hl:(us++ds).length=ps.length:=by rw[<-r2.length];exact F.len _ _ _ _ q
 refine UV (Xb (F.run X.A X.stack s1 H1 ⟨us,[]⟩ (us++ds) (vs++Jl) Q _ hr I.env0 (hb s1 us I.Jd hl) r2 q) λr s' hq=>?_);cases r with
 |error e=>
  have hq:ko x X.prog X.w X.stack H1 s1 (λC o H'=>∃n,o=ζ n/\W C n H') e s':=hq;obtain⟨a,C,a0,H',B,n,e1,e2,e3,e4,e5,e6,e7,e8,n',e9,MN⟩:=hq;cases e9;exact⟨H1,s1,a,C,a0,H',B,n,I,e1,e2,e3,⟨e4,e5,e7⟩,e6,e8,MN⟩
 |ok fl=>
  cases fl with
  |ret u=>exact I.after hq
  |next=>exact Χ hq
  |brk=>exact Χ hq
  |cont=>exact Χ hq
theorem yU{E':η->θ->Prop}{i:Nat}{y:Str}{Q:VK}(hN:X.N.Nodup)(hi:X.N[i]? = ζ y)(hx:Loc X.env.scope y)(I:Inv X pins σ H s)(h:υ (Α X.prog X.w) X.A (eval e X.env) (EP X pins σ Q) E' s)(hq:∀v H',Q v H'->D.nx (σ.set i (ζ v)) H')
  (hs:W7 e (ζ (.Name y pos')) pos.line X.env=pure γ:=by rfl) (hf:X.fn y=δ\/X.env.scope.names.lookup y=ζ .local:=by first|exact .inl rfl|exact .inr rfl|assumption) :
  υ (Α X.prog X.w) X.A (ZN [.Assign [.Name y pos'] e pos] X.env) (SP X pins D) E' s:=by
 refine ww (Λ (Q:=SP X pins D) (YD (bT h λv s1 ⟨y,H1,I1,r1,q1⟩=>dC I1 hN hi hx r1 (λs2 I2=>⟨_,H1,I2,hq _ _ q1⟩) hf) hs) (λf s1 q=>?_) λ_ _ z=>z);cases f with
 |next=>exact Ix q
 |ret v=>exact q
 |brk=>exact q
 |cont=>exact q
noncomputable abbrev uA(X:Cx)(dx:ι)(od:na):Cx:={X with pn:=(dx,od)::X.pn}
theorem Bg{od:na}(I:Inv X pins σ H s)(hp:s.heap.get? dx=ζ od/\H dx=ε/\dx≠X.env.locals/\dx∉X.fs/\∀v,od.data≠.cell v):Inv (uA X dx od) pins σ H s:=
 ⟨⟨I.ok.mod,I.ok.kind,I.ok.glob,I.ok.blt,I.ok.above,I.ok.inj,I.ok.has,I.ok.KJ,I.ok.hd,I.ok.frames,I.ok.Ll,I.ok.LX,I.ok.bs,I.ok.Ks,I.ok.Jr,I.ok.Jv,I.ok.IH,I.ok.KI⟩,I.os,I.bare,I.base,I.loc,I.cell,I.free,I.Il,λp hq=>by
  rcases c9.mp hq with rfl|hq
  .exact hp
  .exact I.pin p hq,I.Ib,I.len⟩
end
end Pc
end
section
namespace Fl64
noncomputable def allB(n:Nat)(f:Nat->Bool):Bool:=match n with
 |0=>δ
 |k+1=>f k&&allB k f
theorem bE:∀{n:Nat}{f:Nat->Bool},allB n f=δ->∀i,i<n->f i=δ
 |0,_,_,i,h=>absurd h (i8 i)
 |k+1,f,h,i,hi=>by
  unfold allB at h;rw[ai]at h;rcases Nat.lt_succ_iff_lt_or_eq.mp hi with q|q
  .exact bE h.2 i q
  .subst q;exact h.1
theorem CT{a b:Nat}(ha:a<64)(hb:b<64):a^^^b<64:=Yf (n:=6) ha hb
end Fl64
end
section
namespace Pc
open PySem
theorem qI:∀(n a b:Nat),a<2 ^ n->(a^^^b)+(a &&& b)=a ||| b
 |0,a,b,h=>by
  have:a=0:=by simpa using h
  subst this;simp
 |n+1,a,b,h=>by
  have ih:=qI n (a / 2) (b / 2) (by rw[Zo]at h;omega);have x1:(a^^^b) / 2=(a / 2)^^^(b / 2):=by have:=@Nat.shiftRight_xor_distrib 1 a b;simpa[ik]using this
  have x2:(a &&& b) / 2=(a / 2) &&& (b / 2):=by have:=@Nat.shiftRight_and_distrib 1 a b;simpa[ik]using this
  have x3:(a ||| b) / 2=(a / 2) ||| (b / 2):=by have:=@Nat.shiftRight_or_distrib 1 a b;simpa[ik]using this
  have y1:=@Nat.xor_mod_two_pow a b 1;have y2:=@Nat.and_mod_two_pow a b 1;have y3:=@Nat.or_mod_two_pow a b 1;rw[Nat.pow_one]at y1 y2 y3;have z:(a%2^^^b%2)+(a%2 &&& b%2)=a%2 ||| b%2:=by
   rcases f9 a with ha|ha<;>rcases f9 b with hb|hb<;>rw[ha,hb]<;>rfl
  have d1:=YI (a^^^b) 2;have d2:=YI (a &&& b) 2;have d3:=YI (a ||| b) 2;rw[x1,y1]at d1;rw[x2,y2]at d2;rw[x3,y3]at d3;omega
theorem lJ(a b:Nat):W1 (a:Int) (b:Int)=((a &&& b:Nat):Int):=by
 unfold W1;rw[bt (ij a),bt (ij b)];rfl
theorem uE(a b:Nat):ñ (a:Int) (b:Int)=((a ||| b:Nat):Int):=by
 unfold ñ W1 Builtin.bitNot;rw[bj (by omega),bj (by omega)];have e:∀c:Nat,(-(-(c:Int)-1)-1).toNat=c:=λc=>by omega
 show -(-((((-(-(a:Int)-1)-1).toNat ||| (-(-(b:Int)-1)-1).toNat:Nat):Int))-1)-1=_;rw[e,e];omega
theorem AU(a b:Nat):Xj (a:Int) (b:Int)=((a^^^b:Nat):Int):=by
 unfold Xj;rw[lJ,uE,<-qI a a b (Nat.lt_two_pow_self)];omega
noncomputable def ret(f:Fl):Rs (D×Bool):=match f with
 |.rt d fr=>.ok (d,fr)
 |.nx _=>.ok (.Ii,δ)
 |_=>.bad
theorem aN{fns:List Fn}{gl:Nat->D}{fuel n i:Nat}{F:Fn}{ds:List D}(h:fns[i]? = ζ F)(hl:ds.length=F.ps):Pc.run fns gl fuel (n+1) i ds=ret (aP ⟨Pc.run fns gl fuel n,gl,fuel⟩ F.body (aJ ds F.slots)):=by
 unfold Pc.run;rw[h];dsimp only;rw[if_pos hl];rfl
theorem wD{x:Int}(h0:0<=x)(h1:x<2147483648):small x=δ:=bt ⟨by omega,by omega⟩
theorem fK{n k:Nat}(h:k<n):iZ n (k:Int)=ζ k:=by
 unfold iZ;rw[if_pos (by omega),if_pos (by omega),cu]
theorem bN(env:En):lock [] env=env:=by
 unfold lock;have:∀(l:En) (k:Nat),(l.mapIdx λi (s:Slot)=>match s with
  |some (d,.own)=>if([]:List Nat).contains i then ζ (d,.lk)else ζ (d,.own)
  |s=>s)=l:=λl k=>by
  rw[List.mapIdx_eq_iff];intro i;cases h:l[i]? with
  |none=>rfl
  |some s=>
   cases s with
   |none=>rfl
   |some p=>obtain⟨d,t⟩:=p;cases t<;>rfl
 exact this env 0
end Pc
end
section
namespace Pc
open PySem PySem.Spec PyProof.Rows L2
section
variable {P:Ε}{w:Ξ}{K:Frag}{mg:Str->Option η}{base:Υ}
end
section
variable {p:Pg}{P:Ε}{w:Ξ}{K:Frag}{mg:Str->Option η}{base:Υ}
end
variable {tk:XY}
section
variable {prog:Ε}{w:Ξ}{A:Ρ}{E:η->θ->Prop}{h:Υ}{g:Array Xn}{d:Y0}{t:Nat}{os:WX}{a dx:ι}{o:na}{vs:Array η}{m:Str->Option η}{x:Str}{v:η}
 {ec:EC}{C:ι}{bm:List η}{newId:String}{mN:Str->Option η}
theorem vE{Q:Fin->θ->Prop}(hC:h.get? C=ζ (ec.o C bm δ newId))(hN:h.Ns ec.N mN)(IM:∀n∈ins x,mN n=ε)(TN:fP h fE (ins x) bm)
  (hB:Ps (.type "ValueError") x=pure ε) (hx:h.get? a=ζ o) (hc:o.cls=.ref C) (Mw:o.data=.fields vs) (Mv:o.dict=ζ dx) (hn:h.Ns dx m) (hv:m x=ζ v) (hq:Q (.done (.ret v)) ⟨h,g,d,t,os⟩) :
  υ (Α prog w) A (XC.«object.__getattribute__» ⟨[.ref a,.str x tk],[]⟩) Q E ⟨h,g,d,t,os⟩:=by
 have hmx:x∈ins x:=by simp
 repeat (any_goals (first|assumption | (with_reducible refine Η hx ?_;rw[hc])|with_reducible refine dU hmx hC hN IM TN Φ.mro hB ?_|wp_step))
 split
 .rename_i z;rw[Mw]at z;cases z
 unfold instanceDict
 repeat (any_goals (first|assumption | (with_reducible refine Η hx ?_;rw[hc])|with_reducible refine Η hC ?_|wp_step))
 rw[Mv]
 repeat (any_goals (first|assumption | (with_reducible refine wpAny_nsGet hn ?_;rw[hv])|wp_step))
theorem DQ{fill expr:Bool}{n:Int}{u:XY}{Q:η->θ->Prop}(hC:h.get? C=ζ (ec.o C bm δ newId))(hN:h.Ns ec.N mN)(IM:∀n∈ins x,mN n=ε)(T:PP h fE bm)(TN:fP h fE (ins x) bm)
  (hB:Ps (.type "ValueError") x=pure ε) (hx:h.get? a=ζ o) (hc:o.cls=.ref C) (Mw:o.data=.fields vs) (Mv:o.dict=ζ dx) (hn:h.Ns dx m) (hv:m x=ζ (.int n u)) (hq:Q (.int n u) ⟨h,g,d,t,os⟩) :
  υ (Α prog w) A (getAttrBy (.ref a) (.str x tk) fill expr) Q E ⟨h,g,d,t,os⟩:=by
 have f3:=Φ.ga.bind (.ref a);have hx0:(expr&&Z1 (wn "BaseException.__getattribute__"))=γ:=by cases expr<;>rfl
 have QS:(wn "BaseException.__getattribute__" == wn "object.__getattribute__")=γ:=by decide +kernel
 have hx1:(Z1 (Μ C)&&wn "BaseException.__getattribute__" == wn "object.__getattribute__")=γ:=by rw[QS];rfl
 have Rr:("__getattribute__" : Str)∈ins x:=.head _;have Rq:("__getattr__" : Str)∈ins x:=.tail _ (.head _)
 repeat (any_goals (first|assumption | (with_reducible refine Η hx ?_;rw[hc])|with_reducible refine dU Rr hC hN IM TN Φ.mro Φ.ga.lookup ?_|with_reducible refine dU Rq hC hN IM TN Φ.mro Φ.noGetattr ?_|wp_step))
 refine AC Φ.ga.plain Ď (qj hC T hx hc (vE hC hN IM TN hB hx hc Mw Mv hn hv ?_))
 repeat (any_goals (first|assumption|wp_step))
end
section
variable {X:Cx}{a dx C fI:ι}{o od:na}{x:Str}{k:Nat}
end
noncomputable abbrev loud(X:Cx):Cx:={X with calm:=γ}
variable {qual x:Str}{st:xL}
section
variable {P:Ε}{w:Ξ}{K:ψ}{mg:Str->Option η}{base:Υ}{f:ι}{fd:sK}{ps N:List Str}{sp:Sp}
theorem D6{CX:nU}{RP:Ρ->Prop}(F:L2.lY K x qual st f fd)(S:aW N ps (aB st))(M9:∀A,RP A->A.depth<wS)(len:∀vs H Q E,sp vs H Q E->vs.length=ps.length)
  (IU:∀(cdv:η) (A:Ρ) (outer:List Yo) (s:θ) (H:Hp) (vs:List V) (Q:VK) (E:XK),RP A->sp vs H Q E ->
   ∃t,gT (loud (aX CX P w K mg base N qual (aB st) f cdv A outer s H E)) (aV st) t/\t {nx:=λ_ H'=>Q .Ii H',rt:=Q} (L2.start N vs) H):bX P w K mg base CX RP f fd ps sp:=by
 obtain⟨oc,od,kV,doc,pm,an,cdv,ct,Kl,rfl,lk,IT⟩:=F.ex;refine⟨len,λA outer s H args us vs Q E hr e0 hb r Kq=>?_⟩;have hl:=len _ _ _ _ Kq;have KX:K.In s.heap:=e0.mod.Ik.keeps λb o e=>(e0.bs b o e).1
 have lim:s.heap.NoLimit:=e0.mod.nolimit.keeps λb o e=>(e0.bs b o e).1
 have Jj:∀y∈ps.zip us,(aB st).names.lookup y.1=ζ .local\/((aB st).names.lookup y.1=ζ .cell/\((io (s.heap.objs.size+1) (aB st).names []).lookup y.1).isSome=δ):=λ⟨n,v⟩ hy=>by
  rcases S.par n (fm hy).1 with q|q
  .exact .inl q
  .exact .inr ⟨q,gv _ _ _ (.inl q)⟩
 refine Xh (M9 A hr) (KX _ _ lk) rfl S.co S.gen rfl (ic KX IT) (hb _ _ _ _ ?_);refine WF S.kind Jj λenv he s1 x=>?_
 subst he;refine⟨lim.keeps x.toInCall.keep,YE ?_⟩;obtain⟨t,ht,hq⟩:=IU cdv A outer s H vs Q E hr Kq;have e1:uX P w K mg base {A with handled:=ε} outer s H:=⟨e0.frames,e0.mod,e0.bs,e0.Ks,e0.IH,e0.KI,e0.Ib,e0.bare⟩;have J:Inv (aX CX P w K mg base N qual (aB st) f cdv {A with handled:=ε} outer s H E) [] (L2.start N vs) H s1:=jQ S rfl e1 hl r x;have I:Inv (loud (aX CX P w K mg base N qual (aB st) f cdv A outer s H E)) [] (L2.start N vs) H s1:=
  ⟨⟨J.ok.mod,J.ok.kind,J.ok.glob,J.ok.blt,J.ok.above,J.ok.inj,J.ok.has,J.ok.KJ,λz=>(by cases z),Y8 e0.frames,J.ok.Ll,J.ok.LX,J.ok.bs,J.ok.Ks,J.ok.Jr,J.ok.Jv,J.ok.IH,J.ok.KI⟩,J.os,J.bare,J.base,J.loc,J.cell,J.free,J.Il,J.pin,J.Ib,J.len⟩
 refine Λ (ht [] s1 (L2.start N vs) H _ I hq) (λfl s' hs=>?_) λe s' hs=>hs
 have fin:∀{σ':L2.St}{H':Hp}{v:V}{u:η},Inv (loud (aX CX P w K mg base N qual (aB st) f cdv A outer s H E)) [] σ' H' s'->RelV v u->Q v H'->CE outer P w H s Q u s' :=
  λ{σ' H' v u} J rv q=>⟨v,H',J.os,J.bare,J.base,J.Ib,rv,q⟩
 cases fl with
 |ret u=>
  obtain⟨v,σ',H',J,rv,q⟩:=hs;exact fin J rv q
 |next=>
  obtain⟨σ',H',J,q⟩:=hs;exact fin (v:=V.Ii) (u:=zn) J rfl q
 |brk=>
  obtain⟨_,_,_,q⟩:=hs;exact Χ q
 |cont=>
  obtain⟨_,_,_,q⟩:=hs;exact Χ q
end
variable {es:List Expr}{f:ι}{fd:sK}{p pos:W3}{ps:List Str}{t:TA}{y:Str}
section
variable {X:Cx}
theorem mn{RP:Ρ->Prop}{sp:Sp}{e:Expr}(F:bX X.prog X.w X.K X.mg X.base pG RP f fd ps sp)(hr:RP X.A)(hg:Gl X y)(hm:X.mg y=ζ (.ref f))(hk:Ο X.K (.ref f)=δ)(hb:Binds X.K fd ps [])
  (ha:PA X (e::es) t) (JT:(y==("__debug__" : Str))=γ:=by decide) (he:Δ (e::es) X.env=(γ,eval e X.env)::Δ es X.env:=by rfl) (IG:(Fa pos (Δ es X.env)).any (·.1)=γ:=by rfl) :
  PE X (.Call (.Name y p) (e::es) [] pos) (λσ H Q=>t σ H λvs H1=>sp vs H1 Q E0):=by
 intro pins s σ H Q I h;refine lw (cV I hg hm ?_ JT);refine dz (h₀:=X.base) I.ok.mod.Ik hk (Λ (ha pos pins s σ H _ I h) (λus s1 ⟨vs,H1,I1,r,q⟩=>⟨I1.Jd,?_⟩) λ_ _ z=>z) he IG;have hl:us.length=ps.length:=by rw[<-r.length];exact F.len _ _ _ _ q
 refine UV (Xb (F.run X.A X.stack s1 H1 ⟨us,[]⟩ us vs Q _ hr I1.env0 (by have:=hb s1 us I1.Jd (by simpa using hl);simpa using this) r q) λr s' hq=>?_);cases r with
 |error e=>exact(show False from hq).elim
 |ok fl=>
  cases fl with
  |ret u=>exact I1.after hq
  |next=>exact Χ hq
  |brk=>exact Χ hq
  |cont=>exact Χ hq
end
inductive Rw where
 |nil
 |st (c:St) (r:Rw)
 |QR (c e:Ex) (r:Rw)
 |QE (t:kh) (it:oY) (b r:Rw)
inductive Rf where
 |fl (f:Fl)|rs (n:Nat)
noncomputable def Ab:D->Option Nat
 |.int (.ofNat n)=>if n<2 ^ 64 then ζ n else ε
 |_=>ε
noncomputable def ph(t:kh)(R:List Nat)(b:En->Rf):List D->En->Rf
 |[],env=>.fl (.nx env)
 |d::r,env=>match bP R t d env with
  |none=>.fl .bad
  |some Ia=>match b Ia with
   |.fl (.nx e)=>ph t R b r e
   |x=>x
noncomputable def Qj:Rs (D×Rt)->Rf
 |.ok q=>(match Ab q.1 with
  |some n=>.rs n
  |none=>.fl .bad)
 |_=>.fl .bad
noncomputable def PR(R:List Nat)(env:En)(k:En->Rf):Rf->Rf
 |.fl (.nx e)=>k (unlock R env e)
 |x=>x
noncomputable def jA(T:Tb):Rw->En->Rf
 |.nil,env=>.fl (.nx env)
 |.st c r,env=>match cP T c env with
  |.nx e=>jA T r e
  |f=>.fl f
 |.QR c e r,env=>match ev T c env with
  |.ok p=>(match truth p.1 with
   |some δ=>Qj (ev T e env)
   |some γ=>jA T r env
   |none=>.fl .bad)
  |_=>.fl .bad
 |.QE t it b r,env=>match cU T it env with
  |.ok p=>PR p.2 env (jA T r) (ph t p.2 (jA T b) p.1 (lock p.2 env))
  |_=>.fl .bad
noncomputable def dS(K:Frag)(P Z:ι->Prop)(env:En)(F:Nat->List ι)(H:Hp)(D:Ends)(W:Nat->Hp->Prop):Rf->Prop
 |.fl f=>post K P Z env F H D f
 |.rs n=>∀H',jJ P H H'->W n H'
theorem dS.trans{K:Frag}{P Z:ι->Prop}{e1 e2:En}{F1 F2:Nat->List ι}{H1 H2:Hp}{σ2:L2.St}{D:Ends}{W:Nat->Hp->Prop}(a:After K P Z e1 F1 H1 e2 σ2 H2 F2):∀{f:Rf},dS K P Z e1 F1 H1 D W f->dS K P Z e2 F2 H2 D W f
 |.fl _,h=>post.trans a h
 |.rs _,h=>λH' e=>h H' (a.ev.trans e)
inductive Vo(K:Frag) (T:Tb) (W:Nat->Hp->Prop) (r:Rw) (D:Ends) (σ:L2.St) (H:Hp):Prop
 |mk (P:_) (Z:_) (env:_) (F:_) (y0:RE K P env σ H F) (y1:(∀i,∀a∈F i,Z a)) (y2:(∀a,¬ P a->Z a)) (y3:dS K P Z env F H D W (jA T r env)):Vo K T W r D σ H
def tB(K:Frag)(T:Tb)(W:Nat->Hp->Prop)(r:Rw):TS:=λD σ H=>Vo K T W r D σ H
noncomputable def FK(y:Str)(a:List xL):Option {x:Expr // ∃p1 p3 p4,a=[.Raise (ζ (.Call (.Name y p1) [x] [] p3)) ε p4]}:=match a with
 |[.Raise (ζ (.Call (.Name y' p1) [e] [] p3)) ε p4]=>if h:y'=y then ζ ⟨e,p1,p3,p4,by rw[h]⟩else ε
 |_=>ε
noncomputable def RO(y:Str)(b:List xL):Bool:=b.any λs=>match s with
 |.If _ a _ _=>(FK y a).isSome
 |_=>γ
noncomputable def cB(m:Nat)(S:Sc)(y:Str):Nat->List xL->Option Rw
 |0,_=>ε
 |_+1,[]=>ζ .nil
 |n+1,st::rest=>(cB m S y n rest).bind λr=>match st with
  |.If e a b _=>(match FK y a with
   |some x=>if b.isEmpty then(cE m S e).bind λc=>(cI (cE m S) [x.1]).bind λcs=>(match cs with
    |.cons ce .nil=>ζ (.QR c ce r)
    |_=>ε)else ε
   |none=>(cS m S st).map λc=>.st c r)
  |.For tg wl b oe _=>if RO y b then(if oe.isEmpty&&fM wl then(sg S tg).bind λt=>(E5 S (cE m S) (isTup tg) wl).bind λit=>(cB m S y n b).map λcb=>.QE t it cb r else ε)else(cS m S st).map λc=>.st c r
  |_=>(cS m S st).map λc=>.st c r
variable {wl tg:Expr}{k:Nat}
section
variable {X:Cx}{S:Sc}{T:Tb}{W:Nat->Hp->Prop}
theorem PA.IL(h:PA X.IL es t):PA X es t:=λpos pins s σ H Q I hw=>
 Λ (h pos pins s σ H Q (I.ID _) hw) (λus s1 ⟨vs,H1,I1,r,q⟩=>⟨vs,H1,I1.Ih,r,q⟩) λ_ _ z=>z.elim
variable {e:Expr}
theorem PG.IL{t:TG}(h:PG X.IL e t):PG X e t:=λpins s σ H v u Q I r hw=>
 Λ (h pins s σ H v u Q (I.ID _) r hw) (λus s1 ⟨σ1,H1,I1,q⟩=>⟨σ1,H1,I1.Ih,q⟩) λ_ _ z=>z.elim
theorem PI.IL{t:TI}(h:PI X.IL tg e t):PI X tg e t:=λpins s σ H R I hw=>
 Λ (h pins s σ H R (I.ID _) hw) (λv s1 h1=>Λ h1 (λNH s2 ⟨it,fp,tn,J,H',e1,I2,T2,e2,e3,e4⟩=>⟨it,fp,tn,J,H',e1,I2.Ih,T2,e2,e3,e4⟩) λ_ _ z=>z.elim) λ_ _ z=>z.elim
inductive F6(K:Frag) (T:Tb) (W:Nat->Hp->Prop) (t:kh) (it:oY) (b:Rw) (D:Ends) (σ:L2.St) (H:Hp):Prop
 |mk (P:_) (Z:_) (env:_) (F:_) (y0:RE K P env σ H F) (y1:(∀i,∀a∈F i,Z a)) (y2:(∀a,¬ P a->Z a)) (p:_) (y3:cU T it env=.ok p) (y4:dS K P Z env F H D W (PR p.2 env (λe=>.fl (.nx e)) (ph t p.2 (jA T b) p.1 (lock p.2 env)))):F6 K T W t it b D σ H
def tLr(K:Frag)(T:Tb)(W:Nat->Hp->Prop)(t:kh)(it:oY)(b:Rw):TS:=λD σ H=>F6 K T W t it b D σ H
theorem Dl{t:kh}{it:oY}{b:List xL}{cb:Rw}(hp:XI (Α X.prog X.w) X.A X.env X.xe)(hc:X.calm=δ)(hi:PI X tg wl (tI X.K T it))(hg:PG X tg (pX X.K t))(hb:gT X b (tB X.K T W cb))(hs:∀x,IN wl X.env x=pure x) :
  PS X (.For tg wl b [] pos) (tLr X.K T W t it cb):=by
 refine dJ (vT hp hc hi hg hb hs) λD σ H ⟨P,Z,env,F,re,hz,zp,p,hp,h⟩=>?_
 refine⟨P,env,F,re,p,hp,λJ H1 G s1 rt nn wk=>?_⟩;have MS:=After.same (Z:=Z) re hz s1;have h:=dS.trans MS h;let P':ι->Prop:=λa=>P a\/a∈G
 have wk:=wk P' λa ha=>.inr ha
 have seen:∀a∈G,∀(i:Nat) (d:Pc.D) (t:Tg),env[i]? = ζ (ζ (d,t))->aY t=δ->a∈F i->i∈p.2:=λa ha i d t e o m=>by
  rcases rt.cont a ha with q|⟨k,d2,t2,f,e2,sr⟩
  .exact absurd q (re.nn e m)
  .exact sr i ((re.one i d t e o).2.2 a m k d2 t2 e2 f)
 have Qo:RE X.K P' (lock p.2 env) σ H1 F:=MS.re.locked nn seen;have gz:∀a∈G,Z a:=BI re hz zp rt;have KO:∀{f:Rf},dS X.K P Z env F H1 D W (PR p.2 env (λe=>.fl (.nx e)) f)->dS X.K P' Z (lock p.2 env) F H1 D W f:=λ{f} h=>by
  cases f with
  |rs n=>exactλH' ev=>h H' (ev.weak λ_ q=>.inl q)
  |fl f=>cases f with
   |nx e=>exactλσ' H' F' af=>h σ' H' F' (af.JJ MS.re)
   |rt d fr=>exactλv H' G' rp ev z f=>h v H' G' rp (ev.weak λ_ q=>.inl q) z λw=>⟨(f w).1,λa ha=>⟨λq=>((f w).2 a ha).1 (.inl q),((f w).2 a ha).2⟩⟩
   |bad=>exact h
 have h:=KO h;have PJ:∀a,¬ P' a->Z a:=λa ha=>zp a λq=>ha (.inl q)
 refine⟨λi m σ' H'=>m=p.1.length-i/\i<=p.1.length/\∃Ia F',After X.K P' Z (lock p.2 env) F H1 Ia σ' H' F'/\dS X.K P' Z Ia F' H' D W (ph t p.2 (jA T cb) (p.1.drop i) Ia),⟨p.1.length,by simp,cf _,lock p.2 env,F,After.same Qo hz (aG.refl _),h⟩,?_⟩;rintro i m σ2 H2 ⟨rfl,hi,K4,F2,IY,h2⟩;obtain⟨w1,w2⟩:=wk H2 IY.ev;by_cases Ip:i<p.1.length
 .right;have hd:p.1[i]? = ζ p.1[i]:=by simp[Ip]
  obtain⟨g1,g2⟩:=w1 i _ hd;refine⟨g1,λσ' H'=>∃Ia F',After X.K P' Z (lock p.2 env) F H1 Ia σ' H' F'/\dS X.K P' Z Ia F' H' D W (ph t p.2 (jA T cb) (p.1.drop (i+1)) Ia),λσ' H' q=>⟨p.1.length-(i+1),by omega,rfl,Ip,q⟩,λx H3 y=>?_⟩;obtain⟨s3,G3,Nn,JD⟩:=g2 x H3 y;have Lk:=After.same (Z:=Z) IY.re IY.z s3;have h2:=dS.trans Lk h2;rw[gg Ip]at h2;unfold ph at h2;cases hb:bP p.2 t p.1[i] K4 with
  |none=>rw[hb]at h2;exact h2.elim
  |some JG=>
   rw[hb]at h2;refine lF Lk.re IY.z Nn (λa ha=>gz a (JD a ha)) (λa ha j d' t' ej o m=>?_) hb λσ4 F4 LN z4 QF=>?_
   .cases t' with
    |own=>exact absurd (.inr (JD a ha)) (IY.re.wr j d' ej a m)
    |lk=>
     obtain⟨e5,e6⟩:=IY.lk j d' ej;rw[e6]at m;obtain⟨t0,e0,o0,_⟩:=dW e5;exact seen a (JD a ha) j d' t0 e0 (o0.trans o) m
    |sh Q=>cases o
   .have OJ:After X.K P' Z K4 F2 H3 JG σ4 H3 F4:=⟨LN,z4,jJ.refl _,QF⟩;refine⟨P',Z,JG,F4,LN,z4,PJ,?_⟩;have h2:=dS.trans OJ h2;have all:=(IY.trans Lk).trans OJ;cases hs:jA T cb JG with
    |rs n=>simp only[hs]at h2;exact h2
    |fl f=>cases f with
     |nx e'=>simp only[hs]at h2;exactλσ' H' F' OI=>⟨e',F',all.trans OI,dS.trans OI h2⟩
     |rt d fr=>simp only[hs]at h2;exact h2
     |bad=>simp only[hs]at h2;exact h2
 .left;have e:i=p.1.length:=by omega
  subst e;rw[i4]at h2;exact⟨w2,h2 σ2 H2 F2 (After.same IY.re IY.z (aG.refl _))⟩
theorem wZ{d:D}(h:Ab d=ζ k):d=.int (k:Int)/\k<2 ^ 64:=by
 unfold Ab at h;split at h
 .split at h
  .rename_i z;cases h;exact⟨rfl,z⟩
  .cases h
 .cases h
theorem wG{m:Nat}(C:r8 X.IL S T)(hp:XI (Α X.prog X.w) X.A X.env X.xe)(hc:X.calm=δ)
  (hr:∀x cs p1 p3 p4,cI (cE m S) [x]=ζ cs->PS X (.Raise (ζ (.Call (.Name y p1) [x] [] p3)) ε p4) (λD σ H=>qV X.K T cs σ H λvs H'=>∃n:Nat,vs=[.int n]/\n<2 ^ 64/\W n H')) :
  ∀(n:Nat) (l:List xL) (r:Rw),cB m S y n l=ζ r->gT X l (tB X.K T W r)
 |0,l,r,h=>by cases h
 |n+1,[],r,h=>by
  cases h;exact iQ eB λD σ H ⟨P,Z,env,F,re,hz,zp,h⟩=>h σ H F (After.same re hz (aG.refl _))
 |n+1,st::l,r,h=>by
  unfold cB at h;obtain⟨r1,h1,h2⟩:=ag.mp h;clear h;have ih:=wG C hp hc hr n l r1 h1;have gen:∀{c:St},cS m S st=ζ c->gT X (st::l) (tB X.K T W (.st c r1)):=λ{c} M8=>by
   refine iQ (cC (PS.IL ((BY C m).1 _ _ M8)) ih) λD σ H ⟨P,Z,env,F,re,hz,zp,h⟩=>⟨P,Z,env,F,re,hz,zp,?_⟩
   unfold jA at h;cases hs:cP T c env with
   |nx Ia=>
    rw[hs]at h;exactλσ' H' F' af=>⟨P,Z,Ia,F',af.re,af.z,zp,dS.trans af h⟩
   |rt d fr=>rw[hs]at h;exact h
   |bad=>rw[hs]at h;exact h
  split at h2
  .rename_i e a b pos;split at h2
   .rename_i x hx;obtain⟨x,p1,p3,p4,rfl⟩:=x;split at h2
    .rename_i hb;obtain⟨c,Lg,h2⟩:=ag.mp h2;obtain⟨cs,M8,h2⟩:=ag.mp h2;split at h2
     .rename_i ce;cases h2;rw[Xz]at hb;subst hb;refine iQ (cC (j3 (PT.IL (cR m C.c _ _ Lg).2) (cF (hr x _ p1 p3 p4 M8)) eB) ih) λD σ H ⟨P,Z,env,F,re,hz,zp,h⟩=>?_
      unfold jA at h;cases HZ:ev T c env with
      |bad=>rw[HZ]at h;exact h.elim
      |ok p=>
       rw[HZ]at h;dsimp only at h;cases ht:truth p.1 with
       |none=>rw[ht]at h;exact h.elim
       |some b=>
        rw[ht]at h;refine⟨P,env,F,re,p,b,HZ,ht,λH' sm=>?_⟩;have IY:=After.same (Z:=Z) re hz sm;cases b with
        |false=>exact⟨P,Z,env,F,IY.re,IY.z,zp,dS.trans IY h⟩
        |true=>
         dsimp only at h;cases hq:ev T ce env with
         |bad=>rw[hq]at h;exact h.elim
         |ok q=>
          rw[hq]at h;unfold Qj at h;dsimp only at h;cases hn:Ab q.1 with
          |none=>rw[hn]at h;exact h.elim
          |some k=>
           rw[hn]at h;obtain⟨e1,e2⟩:=wZ hn;refine⟨P,env,F,IY.re,[q],by unfold aT;rw[hq];unfold aT;rfl,λvs H2 G ar=>?_⟩;have rp:=ar.Io;obtain⟨v,rfl,rv⟩:=(show aF X.K H2 [q.1] vs G from rp).Ji;rw[e1]at rv;obtain⟨rfl,_⟩:=rv.int_inv;exact⟨k,rfl,e2,h H2 (After.same (Z:=Z) re hz (sm.trans ar.same)).ev⟩
     .cases h2
    .cases h2
   .obtain⟨c,Lg,rfl⟩:=aa.mp h2;exact gen Lg
  .rename_i tg wl b oe pos;split at h2
   .split at h2
    .rename_i hs;rw[ai,Xz]at hs;obtain⟨rfl,hs⟩:=hs;obtain⟨t,ht,h2⟩:=ag.mp h2;obtain⟨it,hit,h2⟩:=ag.mp h2;obtain⟨cb,hcb,rfl⟩:=aa.mp h2;refine iQ (cC (Dl hp hc (PI.IL (zh C.c (cR m C.c) hit)) (PG.IL (rY C.c ht)) (wG C hp hc hr n b cb hcb) (oW hs)) ih) λD σ H ⟨P,Z,env,F,re,hz,zp,h⟩=>?_
     unfold jA at h;cases HZ:cU T it env with
     |bad=>rw[HZ]at h;exact h.elim
     |ok p=>
      rw[HZ]at h;refine⟨P,Z,env,F,re,hz,zp,p,HZ,?_⟩;dsimp only at h;cases hf:ph t p.2 (jA T cb) p.1 (lock p.2 env)with
      |rs k=>rw[hf]at h;exact h
      |fl f=>
       rw[hf]at h;cases f with
       |nx e=>exactλσ' H' F' af=>⟨P,Z,_,F',af.re,af.z,zp,dS.trans af h⟩
       |rt d fr=>exact h
       |bad=>exact h
    .cases h2
   .obtain⟨c,Lg,rfl⟩:=aa.mp h2;exact gen Lg
  .obtain⟨c,Lg,rfl⟩:=aa.mp h2;exact gen Lg
end
noncomputable def Eu:Rf->Option ((D×Bool) ⊕ Nat)
 |.fl (.rt d fr)=>ζ (.inl (d,fr))
 |.fl (.nx _)=>ζ (.inl (.Ii,δ))
 |.rs n=>ζ (.inr n)
 |_=>ε
variable {C:ι}{fo:List Str}{n:Nat}
section
variable {p:Pg}{P:Ε}{w:Ξ}{K:Frag}{mg:Str->Option η}{base:Υ}
theorem Aj{m m2:Nat}{d:Df}{rb:Rw}{S:Str}{cS fI:ι}{LW:sK}{stI:xL}(hp:∀d∈p.J9,d.LI p fo)(hi:p.In K mg)(hh:rS w K)(ih:j5 p P w K mg base n)(Sc:aW d.N d.ps (aB d.st))(F:L2.lY K d.nm d.nm d.st f fd)
  (hc:cB m (p.sc d) y m2 (aV d.st)=ζ rb) (hg:(aB d.st).names.lookup y=ζ .globalImplicit) (hm:mg y=ζ (.ref C)) (k:A4 K mg S x qual C cS fI LW stI) (hd:(y==("__debug__" : Str))=γ) :
  bX P w K mg base (ko x P w) (nY n) f fd d.ps (Vt K d.ps.length C λds=>Eu (jA ⟨p.run n,p.gl,p.fuel⟩ rb (aJ ds d.N.length))):=by
 refine gS F Sc (λA r=>⟨r.hd,by have:=r.dp;omega⟩) (λvs H Q E h=>Be h) λcdv A outer s H vs Q E hr hs=>?_
 have Nc:=su (nm:=d.nm) (CX:=ko x P w) (E:=E) (outer:=outer) (s:=s) (H:=H) (f:=f) (cdv:=cdv) (A:=A) hp hi hh ih Sc (hr.deeper _);refine⟨_,wG (W:=λn H'=>E (.ref C) (ζ n) H') Nc Š rfl (λx0 cs p1 p3 p4 M8=>?_) _ _ _ hc,?_⟩
 .obtain⟨n1,_⟩:=aZ M8;refine uQ (C:=C) (W:=λn H'=>E (.ref C) (ζ n) H') rfl ?_ hg hm k (PA.IL (cJ (cR m Nc.c) M8)) (λpins σ H1 s1 h' tk a t1 dx n u hW I e1 e2 e3 e4 e5=>uR I e1 e2 e3 e4 e5 hW) (by rw[aS n1];rfl) hd;show A.depth+1+1<_;have:=hr.dp;omega
 obtain⟨ds,G,hlen,rs,k⟩:=hs;dsimp only at k;have hN:ds.length<=d.N.length:=by
  rw[hlen,<-Sc.pre,cn];exact gb _ _
 obtain⟨F0,re,hF⟩:=entry rs hN;refine⟨λa=>H a≠ε,λa=>H a=ε\/a∈G,_,F0,re,λj a ha=>.inr (hF j a ha),λa h=>.inl (Xm.mp h),?_⟩;show dS _ _ _ _ _ _ _ _ (jA ⟨p.run n,p.gl,p.fuel⟩ rb (aJ ds d.N.length));cases hq:jA ⟨p.run n,p.gl,p.fuel⟩ rb (aJ ds d.N.length)with
 |rs j=>rw[hq]at k;exactλH' ev=>k H' (iJ ev)
 |fl f=>
  rw[hq]at k;cases f with
  |rt d fr=>
   intro v H' G' rp ev z fz;exact k v H' G' (iJ ev) rp z λhf=>let ⟨a,b⟩:=fz hf;⟨a,λx hx=>⟨Xm.mp (b x hx).1,(b x hx).2⟩⟩
  |nx e=>exactλσ' H' F' af=>k .Ii H' [] (iJ af.ev) .Ii (λ_ h=>(nomatch h)) λ_=>⟨bu,λ_ h=>(nomatch h)⟩
  |bad=>exact k.elim
end
section
variable {T:Tb}{Rn:Nat->D×Bool->Prop}{h:Ex->Ex}
end
variable {f':ι}{Ju:sK}{np:W3}{OT:List Str}{rest:List xL}
section
variable {x:Str}{P:Ε}{w:Ξ}{K:ψ}{mg:Str->Option η}{base:Υ}{N:List Str}{qual:Str}{scope:Db}{f:ι}{cd:η}{A:Ρ}{outer:List Yo}{s:θ}{H:Hp}{E:XK}{pins:List (ι×na)}{σ:L2.St}
theorem qO{e:η}{s1:θ}(h:kE x (aX (ko x P w) P w K mg base N qual scope f cd A outer s H E) pins σ (λC n H'=>E C (ζ n) H') e s1):(aX (ko x P w) P w K mg base N qual scope f cd A outer s H E).xe e s1:=by
 obtain⟨H0,s0,a,C,a0,H',B,n,I,rfl,e2,e3,fy,fl,at_,hE⟩:=h;obtain⟨dx,m,u,d1,d2,d3,d4,d5⟩:=at_;show υ (Α P w) (A.deeper (im qual scope s.heap.objs.size f cd)) (leaving (im qual scope s.heap.objs.size f cd) (.ref a)) _ _ _;refine VH (base:=B) (outer:=outer) I.ok.frames rfl fl d1 λh' MJ KL dc=>?_
 have MI:=fy.next I MJ.1 (cN fl) KL;have J:=MI.inv (g':=s1.gens) (d':=s1.drawn) (t':=s1.toks) I e3;have bs:Un (cK outer) [] H H' s.heap h':=J.base;have fr:cK (im qual scope s.heap.objs.size f cd::outer)=s.heap.objs.size::cK outer:=rfl;refine⟨a,C,a0,H',B,n,rfl,e2.trans I.os,e3,bs,J.Ib,MJ,λb o e=>?_,⟨dx,m,u,dc,KL.ns d2,d3,d4,λz=>d5 ?_⟩,hE⟩
 .rcases MI.bf b o e with z|z|⟨z1,z2⟩
  .have z:b∈s.heap.objs.size::cK outer:=z;rcases c9.mp z with z|z
   .refine .inr (.inr ⟨?_,MI.Kh I b (show b∈s.heap.objs.size::cK outer by rw[z];exact ah)⟩);cases q:s.heap.get? b with
    |none=>rfl
    |some o0=>exact absurd z (az (ρ q))
   .exact .inl z
  .exact .inr (.inl z)
  .refine .inr (.inr ⟨?_,z2⟩);cases q:s.heap.get? b with
   |none=>rfl
   |some o0=>
    obtain⟨o1,q1⟩:=I.base.there b o0 q (by simp[aX]);rw[z1]at q1;cases q1
 .show dx∈s.heap.objs.size::cK outer;exact ae _ z
theorem Ed{RP:Ρ->Prop}{nm y:Str}{JL:Sp}{e:Expr}{ep cp:W3}{t:TA}
  (F:L2.lY K nm nm st f fd) (S:aW N ps (aB st)) (M9:∀A,RP A->A.handled=ε/\A.depth<wS) (hb:aV st = .Expr (.Call (.Name y np) (e::es) [] cp) ep::rest)
  {OK:Ρ->Prop}(FR:bX P w K mg base (ko x P w) OK f' Ju OT JL) (Mn:∀A env,RP A->OK (A.deeper env)) (kp:Ο K (.ref f')=δ) (B':Binds K Ju OT []) (Kf:mg y=ζ (.ref f')) (hg:(aB st).names.lookup y=ζ .globalImplicit) (hd:(y==("__debug__" : Str))=γ)
  (ha:∀cdv A outer s H E,PA (aX (ko x P w) P w K mg base N nm (aB st) f cdv A outer s H E).IL (e::es) t)
  (he:∀cdv A outer s H E,Δ (e::es) (aX (ko x P w) P w K mg base N nm (aB st) f cdv A outer s H E).env=(γ,eval e (aX (ko x P w) P w K mg base N nm (aB st) f cdv A outer s H E).env)::Δ es (aX (ko x P w) P w K mg base N nm (aB st) f cdv A outer s H E).env)
  (IG:∀cdv A outer s H E,(Fa cp (Δ es (aX (ko x P w) P w K mg base N nm (aB st) f cdv A outer s H E).env)).any (·.1)=γ)
  (sp:Sp) (len:∀vs H Q E,sp vs H Q E->vs.length=ps.length)
  (hl:∀vs H Q E,sp vs H Q E->t (L2.start N vs) H λus H1=>JL us H1 (λ_ _=>False) (λC o H'=>∃n,o=ζ n/\E C (ζ n) H')):bX P w K mg base (ko x P w) RP f fd ps sp:=by
 refine gS F S M9 len λcdv A outer s H vs Q E hr hs=>?_
 rw[hb];refine⟨λD σ H1=>t σ H1 λus H1=>JL us H1 (λ_ _=>False) (λC o H'=>∃n,o=ζ n/\E C (ζ n) H'),?_,hl vs H Q E hs⟩;intro pins s1 σ H1 D I hq;refine ww (Λ (Q:=λ_ _=>False) (E:=kE x (aX (ko x P w) P w K mg base N nm (aB st) f cdv A outer s H E) pins σ (λC n H'=>E C (ζ n) H')) ?_ (λ_ _ z=>z.elim) λe s2 z=>qO z);refine Zd (Λ (mL (Q:=λ_ _=>False) FR (Mn A _ hr) hg Kf kp B' .nil I (ha cdv A outer s H E) ?_ hd (he cdv A outer s H E) (IG cdv A outer s H E)) (λv s1 ⟨x,H1,I1,r1,q1⟩=>q1.elim) λ_ _ z=>z) I.quiet rfl;simpa using hq
end
section
variable {x:Str}{P:Ε}{w:Ξ}{K:ψ}{mg:Str->Option η}{base:Υ}{N:List Str}{qual:Str}{scope:Db}{f:ι}{cd:η}{A:Ρ}{outer:List Yo}{s:θ}{H:Hp}{E:XK}
theorem qb:iI (ko x P w) (aX (ko x P w) P w K mg base N qual scope f cd A outer s H E) (λC o H'=>∃n,o=ζ n/\E C (ζ n) H'):=by
 intro pins σ H1 s1 e s' I hq;obtain⟨a,C,a0,H',B,n,e1,e2,e3,e4,e5,e6,e7,e8,n',e9,MN⟩:=hq;cases e9;exact qO ⟨H1,s1,a,C,a0,H',B,n,I,e1,e2,e3,⟨e4,e5,e7⟩,e6,e8,MN⟩
theorem yD:iI (lh P w) (aX (lh P w) P w K mg base N qual scope f cd A outer s H E) (λC _ H'=>E C ε H'):=by
 intro pins σ H1 s1 e s' I hq;obtain⟨a,C,a0,H',B,fe,e2,e3,fy,fl,hE⟩:=yo (X:=aX (lh P w) P w K mg base N qual scope f cd A outer s H E) hq;subst fe;obtain⟨ob,hob⟩:∃ob,s'.heap.get? a=ζ ob:=by
  obtain⟨_,_,_,ob,_,_,_,_,h1,_⟩:=fl;exact⟨ob,h1⟩
 show υ (Α P w) (A.deeper (im qual scope s.heap.objs.size f cd)) (leaving (im qual scope s.heap.objs.size f cd) (.ref a)) _ _ _;refine VH (base:=B) (outer:=outer) (od:=ob.dict) I.ok.frames rfl fl ⟨ob,hob,rfl⟩ λh' MJ KL dc=>?_
 have MI:=fy.next I MJ.1 (cN fl) KL;have J:=MI.inv (g':=s'.gens) (d':=s'.drawn) (t':=s'.toks) I e3;have bs:Un (cK outer) [] H H' s.heap h':=J.base;refine⟨a,C,a0,H',B,rfl,e2.trans I.os,e3,bs,J.Ib,MJ,λb o e=>?_,hE⟩;rcases MI.bf b o e with z|z|⟨z1,z2⟩
 .have z:b∈s.heap.objs.size::cK outer:=z;rcases c9.mp z with z|z
  .refine .inr (.inr ⟨?_,MI.Kh I b (show b∈s.heap.objs.size::cK outer by rw[z];exact ah)⟩);cases q:s.heap.get? b with
   |none=>rfl
   |some o0=>exact absurd z (az (ρ q))
  .exact .inl z
 .exact .inr (.inl z)
 .refine .inr (.inr ⟨?_,z2⟩);cases q:s.heap.get? b with
  |none=>rfl
  |some o0=>
   obtain⟨o1,q1⟩:=I.base.there b o0 q (by simp[aX]);rw[z1]at q1;cases q1
end
variable {H:Hp}{Q:VK}{body:List xL}{vs:List V}
section
variable {X:Cx}{CX:nU}{RP:Ρ->Prop}{f:ι}{fd:sK}{ps:List Str}{sp:Sp}{E:XK}
theorem AZ{pins:List (ι×na)}{σ:L2.St}{s:θ}{us:List η}(F:bX X.prog X.w X.K X.mg X.base CX RP f fd ps sp)(hr:RP X.A)(hb:Binds X.K fd ps [])(hx:iI CX X E)(I:Inv X pins σ H s)(r:aL vs us)(h:sp vs H Q E) :
  υ (Α X.prog X.w) X.A (call (.ref f) us) (EP X pins σ Q) X.xe s:=by
 have hl:us.length=ps.length:=by rw[<-r.length];exact F.len _ _ _ _ h
 have Jz:=hb s us I.Jd (by rw[bh];exact hl);rw[bh]at Jz;refine UV (Xb (F.run X.A X.stack s H ⟨us,[]⟩ us vs Q E hr I.env0 Jz r h) λr s' hq=>?_);cases r with
 |error e=>exact hx pins σ H s e s' I hq
 |ok fl=>
  cases fl with
  |ret u=>exact I.after hq
  |next=>exact Χ hq
  |brk=>exact Χ hq
  |cont=>exact Χ hq
variable {e:Expr}
theorem lT(F:bX X.prog X.w X.K X.mg X.base CX RP f fd ps sp)(hr:RP X.A)(hg:Gl X y)(hm:X.mg y=ζ (.ref f))(hk:Ο X.K (.ref f)=δ)(hb:Binds X.K fd ps [])(hx:iI CX X E)(ha:PA X (e::es) t)
  (JT:(y==("__debug__" : Str))=γ:=by decide) (he:Δ (e::es) X.env=(γ,eval e X.env)::Δ es X.env:=by rfl) (IG:(Fa pos (Δ es X.env)).any (·.1)=γ:=by rfl) :
  PE X (.Call (.Name y p) (e::es) [] pos) (λσ H Q=>t σ H λvs H1=>sp vs H1 Q E):=by
 intro pins s σ H Q I h;refine lw (cV I hg hm ?_ JT);refine dz (h₀:=X.base) I.ok.mod.Ik hk (bT (ha pos pins s σ H _ I h) λus s1 ⟨vs,H1,I1,r,q⟩=>⟨I1.Jd,?_⟩) he IG;exact AZ F hr hb hx I1 r q
theorem pw{t:TE}{g:ι}(ha:PE X e t)(hg:Gl X y)(hm:X.mg y=ζ (.ref g))(hk:Ο X.K (.ref g)=δ)
  (JT:(y==("__debug__" : Str))=γ:=by decide) (he:Δ (e::es) X.env=(γ,eval e X.env)::Δ es X.env:=by rfl) (IG:(Fa pos (Δ es X.env)).any (·.1)=γ:=by rfl) :
  PE X (.Call (.Name y p) (e::es) [] pos) (λσ H Q=>t σ H λ_ _=>False):=by
 intro pins s σ H Q I h;refine lw (cV I hg hm ?_ JT);refine dz (h₀:=X.base) I.ok.mod.Ik hk ?_ he IG;rw[he];show υ _ _ (Z9 ((γ,eval e X.env)::Fa pos (Δ es X.env))) _ _ s;exact KM (bT (ha pins s σ H _ I h) λu s1 ⟨x,H1,I1,r1,q1⟩=>q1.elim)
theorem Bu{oe:List xL}{t:TE}(ha:PE X wl t)(hs:∀x,IN wl X.env x=pure x:=by intro _;rfl):PS X (.For tg wl body oe pos) (λD σ H=>t σ H λ_ _=>False):=by
 intro pins s σ H D I h;exact wpAny_For (bT (ha pins s σ H _ I h) λv s1 ⟨x,H1,I1,r1,q1⟩=>q1.elim) hs
theorem k7{t:TS}(h:PS X st t):gT X (st::rest) (λD σ H=>t {D with nx:=λ_ _=>False} σ H):=by
 intro pins s σ H D I hq;refine ww (Λ (h pins s σ H _ I hq) (λfl s1 q=>?_) λ_ _ z=>z);cases fl with
 |next=>obtain⟨_,_,_,q⟩:=q;exact q.elim
 |ret u=>exact q
 |brk=>exact q
 |cont=>exact q
end
variable {j:Nat}{p1 p3 p4 p5:W3}
section
variable {p:Pg}{P:Ε}{w:Ξ}{K:Frag}{mg:Str->Option η}{base:Υ}
def Hr(K:Frag)(n:Nat)(C:ι)(f:List D->Prop):Sp:=λvs H Q E=>∃ds G,ds.length=n/\aF K H ds vs G/\f ds/\∀H',aG H H'->E (.ref C) ε H'
theorem tM{f:List D->Prop}{E:XK}(h:Hr K n C f vs H Q E):vs.length=n:=by
 obtain⟨ds,G,h1,h2,_⟩:=h;rw[<-h1,h2.len]
theorem yF{n m:Nat}{d:Df}{e:Expr}{c:Ex}{p2:W3}(hp:∀d∈p.J9,d.LI p fo)(hi:p.In K mg)(hh:rS w K)(ih:j5 p P w K mg base n)(S:aW d.N d.ps (aB d.st))(F:L2.lY K d.nm d.nm d.st f fd)
  (hl:aV d.st = .If e [.Raise (ζ (.Call (.Name y p1) [.Constant (.str x) j p2] [] p3)) ε p4] [] p5::rest) (hc:cE m (p.sc d) e=ζ c)
  (hg:(aB d.st).names.lookup y=ζ .globalImplicit) (hm:mg y=ζ (.ref C)) (q:oK K C=δ) (hd:(y==("__debug__" : Str))=γ) :
  bX P w K mg base (lh P w) (nY n) f fd d.ps (Hr K d.ps.length C λds=>∃r,ev ⟨p.run n,p.gl,p.fuel⟩ c (aJ ds d.N.length)=.ok r/\truth r.1=ζ δ):=by
 refine gS F S (λA r=>⟨r.hd,by have:=r.dp;omega⟩) (λvs H Q E h=>tM h) λcdv A outer s H vs Q E hr hs=>?_
 have Nc:=su (nm:=d.nm) (CX:=lh P w) (E:=E) (outer:=outer) (s:=s) (H:=H) (f:=f) (cdv:=cdv) (A:=A) hp hi hh ih S (hr.deeper _);rw[hl];refine⟨_,k7 (j3 (PT.IL (cR m Nc.c _ _ hc).2) (cF (yN (C:=C) (W:=λH'=>E (.ref C) ε H') rfl hg hm (pC q) ie (aI qX bS) (λpins σ H1 s1 h' a us hW I hx=>qw I hx hW) (λσ H Q h=>⟨(show(1:Nat)<=Ζ by decide),h⟩) rfl rfl hd)) eB),?_⟩;obtain⟨ds,G,hlen,rs,⟨r,h1,h2⟩,hE⟩:=hs;have hN:ds.length<=d.N.length:=by
  rw[hlen,<-S.pre,cn];exact gb _ _
 obtain⟨F0,re,hF⟩:=entry rs hN;exact⟨λa=>H a≠ε,aJ ds d.N.length,F0,re,r,δ,h1,h2,λH' sm=>hE H' sm⟩
end
section
variable {P:Ε}{w:Ξ}{K:Frag}{mg:Str->Option η}{base:Υ}
end
section
variable {X:Cx}{pins:List (ι×na)}{σ:L2.St}{H:Hp}{s:θ}{D:Ends}{x:Str}{W:η->Nat->Hp->Prop}
theorem wH(hs:X.stack=X.env::X.outer)(hf:X.env.frame=ζ X.env.locals)(ok:X.Ok)(hex:X.ex=[]){n:Str}{i:Nat}{Cd:ι}{hp:W3}{b₀:xL}{JK:List xL}{ts:ι->TS}{tr:TS}(hN:X.N.Nodup)(hi:X.N[i]? = ζ n)(hk:X.env.scope.names.lookup n=ζ .local)
  (hg:Gl X y) (hm:X.mg y=ζ (.ref Cd)) (qD:r9 X.K Cd=δ)
  (Q0:∀a o dx od,gT (j0 (uA X dx od) a o) (b₀::JK) (ts a)) (Q5:gT X rest tr)
  (hw:∀C k H',W C k H'->(∃c,C=.ref c/\qT X.K c=δ/\dY X.K c Cd=δ)/\∀a o dx od m u,o.cls=C->(∃vs,o.data=.fields vs)->o.dict=ζ dx->(∀h:Υ,h.get? dx=ζ od->h.Ns dx m)->m x=ζ (.int ((k:Nat):Int) u)->ts a ⟨λσ' H2=>H2 a=ε->H2 dx=ε->a≠dx->tr D (σ'.set i ε) (upd (upd H2 a (.JA o (.own a))) dx (.JA od (.own dx))),λ_ _=>False,λ_ _=>False,λ_ _=>False⟩ (σ.set i (ζ (.ref a))) H') (hd:(y==("__debug__" : Str))=γ:=by decide)
  (hb:υ (Α X.prog X.w) X.A (ZN body X.env) (SP X pins Gh) (kE x X pins σ W) s) :
  υ (Α X.prog X.w) X.A (ZN (.Try body [.ExceptHandler (ζ (.Name y np)) (ζ n) (b₀::JK) hp] [] [] pos::rest) X.env) (SP X pins D) X.xe s:=by
 refine ww (Λ (Q:=λf s'=>f=.next/\∃σ' H2,Inv X pins σ' H2 s'/\tr D σ' H2) ?_ (λf s2 q=>?_) λ_ _ z=>z)
 rotate_left
 .obtain⟨rfl,σ',H2,I2,h3⟩:=q;exact Q5 pins s2 σ' H2 D I2 h3
 refine YX (Λ hb (λf s1 h1=>(DH h1).elim) λe s1 h1=>?_);obtain⟨H0,s0,a,C,a0,H',B,k,I0,rfl,ho,N4,F1,f1,Jn,w1⟩:=h1;obtain⟨⟨c,rfl,qC,oC⟩,QZ⟩:=hw C k H' w1;obtain⟨dx,m,u,dc1,ns1,mx,nB,OY⟩:=Jn;have Oz:=f1;rw[hs]at Oz;refine BZ (by rw[ok.frames,hs]) hf Oz dc1 λh2 g2 u2 dc2=>?_
 rw[<-hs]at g2;have F2:=F1.next I0 g2.1 (cN f1) u2;refine Dw g2 dc2 λh3 f3 u3 dc3=>?_
 have F3:=F2.next I0 f3.1 (j6 g2) u3;have back:∀h,({s1 with heap:=h}:θ)={s0 with heap:=h,gens:=s1.gens,drawn:=s1.drawn,toks:=s1.toks}:=λh=>by
  cases s1;cases s0;cases ho;rfl
 have I3:Inv X pins σ H' {s1 with heap:=h3}:=by
  rw[back];exact F3.inv I0 N4
 refine Ï (ï (cV (X:=markX X a) (pM I3 a ok.frames) hg hm ?_ hd)) (by intro q;cases q);obtain⟨MM,LH,Jx,nI',hD,hB⟩:=xM I3.Jd qD;obtain⟨ec,bm,hdct,nI,hC⟩:=kS I3.Jd qC;obtain⟨oe,he,RK⟩:=f3.there;refine j4 hC hD he RK hB ?_;rw[xR I3.Jd hC oC];refine Zt (C2 f3 dc3 λh4 f4 u4 dc4=>?_);have F4:=F3.next I0 f4.1 (cN f3) u4;have I4:Inv X pins σ H' {s1 with heap:=h4}:=by
  rw[back];exact F4.inv I0 N4
 have ns4:=u4.ns (u3.ns (u2.ns ns1));obtain⟨od,es,ep,Wb,Pm,r4⟩:=ns4;obtain⟨o4,Ng,e5,c5,d5,_⟩:=f4.first;have dic:o4.dict=ζ dx:=by
  obtain⟨o',q1,q2⟩:=dc4;rw[e5]at q1;cases q1;exact q2
 have Iv:a∉cK X.stack:=λz=>by
  obtain⟨o',e',Mx⟩:=cN f4 a z;rw[e5]at e';cases e';exact Mx Ng d5
 obtain⟨Lz,KU⟩:s0.heap.get? a=ε/\H' a=ε:=by
  rcases F4.bf a o4 e5 with z|z|z
  .exact absurd z Iv
  .rw[f4.2.1]at z;cases z
  .exact z
 obtain⟨KW,Mq⟩:s0.heap.get? dx=ε/\H' dx=ε:=by
  rcases F4.bf dx od Wb with z|z|z
  .exact absurd z OY
  .rw[nB]at z;cases z
  .exact z
 have Mj:cK X.stack=X.env.locals::X.fs:=by
  rw[hs];unfold cK;rw[gm,hf];rfl
 rw[Mj]at Iv OY;have P3:Inv (uA X dx od) pins σ H' {s1 with heap:=h4}:=Bg I4 ⟨Wb,Mq,λz=>OY (by rw[z];exact ah),λz=>OY (ae _ z),λv z=>by rw[Pm]at z;cases z⟩;have P4:Inv (j0 (uA X dx od) a o4) pins σ H' {s1 with heap:=h4}:=m9 P3 a o4 ok.frames ⟨e5,KU,λz=>Iv (by rw[z];exact ah),λz=>Iv (ae _ z),λv z=>by rw[d5]at z;cases z⟩;refine dC (X:=j0 (uA X dx od) a o4) P4 hN hi (.inl hk) (show RelV (.ref a) (.ref a)from rfl) (λs5 I5=>?_) (.inr hk);refine Λ (Q0 a o4 dx od pins s5 _ H' _ I5 (QZ a o4 dx od m u c5 ⟨Ng,d5⟩ dic (λh hh=>⟨od,es,ep,hh,Pm,r4⟩) mx)) (λf s6 h6=>?_) λ_ _ z=>z.elim
 have old:∀{b:ι},s0.heap.get? b=ε->X.s₀.heap.get? b=ε:=λ{b} hb=>by
  cases e:X.s₀.heap.get? b with
  |none=>rfl
  |some ob=>
   obtain⟨o',e'⟩:=I0.base.there b ob e (by rw[hex];exact br);rw[hb]at e';cases e'
 have pn:∀{b:ι},s0.heap.get? b=ε->∀p∈X.pn++pins,p.1≠b:=λ{b} hb p hp z=>by
  have:=(I0.pin p hp).1;rw[z,hb]at this;cases this
 cases f with
 |next=>
  obtain⟨σ',H6,I6,q⟩:=h6;refine mO (X:=Bs (uA X dx od) a o4) (lW I6 P3.ok) hN hi hk λs7 I7=>?_
  obtain⟨q1,q2,_⟩:=I7.pin (a,o4) (au _ ah);obtain⟨q3,q4,_⟩:=I7.pin (dx,od) (au _ (ae _ ah));have ne:a≠dx:=λz=>by
   have q1:s7.heap.get? a=ζ o4:=q1;have q3:s7.heap.get? dx=ζ od:=q3;rw[z,q3]at q1;cases q1;rw[d5]at Pm;cases Pm
  have J1:=jV I7 P3.ok (old Lz) λp hp z=>by
   rcases c9.mp hp with rfl|hp
   .exact ne z.symm
   .exact pn Lz p hp z
  exact⟨rfl,_,_,jV (X:=X) (a:=dx) (o:=od) J1 ok (old KW) (pn KW),q q2 q4 ne⟩
 |brk=>obtain⟨_,_,_,q⟩:=h6;exact q.elim
 |cont=>obtain⟨_,_,_,q⟩:=h6;exact q.elim
 |ret u=>obtain⟨_,_,_,_,_,q⟩:=h6;exact q.elim
end
def Px(C:ι)(H:Hp)(a:ι):Prop:=∃o:na,H a=ζ (.JA o (.own a))/\o.cls=.ref C
def Ft(x:Str)(C:ι)(k:Nat)(H:Hp)(a:ι):Prop:=∃(o:na) (dx:ι) (od:na) (m:Str->Option η) (u:XY),H a=ζ (.JA o (.own a))/\o.cls=.ref C/\(∃vs,o.data=.fields vs)/\o.dict=ζ dx/\H dx=ζ (.JA od (.own dx))/\(∀h:Υ,h.get? dx=ζ od->h.Ns dx m)/\m x=ζ (.int ((k:Nat):Int) u)
theorem Ft.e{x:Str}{k:Nat}{a:ι}(h:Ft x C k H a):Px C H a:=let ⟨o,_,_,_,_,h1,h2,_⟩:=h;⟨o,h1,h2⟩
section
variable {X:Cx}{C fI:ι}{x:Str}
theorem rO(qC:Cr X.K C):dH X (.builtin "isinstance") (λvs H Q=>∃a,Px C H a/\((∃D,vs=[.ref a,.ref D]/\qT X.K D=δ/\Q (.bl (dY X.K C D)) H)\/(vs=[.ref a,.ty "ValueError"]/\Q (.bl δ) H))):=by
 intro pins s σ H xs us Q I r h;obtain⟨a,⟨o,ha,hc⟩,h⟩:=h;have hx:s.heap.get? a=ζ o:=(I.Ib a _ ha).1;have Ik:X.K.In s.heap:=I.Jd;rcases h with⟨D,rfl,qD,q⟩|⟨rfl,q⟩
 .obtain⟨u,w',rfl,r1,r2⟩:=r.two;cases r1;cases r2;exact AQ Ik qC qD hx hc λt'=>⟨.bl _,H,I.kept (t':=t') λb o e=>e,rfl,q⟩
 .obtain⟨u,w',rfl,r1,r2⟩:=r.two;cases r1;cases r2;exact A9 Ik qC hx hc ⟨.bl δ,H,I,rfl,q⟩
theorem Bv{i:Nat}{p':W3}(q:vb X.K C (ins x) fI=δ)(hB:Ps (.type "ValueError") x=pure ε) (hy:PE X (.Name y p) (qy i)):PE X (.Attribute (.Name y p) x p') (λσ H Q=>∃a k,σ[i]? = ζ (ζ (.ref a))/\Ft x C k H a/\Q (.int ((k:Nat):Int)) H):=by
 intro pins s σ H Q I ⟨a,k,hi,⟨o,dx,od,m,u,h1,hc,⟨vs,Mw⟩,Mv,h2,Ky,hm⟩,hq⟩;refine Attribute_name (bT (hy pins s σ H (λv H'=>v=.ref a/\H'=H) I ⟨_,hi,rfl,rfl⟩) λv s1 ⟨v',H1,I1,r,e1,e2⟩=>?_);subst e1 e2;obtain rfl:v=Μ a:=r;have Ik:=I1.Jd;obtain⟨bm,FI⟩:=jx Ik q;obtain⟨ec,mN,hC,hN,IM,hi2⟩:=FI.ex;have p1:=(I1.Ib a _ h1).1;have p2:=(I1.Ib dx _ h2).1;have J:=I1.tok (s1.toks+1);obtain⟨h1,g1,d1,t1,VG⟩:=s1;unfold getAttr;refine ν (wpAny_mkText ?_);exact DQ hC hN IM FI.tail FI.tn hB p1 hc Mw Mv (Ky _ p2) hm ⟨.int k,_,J,⟨u,rfl⟩,hq⟩
end
structure RJ(j k:Nat)(A:Ρ):Prop where
 hd:A.handled=ε
 dp:A.depth+5*k+6+j<wS
 un:A.units+16*k+203+3*j<W8
variable {A:Ρ}
theorem RJ.deeper(r:RJ (j+1) k A)(env:Yo):RJ j k (A.deeper env):=
 ⟨r.hd,by have:=r.dp;show A.depth+1+5*k+6+j<_;omega,by have:=r.un;show A.units+3+16*k+203+3*j<_;omega⟩
theorem RJ.room(r:RJ j k A)(env:Yo):eF k (A.deeper env):=
 ⟨r.hd,by have:=r.dp;show A.depth+1+5*k+5<_;omega,by have:=r.un;show A.units+3+16*k+200<_;omega⟩
theorem RJ.of(r:eF (k+1) A)(hj:j<=3)(env:Yo):RJ j k (A.deeper env):=
 ⟨r.hd,by have:=r.dp;show A.depth+1+5*k+6+j<_;omega,by have:=r.un;show A.units+3+16*k+203+3*j<_;omega⟩
theorem RJ.low(r:RJ j (k+1) A)(env:Yo):nY 0 (A.deeper env):=
 ⟨r.hd,by have:=r.dp;show A.depth+1+5*0+6<_;omega,by have:=r.un;show A.units+3+16*0+203<_;omega⟩
theorem RJ.less(r:RJ (j+1) k A):RJ j k A:=⟨r.hd,by have:=r.dp;omega,by have:=r.un;omega⟩
theorem RJ.lim(r:RJ j k A):A.handled=ε/\A.depth<wS:=⟨r.hd,by have:=r.dp;omega⟩
section
variable {p:Pg}{P:Ε}{w:Ξ}{K:Frag}{mg:Str->Option η}{base:Υ}
theorem wW{j n m:Nat}{d:Df}{e:Expr}{rs:List Expr}{z:Str}{cs:jR}{p0:W3}{g':ι}{g:List D->Prop}(hp:∀d∈p.J9,d.LI p fo)(hi:p.In K mg)(hh:rS w K)(ih:j5 p P w K mg base n)(S:aW d.N d.ps (aB d.st))(F:L2.lY K d.nm d.nm d.st f fd)
  (hl:aV d.st=[.Return (ζ (.Call (.Name z p0) (.Call (.Name y p1) (e::es) [] p3::rs) [] p5)) p4]) (hc:cI (cE m (p.sc d)) (e::es)=ζ cs)
  {OK:Ρ->Prop}(FR:bX P w K mg base (lh P w) OK f' Ju OT (Hr K k C g)) (Mn:∀A env,RJ j n A->OK (A.deeper env)) (kp:Ο K (.ref f')=δ) (B':Binds K Ju OT []) (Kf:mg y=ζ (.ref f')) (hz:mg z=ζ (.ref g')) (kz:Ο K (.ref g')=δ)
  (hg:(aB d.st).names.lookup y=ζ .globalImplicit) (hgz:(aB d.st).names.lookup z=ζ .globalImplicit) (hd:(y==("__debug__" : Str))=γ) (hdz:(z==("__debug__" : Str))=γ)
  (he:∀cdv A outer s H E,Δ (e::es) (aX (lh P w) P w K mg base d.N d.nm (aB d.st) f cdv A outer s H E).env=(γ,eval e (aX (lh P w) P w K mg base d.N d.nm (aB d.st) f cdv A outer s H E).env)::Δ es (aX (lh P w) P w K mg base d.N d.nm (aB d.st) f cdv A outer s H E).env)
  (IG:∀cdv A outer s H E,(Fa p3 (Δ es (aX (lh P w) P w K mg base d.N d.nm (aB d.st) f cdv A outer s H E).env)).any (·.1)=γ)
  (hez:∀cdv A outer s H E,Δ (.Call (.Name y p1) (e::es) [] p3::rs) (aX (lh P w) P w K mg base d.N d.nm (aB d.st) f cdv A outer s H E).env=(γ,eval (.Call (.Name y p1) (e::es) [] p3) (aX (lh P w) P w K mg base d.N d.nm (aB d.st) f cdv A outer s H E).env)::Δ rs (aX (lh P w) P w K mg base d.N d.nm (aB d.st) f cdv A outer s H E).env)
  (hpz:∀cdv A outer s H E,(Fa p5 (Δ rs (aX (lh P w) P w K mg base d.N d.nm (aB d.st) f cdv A outer s H E).env)).any (·.1)=γ) :
  bX P w K mg base (lh P w) (RJ j n) f fd d.ps (Hr K d.ps.length C λds=>∃l,aT ⟨p.run n,p.gl,p.fuel⟩ cs (aJ ds d.N.length)=.ok l/\(l.map (·.1)).length=k/\g (l.map (·.1))):=by
 refine gS F S (λA r=>r.lim) (λvs H Q E h=>tM h) λcdv A outer s H vs Q E hr hs=>?_
 have Nc:=su (nm:=d.nm) (CX:=lh P w) (E:=E) (outer:=outer) (s:=s) (H:=H) (f:=f) (cdv:=cdv) (A:=A) hp hi hh ih S (hr.room _);rw[hl];refine⟨_,cF (dX (pw (lT (E:=λC _ H'=>E C ε H') FR (Mn A _ hr) hg Kf kp B' yD (PA.IL (cJ (cR m Nc.c) hc)) hd (he cdv A outer s H E) (IG cdv A outer s H E)) hgz hz kz hdz (hez cdv A outer s H E) (hpz cdv A outer s H E))),?_⟩;obtain⟨ds,G,hlen,rs,⟨l,h1,h2,h3⟩,hE⟩:=hs;have hN:ds.length<=d.N.length:=by
  rw[hlen,<-S.pre,cn];exact gb _ _
 obtain⟨F0,re,hF⟩:=entry rs hN;exact⟨λa=>H a≠ε,aJ ds d.N.length,F0,re,l,h1,λvs H' G ar=>⟨l.map (λx:Pc.D×Rt=>x.1),G,h2,ar.Io,h3,λH2 s2=>hE H2 (ar.same.trans s2)⟩⟩
end
end Pc
end
section
namespace Pc
open PySem
variable {d:D}{e:Ex}{env:En}
theorem bM{T:Tb}(h:ev T e env=.ok (d,.mv [])):ret (aP T (.cons (.ret e) .nil) env)=.ok (d,δ):=by
 rw[aP,cP,h,bD];rfl
variable {n:Nat}
theorem nu(h:n<=1000):n<=lim:=a8 h (by decide)
theorem Bp(T:Tb)(env:En)(e:Ex)(j:Int)(r:Rt)(he:ev T e env=.ok (.int j,r))(h1:eK j=δ):cU T (.Iq e) env=.ok (bA 0 1 j.toNat,[]):=by
 rw[cU,he,aA];show(if eK j=δ then Rs.ok (bA 0 1 j.toNat,[])else .bad)=_;rw[if_pos h1]
theorem xZ(h:n<=1000):eK (n:Int)=δ:=by
 unfold eK;exact bt ⟨Int.le_trans (by decide) (ij n),Int.lt_of_le_of_lt (Int.ofNat_le.mpr h) (by decide)⟩
def pB(s:Slot):Prop:=s=ε\/(∃d,s=ζ (d,.own))\/(∃d,s=ζ (d,.sh []))\/∃d,s=ζ (d,.lk)
def Tame(env:En):Prop:=∀s∈env,pB s
theorem vM:pB ε:=.inl rfl
theorem aQ(d:D):pB (ζ (d,.own)):=.inr (.inl ⟨d,rfl⟩)
theorem t9(d:D):pB (ζ (d,.sh [])):=.inr (.inr (.inl ⟨d,rfl⟩))
theorem BG(d:D):pB (ζ (d,.lk)):=.inr (.inr (.inr ⟨d,rfl⟩))
theorem Tame.set{e:En}{s:Slot}(t:Tame e)(h:pB s)(i:Nat):Tame (e.set i s):=λx hx=>by
 rcases il hx with q|q
 .exact t x q
 .rw[q];exact h
theorem dD(h:Tame env)(i:Nat)(d:D)(t:Tg):put env i d t=env.set i (ζ (d,t)):=by
 unfold put;have:env.map (λ(s:Slot)=>s.map λ(p:D×Tg)=>(p.1,p.2.drop i))=env:=by
  conv=>rhs;rw[<-ip env]
  refine gj λs hs=>?_
  rcases h s hs with rfl|⟨d,rfl⟩|⟨d,rfl⟩|⟨d,rfl⟩<;>rfl
 rw[this]
theorem vf(h:Tame env)(R:List Nat):kill R env=env.mapIdx λi s=>if R.contains i then ε else s:=by
 unfold kill;apply ã;intro i;rw[ii,ii];cases q:env[i]? with
 |none=>rfl
 |some s=>
  rcases h s (Ι q)with rfl|⟨d,rfl⟩|⟨d,rfl⟩|⟨d,rfl⟩
  .simp
  .simp[iU]
  .simp[iU]
  .simp[iU]
theorem iH(h:Tame env)(x:Nat)(s:Slot):(kill [x] env).set x s=env.set x s:=by
 rw[vf h];apply ã;intro i;by_cases hi:i=x
 .subst hi;by_cases hl:i<env.length
  .rw[Β (by simpa using hl),Β hl]
  .rw[XH (by simp;omega),XH (by simp;omega)]
 .rw[Θ (cj hi),Θ (cj hi),ii];cases q:env[i]? with
  |none=>rfl
  |some s=>simp[hi]
variable {i:Nat}{xs:List D}
section
variable {T:Tb}{env:En}
theorem AG(ht:Tame env)(hi:i<env.length)(h:ev T e env=.ok (d,.mv [])):cP T (.asg (.nm i) e γ) env=.nx (env.set i (ζ (d,.own))):=by
 rw[cP,h,bD];show(if i<env.length then Fl.nx (put env i d .own)else .bad)=_;rw[if_pos hi,dD ht]
theorem xf(ht:Tame env)(hi:i<env.length):bP [] (.nm i) d env=ζ (env.set i (ζ (d,bQ d []))):=by
 show(if i<env.length then ζ (put env i d (bQ d []))else ε)=_;rw[if_pos hi,dD ht]
theorem wJ{t:Tg}(h:env[i]? = ζ (ζ (d,t)))(hf:d.flat=δ):ev T (.var i) env=.ok (d,.mv []):=by
 rw[ev,h];dsimp only;rw[if_pos hf]
theorem xl(xs:List D)(d:D):yL .append xs [d]=ζ (xs ++ [d]):=rfl
theorem wu(xs ys:List D):yL .extend xs [.lst ys]=if D.Ig ys then ζ (xs++ys)else ε:=rfl
theorem Al{x:Nat}(ht:Tame env)(hx:env[x]? = ζ (ζ (.lst xs,.own)))(h:ev T e env=.ok (d,.mv []))(hl:xs.length+1<=lim):cP T (.mut x .none .append (.cons e .nil)) env=.nx (env.set x (ζ (.lst (xs ++ [d]),.own))):=by
 have ho:ownAt env x=ζ (.lst xs):=by unfold ownAt;rw[hx]
 have hs:aT T (.cons e .nil) env=.ok [(d,.mv [])]:=by
  rw[aT,h,aA];rfl
 rw[cP,ho];simp only[iX,bD,D.Jn,hs,a9,g9,xl,aR,Rt.roots,cg,ò,bh,iq,cx,if_false,qW.II,iM,dB,cm];have:(xs ++ [d]).length<=lim:=by rw[aw];exact hl
 simp only[bu,decide_true,gK,Ym,XS,X4,this,if_true,D.Jh,X3];rw[iH ht]
theorem t4{x:Nat}{k:Ex}{l:Int}{m:Nat}{R':Rt}(ht:Tame env)(hx:env[x]? = ζ (ζ (.lst xs,.own)))(hk:ev T k env=.ok (.int l,R'))(hm:Pc.iZ xs.length l=ζ m)(h:ev T e env=.ok (d,.mv []))(hl:xs.length<=lim) :
  cP T (.Ir x .none k e) env=.nx (env.set x (ζ (.lst (xs.set m d),.own))):=by
 have ho:ownAt env x=ζ (.lst xs):=by unfold ownAt;rw[hx]
 have NS:(xs.set m d).length<=lim:=by rw[ba];exact hl
 rw[cP,ho];simp only[h,bD,iX,D.Jn,hk,hm,iM,dB,cm,bh,bu,decide_true,gK,Ym,iq,XS,X4,NS,if_true,D.Jh,X3];rw[iH ht]
theorem nT{j:Nat}{x y:D}{R:List Nat}(ht:Tame env)(hi:i<env.length)(hj:j<env.length)(fx:x.flat=δ)(fy:y.flat=δ):bP R (.tp [i,j]) (.tup [x,y]) env=ζ ((env.set i (ζ (x,.own))).set j (ζ (y,.own))):=by
 show bindM (λd=>bQ d R) [i,j] [x,y] env=_;have tx:bQ x R=.own:=by unfold bQ;rw[if_pos fx]
 have ty:bQ y R=.own:=by unfold bQ;rw[if_pos fy]
 simp only[bindM,hi,if_true,tx,ty];rw[dD ht,if_pos (by rw[ba];exact hj),dD (ht.set (aQ x) i)]
end
end Pc
end
section
namespace Pc
end Pc
namespace Pc.Sm
open PySem Pc
end Pc.Sm
end
section
variable {l:List Nat}
namespace Fl64
def Gr(l:List Nat):Prop:=∀g∈l,g<64
theorem Gr.nil:Gr []:=λ_ h=>(nomatch h)
theorem Gr.cons{g:Nat}{l:List Nat}(h:g<64)(t:Gr l):Gr (g::l):=λx hx=>by
 rcases c9.mp hx with rfl|hx
 .exact h
 .exact t x hx
theorem Gr.append{m:List Nat}(a:Gr l)(b:Gr m):Gr (l++m):=λx hx=>(i9.mp hx).elim (a x) (b x)
theorem z5(h:Gr l)(p:Nat):l.getD p 0<64:=by
 rw[ο];cases q:l[p]? with
 |none=>decide
 |some g=>exact h g (Ι q)
theorem C1(h:Gr l){p g:Nat}(hg:g<64):Gr (l.set p (l.getD p 0^^^g)):=λz hz=>by
 rcases il hz with q|q
 .exact h z q
 .rw[q];exact CT (z5 h p) hg
end Fl64
end
section
namespace Pc.Gr
open PySem Pc Pc.Sm
noncomputable abbrev gD(gs:List Nat):List D:=gs.map λ(g:Nat)=>D.int (g:Int)
noncomputable abbrev gI(gs:List Nat):List Int:=gs.map λ(g:Nat)=>(g:Int)
theorem zJ(gs:List Nat):gD gs=(gI gs).map D.int:=by rw[gc];rfl
theorem uf(gs:List Nat):D.Ig (gD gs)=δ:=by rw[zJ];exact lg _
theorem jL(a b:List Nat):gD (a++b)=gD a++gD b:=dq ..
theorem eY(a:List Nat):(gD a).length=a.length:=aj ..
variable {gs:List Nat}{i:Nat}
theorem EL(h:i<gs.length):(gD gs)[i]? = ζ (.int ((gs.getD i 0:Nat):Int)):=by
 rw[τ,ο,ω h];rfl
theorem GU(h:i<gs.length):tf (.lst (gD gs)) (.int (i:Int))=ζ (.int ((gs.getD i 0:Nat):Int)):=by
 show(Pc.iZ (gD gs).length (i:Int)).bind (λj=>(gD gs)[j]?)=_;rw[fK (by rw[eY];exact h)];exact EL h
theorem C9(gs:List Nat)(i g:Nat):(gD gs).set i (.int (g:Int))=gD (gs.set i g):=by rw[gD,gD,Za]
noncomputable abbrev enD(k:Nat)(gs:List Nat):List D:=(gs.zipIdx k).map λ(q:Nat×Nat)=>D.tup [.int (q.2:Int),.int (q.1:Int)]
theorem EI(gs:List Nat):((gD gs).zipIdx.map λ(q:D×Nat)=>D.tup [.int q.2,q.1])=enD 0 gs:=by
 rw[gD,List.zipIdx_map,gc];rfl
noncomputable def GR(t x p i j f:Nat):bV:=(.cons (.Ir x .none (.bin .Add (.var p) (.var i)) (.bin .BitXor (.ix (.var x) (.bin .Add (.var p) (.var i))) (.call t (HR (.var f) (.var j)))))
  .nil)
theorem qU:∀n:Nat,(π n [D.int 0]).flatten=gD (π n 0)
 |0=>rfl
 |n+1=>by
  rw[bq,cg,qU n,bq];rfl
theorem jT(n:Nat)(hn:n<=1000):lZ .Mult (.lst [.int 0]) (.int (n:Int))=ζ (.lst (gD (π n 0))):=by
 have h : -(2 ^ 63:Int)<=(n:Int)/\(n:Int)<2 ^ 63:=⟨by omega,by omega⟩;have hf:D.Ig [D.int 0]=δ:=rfl;simp only[lZ];rw[if_pos h,if_pos hf,cu,qU];unfold ck;rw[if_pos (nu (by simp;omega))]
theorem hJ(gs:List Nat):eA .len [.lst (gD gs)]=ζ (.int (gs.length:Int)):=by
 show ζ (D.int ((gD gs).length:Int))=_;rw[eY]
theorem gQ:∀(m a:Nat),bA (a:Int) 1 m=(W2 a m).map λ(k:Nat)=>D.int (k:Int)
 |0,a=>rfl
 |m+1,a=>by
  rw[bA,ó,a9,<-gQ m (a+1)];congr 2
end Pc.Gr
end
section
namespace Fl64
end Fl64
namespace Pc.Lw
open PySem Pc Pc.Sm Pc.Gr
theorem ua(ns:List Int):eA .len [.lst (ns.map D.int)]=ζ (.int (ns.length:Int)):=by
 show ζ (D.int ((ns.map D.int).length:Int))=_;rw[aj]
theorem Gb{ns:List Int}{k:Nat}(h:k<ns.length):tf (.lst (ns.map D.int)) (.int (k:Int))=ζ (.int ns[k]):=by
 show(Pc.iZ (ns.map D.int).length (k:Int)).bind (λj=>(ns.map D.int)[j]?)=_;rw[fK (by rw[aj];exact h)];simp[h]
end Pc.Lw
end
section
namespace Fl64
end Fl64
end
section
namespace Pc.Lw
open PySem Pc Pc.Sm Pc.Gr
end Pc.Lw
end
section
namespace Pc.Nw
open PySem Pc Pc.Sm Pc.Lw Pc.Gr
theorem A5{T:Tb}{env:En}{x:Nat}{e:Ex}{a b:Int}{t:Tg}{R:Rt}(ht:Tame env)(hx:env[x]? = ζ (ζ (.int a,t)))(h:ev T e env=.ok (.int b,R)):cP T (.aug x .Add e) env=.nx (env.set x (ζ (.int (a+b),.own))):=by
 have hi:intAt env x=ζ a:=by unfold intAt;rw[hx]
 have hl:x<env.length:=by
  obtain⟨h1,_⟩:=χ.mp hx;exact h1
 rw[cP,hi];dsimp only;rw[h,bD];show sH (.nm x) γ env (.int (a+b),.mv [])=_;unfold sH;dsimp only;rw[if_pos hl,dD ht]
section
variable {T:Tb}{env:En}
end
section
variable {T:Tb}{env:En}
end
end Pc.Nw
end
section
namespace Pc.Fr
open PySem Pc Pc.Sm Pc.Lw Pc.Gr Pc.Nw
end Pc.Fr
end
section
namespace Md
open Fl64
end Md
end
section
namespace Pc.Vw
open PySem Pc Pc.Sm Pc.Gr Fl64 Md
def aC(T:Tb)(e:Ex)(env:En)(d:D):Prop:=∃R,ev T e env=.ok (d,R)
variable {f:Nat}{fr w:Bool}{r:D}
section
variable {T:Tb}{env:En}{a b c:Ex}{x y z d:D}
theorem aC.bin{op:FM}(h:aC T a env x)(h':aC T b env y)(e:lZ op x y=ζ z):aC T (.bin op a b) env z:=by
 obtain⟨R,h⟩:=h;obtain⟨R',h'⟩:=h';exact⟨_,by rw[ev,h,aA,h',aA,e,cY,aA]⟩
theorem aC.cmp{op:Ya}{k:Bool}(h:aC T a env x)(h':aC T b env y)(e:qa op x y=ζ k):aC T (.cmp op a b) env (.bl k):=by
 obtain⟨R,h⟩:=h;obtain⟨R',h'⟩:=h';exact⟨_,by rw[ev,h,aA,h',aA,e,cY,aA]⟩
theorem aC.ix(h:aC T a env x)(h':aC T b env y)(e:tf x y=ζ z):aC T (.ix a b) env z:=by
 obtain⟨R,h⟩:=h;obtain⟨R',h'⟩:=h';exact⟨_,by rw[ev,h,aA,h',aA,e,cY,aA]⟩
theorem aC.cst(d:D):aC T (.cst d) env d:=⟨_,by rw[ev]⟩
theorem aC.Ic(i:Nat):aC T (.Ic i) env (T.gl i):=by
 cases h:ev T (.Ic i) env with
 |ok p=>rw[ev]at h;exact⟨p.2,by rw[ev];cases h;rfl⟩
 |bad=>rw[ev]at h;cases h
theorem aC.Jm(h:aC T a env x)(e:T.cl f [x]=.ok (r,fr)):aC T (.call f (.cons a .nil)) env r:=by
 obtain⟨R,h⟩:=h;exact⟨_,by rw[ev,aT,h,aA,aT,aA,aA];show(T.cl f [x]).bind _=_;rw[e,aA]⟩
theorem aC.JB(h:aC T a env x)(h2:aC T b env y)(e:T.cl f [x,y]=.ok (r,fr)):aC T (.call f (.cons a (.cons b .nil))) env r:=by
 obtain⟨R,h⟩:=h;obtain⟨R2,h2⟩:=h2;exact⟨_,by rw[ev,aT,h,aA,aT,h2,aA,aT,aA,aA,aA];show(T.cl f [x,y]).bind _=_;rw[e,aA]⟩
theorem aC.JY(h:aC T a env x)(h2:aC T b env y)(h3:aC T c env z)(e:T.cl f [x,y,z]=.ok (r,fr)):aC T (.call f (.cons a (.cons b (.cons c .nil)))) env r:=by
 obtain⟨R,h⟩:=h;obtain⟨R2,h2⟩:=h2;obtain⟨R3,h3⟩:=h3;exact⟨_,by rw[ev,aT,h,aA,aT,h2,aA,aT,h3,aA,aT,aA,aA,aA,aA];show(T.cl f [x,y,z]).bind _=_;rw[e,aA]⟩
theorem aC.Ij{k:yn}(h:aC T a env x)(e:eA k [x]=ζ z):aC T (.blt k (.cons a .nil)) env z:=by
 obtain⟨R,h⟩:=h;exact⟨_,by rw[ev,aT,h,aA,aT,aA,aA];show(ku (eA k [x])).bind _=_;rw[e,cY,aA]⟩
theorem aC.Kw(h:aC T a env x):aC T (.lst (.cons a .nil)) env (.lst [x]):=by
 obtain⟨R,h⟩:=h;exact⟨_,by rw[ev,aT,h,aA,aT,aA,aA];exact if_pos (by show(1:Nat)<=lim;decide)⟩
theorem aC.not{k:Bool}(h:aC T a env (.bl k)):aC T (.not a) env (.bl (!k)):=by
 obtain⟨R,h⟩:=h;exact⟨_,by rw[ev,h,aA]⟩
theorem aC.and{k:Bool}(h:aC T a env (.bl k))(h':k=δ->aC T b env (.bl w))(hw:k=γ->w=γ):aC T (.and a b) env (.bl w):=by
 obtain⟨R,h⟩:=h;cases k with
 |true=>obtain⟨R',h'⟩:=h' rfl;exact⟨_,by rw[ev,h,aA];exact h'⟩
 |false=>rw[hw rfl];exact⟨_,by rw[ev,h,aA]⟩
theorem aC.or{k:Bool}(h:aC T a env (.bl k))(h':k=γ->aC T b env (.bl w))(hw:k=δ->w=δ):aC T (.or a b) env (.bl w):=by
 obtain⟨R,h⟩:=h;cases k with
 |false=>obtain⟨R',h'⟩:=h' rfl;exact⟨_,by rw[ev,h,aA];exact h'⟩
 |true=>rw[hw rfl];exact⟨_,by rw[ev,h,aA]⟩
theorem pQ{k:Bool}{p q:bV}(h:aC T c env (.bl k)):cP T (.ite c p q) env=if k then aP T p env else aP T q env:=by
 obtain⟨R,h⟩:=h;rw[cP,h,bD];cases k<;>rfl
end
def Vw(env:En)(vs:List (Option D)):Prop:=env.length=vs.length/\∀(j:Nat) (d:D),vs[j]? = ζ (ζ d)->∃t,env[j]? = ζ (ζ (d,t))
section
variable {T:Tb}{env:En}{vs:List (Option D)}{d:D}
theorem Vw.var(h:Vw env vs){i:Nat}(e:vs[i]? = ζ (ζ d)):aC T (.var i) env d:=by
 obtain⟨t,q⟩:=h.2 i d e;rw[aC,ev,q];exact⟨_,rfl⟩
theorem Vw.put(h:Vw env vs)(i:Nat)(d:D)(t:Tg):Vw (Pc.put env i d t) (vs.set i (ζ d)):=by
 unfold Pc.put;refine⟨by rw[ba,ba,aj,h.1],λj x e=>?_⟩;by_cases hj:i=j
 .subst hj;have hl:i<vs.length:=by
   have:=(χ.mp e).1
   rwa [ba]at this
  rw[Β hl]at e;cases e;exact⟨t,Β (by rw[aj,h.1];exact hl)⟩
 .rw[Θ hj]at e;obtain⟨t',q⟩:=h.2 j x e;refine⟨t'.drop i,?_⟩;rw[Θ hj,τ,q];rfl
end
variable {T:Tb}{e:Ex}{env:En}
theorem BO{n:Nat}(h:aC T e env (.int (n:Int)))(hn:n<=1000):cU T (.Iq e) env=.ok ((bv n).map λ(k:Nat)=>D.int (k:Int),[]):=by
 obtain⟨R,h⟩:=h;rw[Bp T env e _ R h (xZ hn),cu];have:=gQ n 0;rw[show((0:Nat):Int)=0 from rfl]at this;rw[this,Zu]
theorem GX{T:Tb}{l:List D}(h:aC T e env (.lst l)):∃R,cU T (.seq e) env=.ok (l,R):=by
 obtain⟨R,h⟩:=h;exact⟨R.roots,by rw[cU,h,aA];rfl⟩
theorem Vw.picked{vs ws:List (Option D)}(h:Vw env vs){pick:List Nat}(hw:∀(j:Nat) (d:D),ws[j]? = ζ (ζ d)->∃i,pick[j]? = ζ i/\vs[i]? = ζ (ζ d))(hl:ws.length=pick.length)(a:D) :
  0<(bG env 1 pick).length/\Vw (Pc.put (bG env 1 pick) 0 a .own) (ζ a::ws):=by
 have hlen:(bG env 1 pick).length=ws.length+1:=by unfold bG;simp[hl,fh]
 have V:Vw (bG env 1 pick) (ε::ws):=by
  refine⟨by rw[hlen];simp,λj d e=>?_⟩;cases j with
  |zero=>cases e
  |succ j=>
   have e:ws[j]? = ζ (ζ d):=e;obtain⟨i,p1,p2⟩:=hw j d e;refine⟨.sh [],?_⟩;unfold bG;rw[am (by simp),dg,show j+1-1=j by omega,τ,p1];obtain⟨t,q⟩:=h.2 i d p2;show ζ (match env[i]? with|some (ζ (d,_))=>ζ (d,Tg.sh [])|_=>ε:Slot)=_;rw[q]
 exact⟨by omega,V.put 0 a .own⟩
theorem Fv(l:List Nat)(m c:Nat):xA (.lst (gD l)) (ζ (m:Int)) (ζ (c:Int))=ζ (.lst (gD ((l.take c).drop m))):=by
 show ζ (D.lst (cut (gD l) (ζ (m:Int)) (ζ (c:Int))))=_;unfold cut eO;simp only;rw[if_neg (by omega),if_neg (by omega),cu,cu,eY,gD,gD,<-Ā,<-List.map_take];congr 3;rw[Ð];by_cases h:m<=l.length
 .rw[dn h];by_cases h2:c<=l.length
  .rw[dn h2]
  .rw[dh (by omega),cw (by rw[bp];omega),cw (by rw[bp];omega)]
 .rw[dh (show l.length<=m by omega),fi (ao _),fi (show l.length<=m by omega)];simp
variable {a hi:Ex}{c:Int}{x z:D}
theorem aC.sl{lo:Ex}{m:Int}(h:aC T a env x)(h1:aC T lo env (.int m))(h2:aC T hi env (.int c))(e:xA x (ζ m) (ζ c)=ζ z):aC T (.sl a (.some lo) (.some hi)) env z:=by
 obtain⟨R,h⟩:=h;obtain⟨R1,h1⟩:=h1;obtain⟨R2,h2⟩:=h2;exact⟨_,by rw[ev,h,aA,iX,h1,aA];dsimp only;rw[aA,iX,h2,aA];dsimp only;rw[aA,e,cY,aA]⟩
theorem aC.Nk(h:aC T a env x)(h2:aC T hi env (.int c))(e:xA x ε (ζ c)=ζ z):aC T (.sl a .none (.some hi)) env z:=by
 obtain⟨R,h⟩:=h;obtain⟨R2,h2⟩:=h2;exact⟨_,by rw[ev,h,aA,iX,aA,iX,h2,aA];dsimp only;rw[aA,e,cY,aA]⟩
end Pc.Vw
end
section
namespace Pc.Vw
open PySem Pc Pc.Sm Pc.Gr Pc.Lw Fl64 Md
theorem lO{α:Type}{a b:α}(h:Rs.ok a=Rs.ok b):a=b:=by cases h;rfl
theorem bK{α β:Type}{a:Rs α}{f:α->Rs β}{b:β}(h:a.bind f=.ok b):∃x,a=.ok x/\f x=.ok b:=by
 cases a with
 |ok x=>exact⟨x,rfl,h⟩
 |bad=>cases h
variable {T:Tb}{d:D}{env:En}
theorem G5{k:yn}{es:jR}(h:aC T (.blt k es) env d)(hd:d.inner=δ):ev T (.blt k es) env=.ok (d,.mv []):=by
 obtain⟨R,h⟩:=h;have h':=h;rw[ev]at h;obtain⟨p,_,h⟩:=bK h;obtain⟨z,_,h⟩:=bK h;have:=lO h;rw[fq]at this;obtain⟨rfl,e⟩:=this;rw[h',<-e];unfold hZ;rw[if_pos hd]
variable {a b e:Ex}{i:Nat}{y:D}
section
variable {T:Tb}{env:En}{d:D}
theorem dO{op:FM}(h:aC T (.bin op a b) env d)(hd:d.inner=δ):ev T (.bin op a b) env=.ok (d,.mv []):=by
 obtain⟨R,h⟩:=h;have h':=h;rw[ev]at h;obtain⟨p,_,h⟩:=bK h;obtain⟨q,_,h⟩:=bK h;obtain⟨z,_,h⟩:=bK h;have:=lO h;rw[fq]at this;obtain⟨rfl,e⟩:=this;rw[h',<-e];unfold hZ;rw[if_pos hd]
theorem E1{lo hi:jS}(h:aC T (.sl a lo hi) env d)(hd:d.inner=δ):ev T (.sl a lo hi) env=.ok (d,.mv []):=by
 obtain⟨R,h⟩:=h;have h':=h;rw[ev]at h;obtain⟨p,_,h⟩:=bK h;obtain⟨q,_,h⟩:=bK h;obtain⟨r,_,h⟩:=bK h;obtain⟨z,_,h⟩:=bK h;have:=lO h;rw[fq]at this;obtain⟨rfl,e⟩:=this;rw[h',<-e];unfold hZ;rw[if_pos hd]
theorem vR{i:Ex}(h:aC T (.ix a i) env d)(hd:d.flat=δ):ev T (.ix a i) env=.ok (d,.mv []):=by
 obtain⟨R,h⟩:=h;have h':=h;rw[ev]at h;obtain⟨p,_,h⟩:=bK h;obtain⟨q,_,h⟩:=bK h;obtain⟨z,_,h⟩:=bK h;have:=lO h;rw[fq]at this;obtain⟨rfl,e⟩:=this;rw[h',<-e];unfold rf;rw[if_pos hd]
theorem eZ(h:aC T (.var i) env d)(hd:d.flat=δ):ev T (.var i) env=.ok (d,.mv []):=by
 obtain⟨R,h⟩:=h;cases q:env[i]? with
 |none=>rw[ev,q]at h;cases h
 |some o=>
  cases o with
  |none=>rw[ev,q]at h;cases h
  |some p=>
   obtain⟨d',t⟩:=p;rw[ev,q]at h;have:=lO h;rw[fq]at this;obtain⟨rfl,e⟩:=this;exact wJ q hd
theorem iT(l:List Nat):(D.lst (gD l)).inner=δ:=uf l
theorem aC.of{R:Rt}(h:ev T e env=.ok (d,R)):aC T e env d:=⟨R,h⟩
theorem aC.Mf{x:D}(h:aC T a env x)(h2:aC T b env y):aC T (.lst (.cons a (.cons b .nil))) env (.lst [x,y]):=by
 obtain⟨R,h⟩:=h;obtain⟨R2,h2⟩:=h2;exact⟨_,by rw[ev,aT,h,aA,aT,h2,aA,aT,aA,aA,aA];exact if_pos (by show(2:Nat)<=lim;decide)⟩
end
structure Tv(env:En)(vs:List (Option (D×Bool))):Prop where
 len:env.length=vs.length
 tm:Tame env
 at':∀(j:Nat) (d:D) (b:Bool),vs[j]? = ζ (ζ (d,b))->∃t,env[j]? = ζ (ζ (d,t))/\(b=δ->t=.own)
section
variable {T:Tb}{env:En}{vs:List (Option (D×Bool))}{d:D}
theorem Tv.vw(h:Tv env vs):Vw env (vs.map λo=>o.map (·.1)):=by
 refine⟨by rw[aj];exact h.len,λj d e=>?_⟩;rw[τ]at e;cases q:vs[j]? with
 |none=>rw[q]at e;cases e
 |some o=>
  cases o with
  |none=>rw[q]at e;cases e
  |some p=>
   rw[q]at e;cases e;obtain⟨t,a,_⟩:=h.at' j p.1 p.2 q;exact⟨t,a⟩
theorem Tv.own(h:Tv env vs)(e:vs[i]? = ζ (ζ (d,δ))):env[i]? = ζ (ζ (d,.own)):=by
 obtain⟨t,a,b⟩:=h.at' i d δ e;rw[a,b rfl]
theorem Tv.var(h:Tv env vs){i:Nat}{b:Bool}(e:vs[i]? = ζ (ζ (d,b))):aC T (.var i) env d:=by
 obtain⟨t,a,_⟩:=h.at' i d b e;rw[aC,ev,a];exact⟨_,rfl⟩
theorem Tv.set(h:Tv env vs)(i:Nat)(d:D)(t:Tg)(b:Bool)(ht:pB (ζ (d,t)))(hb:b=δ->t=.own):Tv (env.set i (ζ (d,t))) (vs.set i (ζ (d,b))):=by
 refine⟨by rw[ba,ba];exact h.len,h.tm.set ht i,λj x y e=>?_⟩;by_cases hj:i=j
 .subst hj;have hl:i<vs.length:=by
   have:=(χ.mp e).1
   rwa [ba]at this
  rw[Β hl]at e;cases e;exact⟨t,Β (by rw[h.len];exact hl),hb⟩
 .rw[Θ hj]at e;rw[Θ hj];exact h.at' j x y e
theorem Tv.asg(h:Tv env vs)(hi:i<vs.length)(he:ev T e env=.ok (d,.mv [])):∃Ia,cP T (.asg (.nm i) e γ) env=.nx Ia/\Tv Ia (vs.set i (ζ (d,δ))):=
 ⟨_,AG h.tm (by rw[h.len];exact hi) he,h.set i d .own δ (aQ _) λ_=>rfl⟩
theorem Tv.start(ds:List D)(n:Nat):Tv (aJ ds n) (ds.map (λd=>ζ (d,γ))++π (n-ds.length) ε):=by
 unfold aJ;refine⟨by simp,λs hs=>?_,λj d b e=>?_⟩
 .rcases i9.mp hs with q|q
  .obtain⟨d,_,rfl⟩:=gt.mp q;unfold bQ;split
   .exact aQ _
   .exact t9 _
  .rw[List.eq_of_mem_replicate q];exact vM
 .by_cases hj:j<ds.length
  .rw[Ψ (by rw[aj];exact hj),τ]at e;rw[Ψ (by rw[aj];exact hj),τ];cases q:ds[j]? with
   |none=>rw[q]at e;cases e
   |some x=>rw[q]at e;cases e;exact⟨_,rfl,λh=>by cases h⟩
  .rw[am (by rw[aj];omega),u8]at e;split at e<;>cases e
end
variable {vs:List (Option (D×Bool))}{xs:List D}
section
variable {T:Tb}{env:En}{a b c g:Ex}{x y z w r:D}{f:Nat}
theorem bZ(h:aC T a env x)(e:T.cl f [x]=.ok (r,δ)):ev T (.call f (.cons a .nil)) env=.ok (r,.mv []):=by
 obtain⟨R,h⟩:=h;rw[ev,aT,h,aA,aT,aA,aA];show(T.cl f [x]).bind _=_;rw[e,aA];rfl
theorem bR(h:aC T a env x)(h2:aC T b env y)(e:T.cl f [x,y]=.ok (r,δ)):ev T (.call f (.cons a (.cons b .nil))) env=.ok (r,.mv []):=by
 obtain⟨R,h⟩:=h;obtain⟨R2,h2⟩:=h2;rw[ev,aT,h,aA,aT,h2,aA,aT,aA,aA,aA];show(T.cl f [x,y]).bind _=_;rw[e,aA];rfl
theorem jk(h:aC T a env x)(h2:aC T b env y)(h3:aC T c env z)(e:T.cl f [x,y,z]=.ok (r,δ)):ev T (.call f (.cons a (.cons b (.cons c .nil)))) env=.ok (r,.mv []):=by
 obtain⟨R,h⟩:=h;obtain⟨R2,h2⟩:=h2;obtain⟨R3,h3⟩:=h3;rw[ev,aT,h,aA,aT,h2,aA,aT,h3,aA,aT,aA,aA,aA,aA];show(T.cl f [x,y,z]).bind _=_;rw[e,aA];rfl
theorem jM(h:aC T a env x)(h2:aC T b env y)(h3:aC T c env z)(h4:aC T g env w)(e:T.cl f [x,y,z,w]=.ok (r,δ)):ev T (.call f (.cons a (.cons b (.cons c (.cons g .nil))))) env=.ok (r,.mv []):=by
 obtain⟨R,h⟩:=h;obtain⟨R2,h2⟩:=h2;obtain⟨R3,h3⟩:=h3;obtain⟨R4,h4⟩:=h4;rw[ev,aT,h,aA,aT,h2,aA,aT,h3,aA,aT,h4,aA,aT,aA,aA,aA,aA,aA];show(T.cl f [x,y,z,w]).bind _=_;rw[e,aA];rfl
theorem Tv.app(h:Tv env vs){x:Nat}(hx:vs[x]? = ζ (ζ (.lst xs,δ)))(he:ev T e env=.ok (d,.mv []))(hl:xs.length<10000):∃Ia,cP T (.mut x .none .append (.cons e .nil)) env=.nx Ia/\Tv Ia (vs.set x (ζ (.lst (xs ++ [d]),δ))):=
 ⟨_,Al h.tm (h.own hx) he (a8 hl (by decide)),h.set x _ .own δ (aQ _) λ_=>rfl⟩
end
variable {k:Bool}
theorem Tn(h:aC T e env (.bl k)):jv T (.some e) env=.ok k:=by
 obtain⟨R,h⟩:=h;rw[jv,h,aA];rfl
theorem DF{x:D}(h:ev T a env=.ok (x,.mv []))(h':ev T b env=.ok (y,.mv [])):ev T (.tup (.cons a (.cons b .nil))) env=.ok (.tup [x,y],.mv []):=by
 rw[ev,aT,h,aA,aT,h',aA,aT,aA,aA,aA];rfl
variable {x:Nat}
theorem Tv.ext(h:Tv env vs){ys:List D}(hx:vs[x]? = ζ (ζ (.lst xs,δ)))(he:ev T e env=.ok (.lst ys,.mv []))(hf:D.Ig ys=δ)(hl:xs.length+ys.length<=10000):∃Ia,cP T (.mut x .none .extend (.cons e .nil)) env=.nx Ia/\Tv Ia (vs.set x (ζ (.lst (xs++ys),δ))):=by
 have ho:ownAt env x=ζ (.lst xs):=by unfold ownAt;rw[h.own hx]
 have hs:aT T (.cons e .nil) env=.ok [(.lst ys,.mv [])]:=by rw[aT,he,aA];rfl
 have LB:(xs++ys).length<=lim:=by rw[aw];exact a8 hl (by decide)
 refine⟨_,?_,h.set x (.lst (xs++ys)) .own δ (aQ _) λ_=>rfl⟩;rw[cP,ho];simp only[iX,bD,D.Jn,hs,a9,g9,wu,hf,aR,Rt.roots,cg,ò,bh,iq,cx,if_false,if_true,qW.II,iM,dB,cm];simp only[bu,decide_true,gK,Ym,XS,X4,LB,if_true,D.Jh,X3];rw[iH h.tm]
variable {R:List Nat}{it:oY}{l:List D}{t:kh}
theorem Bq{b:bV}{e:En}(hit:cU T it env=.ok (l,R))(h:hV t R (aP T b) l (lock R env)=.nx e):cP T (.Ie t it b) env=.nx (unlock R env e):=by
 rw[cP,hit,bD];dsimp only;rw[h]
theorem Tv.unlock{e:En}(V:Tv e vs)(R:List Nat):Tv (unlock R env e) vs:=by
 have ln:(Pc.unlock R env e).length=e.length:=by unfold Pc.unlock;rw[Z4]
 have Jn:∀(i:Nat) (s:Slot),e[i]? = ζ s->∃s',(Pc.unlock R env e)[i]? = ζ s'/\(pB s->pB s')/\∀d t,s=ζ (d,t)->∃t',s'=ζ (d,t')/\(t=.own->t'=.own):=λi s h=>by
  unfold Pc.unlock;rw[ii,h];refine⟨_,rfl,?_⟩;cases s with
  |none=>exact⟨λh=>h,λd t h=>by cases h⟩
  |some p=>
   obtain⟨d,t⟩:=p;cases t with
   |own=>exact⟨λh=>h,λd t h=>by cases h;exact⟨_,rfl,λh=>h⟩⟩
   |sh Q=>exact⟨λh=>h,λd t h=>by cases h;exact⟨_,rfl,λh=>h⟩⟩
   |lk=>
    dsimp only;split
    .split
     .exact⟨λ_=>aQ _,λd t h=>by cases h;exact⟨_,rfl,λ_=>rfl⟩⟩
     .exact⟨λh=>h,λd t h=>by cases h;exact⟨_,rfl,λh=>h⟩⟩
    .exact⟨λh=>h,λd t h=>by cases h;exact⟨_,rfl,λh=>h⟩⟩
 refine⟨ln.trans V.len,λs hs=>?_,λj d b h=>?_⟩
 .obtain⟨i,hi,rfl⟩:=XQ.mp hs;rw[ln]at hi;obtain⟨s',a1,a2,_⟩:=Jn i e[i] (ω hi);have:=χ.mp a1;obtain⟨_,rfl⟩:=this;exact a2 (V.tm _ (c7 _))
 .obtain⟨t,h1,h2⟩:=V.at' j d b h;obtain⟨s',a1,_,a3⟩:=Jn j _ h1;obtain⟨t',rfl,h3⟩:=a3 d t rfl;exact⟨t',a1,λhb=>h3 (h2 hb)⟩
section
variable {T:Tb}{y:Nat}{d x:D}{env:En}{vs:List (Option (D×Bool))}
theorem E9{m:Pc.Fh}{o:Ex}{u w z:D}(h:aC T o env u)(h':aC T e env w)(hm:oU m u [w]=ζ z)(hz:z.inner=δ):ev T (.Lo m o (.cons e .nil)) env=.ok (z,.mv []):=by
 obtain⟨R,h⟩:=h;obtain⟨R',h'⟩:=h';rw[ev,h,aA,aT,h',aA,aT,aA,aA];show(ku (oU m u [w])).bind _=_;rw[hm,cY,aA,hZ,if_pos hz]
end
noncomputable abbrev Vs:=List (Option (D×Bool))
def Wp(T:Tb)(ss:bV)(env:En)(Q:Fl->Prop):Prop:=Q (aP T ss env)
noncomputable abbrev Rd(d:D)(f:Fl):Prop:=Pc.ret f=.ok (d,δ)
def Nx(P:Vs->Prop)(f:Fl):Prop:=∃e us,(f=.nx e\/f=.nx e)/\P us/\Tv e us
variable {c:Ex}
section
variable {T:Tb}{env:En}{vs:Vs}{Q:Fl->Prop}{P:Vs->Prop}{r b p:bV}{d:D}{i j:Nat}{e:Ex}{w:Bool}{gs:List Nat}{m n:Nat}
theorem Wp.st{s:St}{e:En}(q:cP T s env=.nx e)(h:Wp T r e Q):Wp T (.cons s r) env Q:=by
 unfold Wp;rw[aP,q];exact h
theorem Tv.nil(V:Tv env vs)(h:P vs):Wp T .nil env (Nx P):=⟨env,vs,.inl (by rw[aP]),h,V⟩
theorem Tv.sA(V:Tv env vs)(he:ev T e env=.ok (d,.mv []))(k:∀e',Tv e' (vs.set i (ζ (d,δ)))->Wp T r e' Q)(hi:i<vs.length:=by exact ay rfl):Wp T (.cons (.asg (.nm i) e γ) r) env Q:=
 let ⟨e',q,V'⟩:=V.asg hi he
 .st q (k e' V')
theorem Wp.ite{k:Bool}(hc:aC T c env (.bl k))(h:k=δ->Wp T p env λf=>∃e,f=.nx e/\Wp T r e Q)(h':k=γ->Wp T r env Q):Wp T (.cons (.ite c p .nil) r) env Q:=by
 cases k with
 |true=>obtain⟨e,q,x⟩:=h rfl;exact .st (by rw[pQ hc];exact q) x
 |false=>exact .st (by rw[pQ hc];exact(by rw[aP]:aP T .nil env=.nx env)) (h' rfl)
theorem Tv.Qd(V:Tv env vs){k:Ex}(hx:vs[x]? = ζ (ζ (.lst (gD gs),δ)))(hk:aC T k env (.int (m:Int)))(hm:m<gs.length)(hl:gs.length<=1000)(he:ev T e env=.ok (.int (n:Int),.mv []))(c:∀e',Tv e' (vs.set x (ζ (.lst (gD (gs.set m n)),δ)))->Wp T r e' Q):Wp T (.cons (.Ir x .none k e) r) env Q:=by
 obtain⟨R,hk⟩:=hk;have:=t4 (T:=T) (x:=x) V.tm (V.own hx) hk (fK (n:=(gD gs).length) (by rw[eY];exact hm)) he (by rw[eY];exact nu hl);rw[C9]at this;exact .st this (c _ (V.set x _ .own δ (aQ _) λ_=>rfl))
theorem Tv.ret(V:Tv env vs)(h:vs[i]? = ζ (ζ (d,δ))):Wp T (.cons (.ret (.var i)) .nil) env (Rd d):=by
 have a:=V.own h;show Pc.ret (aP T _ env)=_;rw[aP,cP,ev,a,bD];cases hf:d.flat<;>simp[hf,BJ,Pc.ret,gK,a]
theorem C6{b:Ex}(h:aC T a env (.int (m:Int)))(h':aC T b env (.int (n:Int))):ev T (.bin .BitXor a b) env=.ok (.int ((m^^^n:Nat):Int),.mv []):=dO (aC.bin h h' (by show ζ (D.int (Xj m n))=_;rw[AU])) rfl
theorem yY{b:Ex}(h:aC T a env (.int (m:Int)))(h':aC T b env (.int (n:Int)))(l:n<=m):aC T (.bin .Sub a b) env (.int ((m-n:Nat):Int)):=aC.bin h h' (by show ζ (D.int ((m:Int)-n))=_;rw[Int.ofNat_sub l])
theorem fO{b:Ex}(h:aC T a env (.int (m:Int)))(h':aC T b env (.int (n:Int))):aC T (.bin .Add a b) env (.int ((m+n:Nat):Int)):=aC.bin h h' rfl
theorem u7{b:Ex}{l l':List Nat}(h:aC T a env (.lst (gD l)))(h':aC T b env (.lst (gD l')))(hl:l.length+l'.length<=1000):ev T (.bin .Add a b) env=.ok (.lst (gD (l++l')),.mv []):=dO (aC.bin h h' (by
 show ck ((gD l).length+(gD l').length) (.lst (gD l++gD l'))=_;unfold ck;rw[if_pos (by rw[eY,eY];exact nu hl),jL])) (iT _)
theorem GQ{α:Type}{g:α->D}(J:List α->Vs->Prop)(hs:∀a r us e,J (a::r) us->Tv e us->∃e1,bP R t (g a) e=ζ e1/\Wp T b e1 (Nx (J r))):∀(l:List α) (env:En) (us:Vs),J l us->Tv env us->∃e LJ,hV t R (aP T b) (l.map g) env=.nx e/\J [] LJ/\Tv e LJ
 |[],env,us,j,V=>⟨env,us,rfl,j,V⟩
 |a::l,env,us,j,V=>by
  obtain⟨e1,h1,e2,u,h2,j',V'⟩:=hs a l us env j V;obtain⟨e,u',q,x⟩:=GQ J hs l e2 u j' V';refine⟨e,u',?_,x⟩;rw[a9,hV,h1];rcases h2 with h|h<;>(dsimp only;rw[h];exact q)
theorem lG{α:Type}{R:List Nat}{g:α->D}{l:List α}(J:List α->Vs->Prop)(hit:cU T it env=.ok (l.map g,R))(V:Tv (Pc.lock R env) vs)(j:J l vs)(hs:∀a r us e,J (a::r) us->Tv e us->∃e1,bP R t (g a) e=ζ e1/\Wp T b e1 (Nx (J r)))(k:∀e us,J [] us->Tv e us->Wp T r e Q):Wp T (.cons (.Ie t it b) r) env Q:=by
 obtain⟨e,us,q,j',V'⟩:=GQ J hs l _ vs j V;exact .st (Bq hit q) (k _ us j' (V'.unlock R))
theorem Tv.lock(V:Tv env vs){us:Vs}(hl:us.length=vs.length)(h:∀k d w,us[k]? = ζ (ζ (d,w))->∃b,vs[k]? = ζ (ζ (d,b))/\(w=δ->b=δ/\R.contains k=γ)):Tv (lock R env) us:=by
 refine⟨by rw[hl,<-V.len];exact Z4,λs hs=>?_,λk d w q=>?_⟩
 .obtain⟨i,hi,rfl⟩:=List.mem_mapIdx.mp hs;have:=V.tm _ (c7 hi);split
  .split
   .exact BG _
   .exact aQ _
  .exact this
 .obtain⟨b,q1,q2⟩:=h k d w q;obtain⟨t,a,c⟩:=V.at' k d b q1;unfold Pc.lock;rw[ii,a];cases t with
  |own=>cases hk:R.contains k with
   |true=>exact⟨.lk,by simp[hk],λz=>by rw[(q2 z).2]at hk;cases hk⟩
   |false=>exact⟨.own,by simp[hk],λ_=>rfl⟩
  |lk=>exact⟨.lk,rfl,λz=>c (q2 z).1⟩
  |sh S=>exact⟨.sh S,rfl,λz=>c (q2 z).1⟩
theorem Tv.root(V:Tv env vs)(h:vs[i]? = ζ (ζ (.lst l,w))):∃q,ev T (.var i) env=.ok (.lst l,q)/\∀k∈q.roots,k=i:=by
 obtain⟨t,a,_⟩:=V.at' i _ w h;rw[ev,a];refine⟨_,rfl,?_⟩;rcases V.tm _ (Ι a)with ht|⟨d,ht⟩|⟨d,ht⟩|⟨d,ht⟩<;>cases ht<;>simp[D.flat,Rt.roots]
theorem lX{k:Nat}{o:Option (D×Bool)}(h:(vs.set i o)[k]? = ζ (ζ (d,w))):k=i/\o=ζ (d,w)\/k≠i/\vs[k]? = ζ (ζ (d,w)):=by
 by_cases hk:i=k
 .subst hk;rw[Β (by have:=(χ.mp h).1;rwa [ba]at this)]at h;cases h;exact .inl ⟨rfl,rfl⟩
 .rw[Θ hk]at h;exact .inr ⟨cj hk,h⟩
theorem Tv.walk(V:Tv env vs)(h:vs[i]? = ζ (ζ (.lst l,w))):∃R,(∃q,ev T (.var i) env=.ok (.lst l,q)/\q.roots=R)/\Tv (Pc.lock R env) (vs.set i (ζ (.lst l,γ))):=by
 obtain⟨q,h1,h2⟩:=V.root (T:=T) h;refine⟨_,⟨q,h1,rfl⟩,V.lock ba λk d b z=>?_⟩;rcases lX z with⟨rfl,y⟩|⟨n,z⟩
 .cases y;exact⟨w,h,λz=>by cases z⟩
 .exact⟨b,z,λhb=>⟨hb,by rw[Yl];exactλc=>n (h2 k (jp.mp c))⟩⟩
theorem Tv.walk2(V:Tv env vs){l':List D}{w':Bool}(h:vs[i]? = ζ (ζ (.lst l,w)))(h':vs[j]? = ζ (ζ (.lst l',w'))):∃R,cU T (.zip (.var i) (.var j)) env=.ok ((l.zip l').map λz=>.tup [z.1,z.2],R)/\Tv (Pc.lock R env) ((vs.set i (ζ (.lst l,γ))).set j (ζ (.lst l',γ))):=by
 obtain⟨q,h1,h2⟩:=V.root (T:=T) h;obtain⟨q',JF,Jc⟩:=V.root (T:=T) h';refine⟨q.roots++q'.roots,by rw[cU,h1,aA,JF,aA];rfl,V.lock (by simp) λk d b z=>?_⟩;rcases lX z with⟨rfl,y⟩|⟨n,z⟩
 .cases y;exact⟨w',h',λz=>by cases z⟩
 .rcases lX z with⟨rfl,y⟩|⟨n',z⟩
  .cases y;exact⟨w,h,λz=>by cases z⟩
  .exact⟨b,z,λhb=>⟨hb,by rw[Yl];exactλc=>(i9.mp (jp.mp c)).elim (λc=>n' (h2 k c)) λc=>n (Jc k c)⟩⟩
theorem Tv.bind1(V:Tv env vs)(R:List Nat)(k:Int)(hi:i<vs.length):∃e,bP R (.nm i) (.int k) env=ζ e/\Tv e (vs.set i (ζ (.int k,δ))):=
 ⟨_,by show(if i<env.length then ζ (put env i (.int k) .own)else ε)=_;rw[if_pos (by rw[V.len];exact hi),dD V.tm],V.set i _ .own δ (aQ _) λ_=>rfl⟩
theorem Tv.sS(V:Tv env vs)(h:vs[j]? = ζ (ζ (.lst (gD gs),w)))(J:List Nat->Vs->Prop)(h0:J gs (vs.set j (ζ (.lst (gD gs),γ))))(hs:∀g m us e,J (g::m) us->Tv e us->Xw (x+1) us.length=δ/\∀e1,Tv e1 (us.set x (ζ (.int (g:Int),δ)))->Wp T b e1 (Nx (J m)))(k:∀e us,J [] us->Tv e us->Wp T r e Q):Wp T (.cons (.Ie (.nm x) (.seq (.var j)) b) r) env Q:=by
 obtain⟨R,⟨q,h1,rfl⟩,V'⟩:=V.walk (T:=T) h;refine lG J (R:=q.roots) (l:=gs) (g:=λ(g:Nat)=>.int (g:Int)) (by rw[cU,h1,aA];rfl) V' h0 (λg m us e a b=>?_) k;obtain⟨l,c⟩:=hs g m us e a b;obtain⟨e1,z,V1⟩:=b.bind1 q.roots g (ay l);exact⟨e1,z,c e1 V1⟩
theorem Tv.sE(V:Tv env vs){y:Nat}(h:vs[j]? = ζ (ζ (.lst (gD gs),w)))(J:Nat->List Nat->Vs->Prop)(h0:J 0 gs (vs.set j (ζ (.lst (gD gs),γ))))(hs:∀n g m us e,J n (g::m) us->Tv e us->(Xw (x+1) us.length&&Xw (y+1) us.length)=δ/\∀e1,Tv e1 ((us.set x (ζ (.int (n:Int),δ))).set y (ζ (.int (g:Int),δ)))->Wp T b e1 (Nx (J (n+1) m)))(k:∀e n us,J n [] us->Tv e us->Wp T r e Q):Wp T (.cons (.Ie (.tp [x,y]) (.enum (.var j)) b) r) env Q:=by
 obtain⟨R,⟨q,h1,rfl⟩,V'⟩:=V.walk (T:=T) h;refine lG (λl us=>∃n m,l=m.zipIdx n/\J n m us) (R:=q.roots) (l:=gs.zipIdx) (g:=λ(z:Nat×Nat)=>.tup [.int (z.2:Int),.int (z.1:Int)]) (by rw[cU,h1,aA];show Rs.ok (_,q.roots)=_;rw[EI]) V' ⟨0,gs,rfl,h0⟩ (λa s us e ⟨n,m,c,z⟩ b=>?_) λe us ⟨n,m,c,z⟩ V=>?_
 .cases m with
  |nil=>cases c
  |cons g m=>
   rw[List.zipIdx_cons]at c;cases c;obtain⟨l,c⟩:=hs n g m us e z b;rw[ai]at l;exact⟨_,nT b.tm (by rw[b.len];exact ay l.1) (by rw[b.len];exact ay l.2) rfl rfl,let ⟨e,u,p,q,t⟩:=c _ ((b.set x _ .own δ (aQ _) λ_=>rfl).set y _ .own δ (aQ _) λ_=>rfl);⟨e,u,p,⟨_,_,rfl,q⟩,t⟩⟩
 .cases m with
  |nil=>exact k e n us z V
  |cons g m=>cases c
noncomputable abbrev Qw(vs:List (Option D))(pick:List Nat):List (Option D):=pick.map λi=>vs[i]?.getD ε
theorem uD{g:Nat->D}{R:List Nat}(hit:cU T it env=.ok ((bv n).map g,R))(V:Tv (Pc.lock R env) vs)(J:Nat->Vs->Prop)(h0:J 0 vs)(hs:∀k us e,k<n->J k us->Tv e us->∃e1,bP R t (g k) e=ζ e1/\Wp T b e1 (Nx (J (k+1))))(k:∀e us,J n us->Tv e us->Wp T r e Q):Wp T (.cons (.Ie t it b) r) env Q:=by
 refine lG (λl us=>∃k,l=W2 k (n-k)/\k<=n/\J k us) (l:=W2 0 n) (by rw[hit,Zu]) V ⟨0,rfl,cf _,h0⟩ (λa s us e ⟨k,c,l,z⟩ b=>?_) λe us ⟨m,c,l,z⟩ V=>?_
 .obtain⟨u,hu⟩:∃u,n=k+u:=⟨n-k,by omega⟩;subst hu;rw[iz]at c;cases u with
  |zero=>cases c
  |succ u=>
   rw[ó]at c;cases c;obtain⟨e1,y,e,v,p,q',t⟩:=hs a us e (by omega) z b;exact⟨e1,y,e,v,p,⟨a+1,by rw[show a+(u+1)-(a+1)=u by omega],by omega,q'⟩,t⟩
 .have:m=n:=by
   have:=fk XO c;rw[ig,du]at this;omega
  subst this;exact k e us z V
theorem Tv.sR(V:Tv env vs)(he:aC T e env (.int (n:Int)))(hn:n<=1000)(J:Nat->Vs->Prop)(h0:J 0 vs)(hs:∀k us e,k<n->J k us->Tv e us->Xw (x+1) us.length=δ/\∀e1,Tv e1 (us.set x (ζ (.int (k:Int),δ)))->Wp T b e1 (Nx (J (k+1))))(k:∀e us,J n us->Tv e us->Wp T r e Q):Wp T (.cons (.Ie (.nm x) (.Iq e) b) r) env Q:=
 uD (BO he hn) (by rw[Pc.bN];exact V) J h0 (λk us e hk z V=>by
  obtain⟨l,c⟩:=hs k us e hk z V;obtain⟨e1,y,V1⟩:=V.bind1 [] k (ay l);exact⟨e1,y,c e1 V1⟩) k
theorem Tv.JZ(V:Tv env vs)(R:List Nat){x y:D}(fx:x.flat=δ)(fy:y.flat=δ)(hi:i<vs.length:=by exact ay rfl)(hj:j<vs.length:=by exact ay rfl):∃e,bP R (.tp [i,j]) (.tup [x,y]) env=ζ e/\Tv e ((vs.set i (ζ (x,δ))).set j (ζ (y,δ))):=
 ⟨_,nT V.tm (by rw[V.len];exact hi) (by rw[V.len];exact hj) fx fy,(V.set i _ .own δ (aQ _) λ_=>rfl).set j _ .own δ (aQ _) λ_=>rfl⟩
theorem Wp.NI(hc:aC T c env (.bl δ))(he:ev T e env=.ok (d,.mv [])):Wp T (.cons (.ite c (.cons (.ret e) .nil) .nil) r) env (Rd d):=by
 show Pc.ret (aP T _ env)=_;rw[aP,pQ hc,if_pos rfl,aP,cP,he,bD];rfl
theorem iC{b:Nat}(hb:0<b)(h:aC T a env (.int (x:Int)))(h':aC T e env (.int (b:Int))):aC T (.bin .Mod a e) env (.int ((x%b:Nat):Int)):=aC.bin h h' (by
 rw[yV];show((if 0<(b:Int)then ζ ((x:Int)%(b:Int))else ε).map D.int)=_;rw[if_pos (by omega),Int.natCast_emod];rfl)
theorem mD:ev T (.lst .nil) env=.ok (.lst [],.mv []):=by rw[ev,aT,aA];rfl
theorem Tv.sM(V:Tv env vs)(hx:vs[x]? = ζ (ζ (.lst xs,δ)))(he:ev T e env=.ok (d,.mv []))(hl:xs.length<10000)(k:∀e',Tv e' (vs.set x (ζ (.lst (xs ++ [d]),δ)))->Wp T r e' Q):Wp T (.cons (.mut x .none .append (.cons e .nil)) r) env Q:=
 let ⟨_,q,V'⟩:=V.app hx he hl
 .st q (k _ V')
theorem Tv.sG(V:Tv env vs){a c:Int}(hx:vs[x]? = ζ (ζ (.int a,δ)))(he:aC T e env (.int c))(k:∀e',Tv e' (vs.set x (ζ (.int (a+c),δ)))->Wp T r e' Q):Wp T (.cons (.aug x .Add e) r) env Q:=
 let ⟨_,y⟩:=he
 .st (Pc.Nw.A5 V.tm (V.own hx) y) (k _ (V.set x _ .own δ (aQ _) λ_=>rfl))
theorem Gn(J:Nat->Vs->Prop)(hs:∀n us e,J n us->Tv e us->∃k,aC T c e (.bl k)/\(k=δ->∃m,n=m+1/\Wp T b e (Nx (J m))))(h:∀n e us,J n us->Tv e us->aC T c e (.bl γ)->Wp T r e Q):∀(n fuel:Nat) (env:En) (us:Vs),n<fuel->J n us->Tv env us->∃e,iO (λenv=>(ev T c env).bind λp=>ku (truth p.1)) (aP T b) fuel env=.nx e/\Wp T r e Q
 |n,0,_,_,l,_,_=>absurd l (i8 _)
 |n,fuel+1,env,us,l,j,V=>by
  obtain⟨k,⟨R,hc⟩,hb⟩:=hs n us env j V;rw[iO,hc];cases k with
  |false=>exact⟨env,rfl,h n env us j V ⟨R,hc⟩⟩
  |true=>
   obtain⟨m,rfl,e,u,he,j',V'⟩:=hb rfl;obtain⟨x,q,z⟩:=Gn J hs h m fuel e u (by omega) j' V';refine⟨x,?_,z⟩;show(match aP T b env with|.nx e=>iO _ _ fuel e|x=>x)=_;rcases he with he|he<;>(rw[he];exact q)
theorem Tv.sW(V:Tv env vs)(J:Nat->Vs->Prop)(hn:n<T.fuel)(h0:J n vs)(hs:∀n us e,J n us->Tv e us->∃k,aC T c e (.bl k)/\(k=δ->∃m,n=m+1/\Wp T b e (Nx (J m))))(h:∀n e us,J n us->Tv e us->aC T c e (.bl γ)->Wp T r e Q):Wp T (.cons (.K8 c b) r) env Q:=by
 obtain⟨e,q,z⟩:=Gn J hs h n T.fuel env vs hn h0 V;exact .st (by rw[cP];exact q) z
theorem aC.K7{k':Bool}(h:aC T e env (.bl k))(h':aC T e env (.bl k')):k=k':=by
 obtain⟨_,h⟩:=h;obtain⟨_,h'⟩:=h';rw[h]at h';cases h';rfl
theorem xX(h:aC T a env (.int (n:Int))):aC T (.cmp .Gt a Ht) env (.bl (decide (0<n))):=aC.cmp h (aC.cst _) (by show ζ (decide ((0:Int)<n))=_;exact fk ζ (decide_eq_decide.mpr (by omega)))
theorem wO(h:aC T a env (.int (n:Int))):aC T (.cmp .Eq (.bin .Mod a Hu) Hv) env (.bl (decide (n%2=1))):=aC.cmp (iC (b:=2) (by decide) h (aC.cst _)) (aC.cst (.int 1)) (by
 show ζ (((n%2:Nat):Int)==1)=_;refine fk ζ ?_;rw[ja,eo,bz];omega)
theorem ou(h:aC T a env (.int (n:Int))):ev T (.bin .FloorDiv a Hu) env=.ok (.int ((n / 2:Nat):Int),.mv []):=dO (aC.bin h (aC.cst _) (by show ζ (D.int ((n:Int) / 2))=_;rw[show(n:Int) / 2=((n / 2:Nat):Int) by omega])) rfl
theorem Wp.K3(h:Wp T r env Q):Wp T .nil env λf=>∃e,f=.nx e/\Wp T r e Q:=⟨env,by rw[aP],h⟩
end
section
variable {T:Tb}{t:Nat}
noncomputable abbrev lo(gs:List Nat)(b:Bool:=γ):Option (D×Bool):=ζ (.lst (gD gs),b)
noncomputable abbrev no(n:Nat)(b:Bool:=γ):Option (D×Bool):=ζ (.int (n:Int),b)
theorem zi{m n:Nat}(h:aC T a env (.int (m:Int)))(h':aC T b env (.int (n:Int)))(hm:m<=1000)(hn:n<=1000):cU T (.Jq a b) env=.ok (gD (W2 m (n-m)),[]):=by
 obtain⟨R,h⟩:=h;obtain⟨R',h'⟩:=h';rw[cU,h,aA,h',aA];show(if eK (m:Int)&&eK (n:Int)then Rs.ok (bA (m:Int) 1 ((n:Int)-m).toNat,[])else .bad)=_;rw[xZ hm,xZ hn,Int.toNat_sub,gQ];rfl
theorem Ac{i j:Int}(h:small i=δ\/small j=δ):lZ .Mult (.int i) (.int j)=ζ (.int (i*j)):=by
 show(if(small i || small j)=δ then ζ (i*j)else ε).map D.int=_;rw[if_pos (by rw[eh];exact h)];rfl
end
end Pc.Vw
end
section
namespace K40
open PySem Pc Pc.Sm Pc.Gr Pc.Lw Pc.Vw Fl64
noncomputable def tx(l:List Nat):Str:=⟨l.toArray⟩
noncomputable def KS:Nat->Str
 |1=>"0123456789"
 |2=>" ABCDEFGHIJKLMNOPQRSTUVWXYZ.,-:/"
 |3=>" !\"#$&'()*+,-./0123456789:;<=>?@ABCDEFGHIJKLMNOPQRSTUVWXYZ[\\]^_`abcdefghijklmnopqrstuvwxyz{|}~"
 |_=>""
noncomputable def jd(k c:Nat):Bool:=(KS k).cps.toList.contains c
noncomputable def rm(a:Nat):Nat:=[16,37,64,96,133].getD a 0
noncomputable def nb(a:Nat):Nat:=[1,1,2,2,3].getD a 0
noncomputable def SH(a b:Nat):List (Nat×Nat):=(bv (nb a)).map λk=>((if nb a-rm a%nb a<=k then rm a / nb a+1 else rm a / nb a)-2*(rm a / nb a*(b+1) / 16+1),2*(rm a / nb a*(b+1) / 16+1))
noncomputable def RM(a b:Nat):Nat:=((SH a b).map (·.1)).sum
def PD(t:List Nat)(k:Nat):Prop:=∃u c v,t=u++c::v/\u.length=k/\(∀x∈u,jd 3 x=δ)/\(c=9\/c=10)/\t.length<=400
open Classical in
noncomputable def xC(ds:List D):Option D:=if∃(t:List Nat) (a b m:Nat) (d:D),a<5/\b<4/\ds=[.str (tx t),.int (15+4*(a:Int)),.int (b:Int),.int (m:Int),d]/\((∃k:Nat,d=.int (k:Int)/\PD t k)\/d=.Ii/\t=π (1+6*RM a b / 7) 126)then ζ (.bl δ)else ε
noncomputable def z6:Ex:=.call 24 (HQ (.cst (.str ("0" : ul))))
noncomputable def b0:bV:=(HW 2 (.ix (.Ic 1) HG) (HW 3 (.bin .FloorDiv (.ix (.Ic 0) HG) HH) (HW 4 (.bin .Mod (.ix (.Ic 0) HG) HH) (HW 5 (.bin .Mult Hu (.bin .Add (.bin .FloorDiv (.bin .Mult HI (.bin .Add HJ Hv)) (HF 16)) Hv)) (HW 6 (.lst .nil) (.cons (.Ie (.nm 7) (.Iq HH) (HW 8 (.ite (.cmp .GtE HK (.bin .Sub HH HL)) (.bin .Add HI Hv) HI) (.cons (.mut 6 .none .append (HQ (.tup (HR (.bin .Sub (.var 8) HM) HM)))) .nil))) (HX HN)))))))
noncomputable def b1:bV:=(HX (.blt .sum (HQ (.comp 2 [] (.tp [0,1]) (.seq (.call 0 (HR HG HJ))) .none HG))))
noncomputable def b2:bV:=(HW 1 (.lst .nil) (.cons (.Ie (.nm 3) (.Iq (.blt .KQ (HR (.comp 1 [] (.nm 0) (.seq HG) .none (HV HG)) Ht))) (.cons (.Ie (.nm 2) (.seq HG) (.cons (.ite (.cmp .Lt HI (HV HH)) (.cons (.mut 1 .none .append (HQ (.ix HH HI))) .nil) .nil) .nil)) .nil)) (HX HJ)))
noncomputable def b3:bV:=(HX (.comp 1 [0] (.nm 0) (.Jf (.bin .Sub HJ Hv) (.neg Hv) (.neg Hv)) .none (.bin .BitAnd (.bin .RShift HJ HG) Hv)))
noncomputable def b4:bV:=(HW 1 Ht (.cons (.Ie (.nm 2) (.seq HG) (HW 1 (.bin .Add (.bin .Mult Hu HJ) HH) .nil)) (HX HJ)))
noncomputable def b5:bV:=(HW 2 (.bin .Add (.bin .Mult (.Ic 2) HG) HJ) (HX (.comp 1 [2] (.nm 0) (.Iq (.Ic 3)) .none (.bin .Mod (.bin .Add HJ (.call 6 (HR HG (.bin .FloorDiv HJ Hu)))) Hu))))
noncomputable def b6:bV:=(HX (.blt .sum (HQ (.call 3 (HR (.bin .BitAnd HG HJ) (.Ic 4))))))
noncomputable def b7:bV:=(HW 1 (.bin .Add (.blt .Kx (HQ HP)) (.blt .Kx (HR (.bin .Sub HG HP) HG))) (HW 2 (.lst .nil) (.cons (.Ie (.nm 3) (.seq HJ) (.cons (.Ie (.nm 4) (.seq HJ) (.cons (.mut 2 .none .append (HQ (.tup (HS HI HL (.call 8 (HS HG HI HL)))))) .nil)) .nil)) (HX HH))))
noncomputable def b8:bV:=(HW 3 (.blt .min2 (HR (.call 9 (HR HG HJ)) (.call 9 (HR HG HH)))) (.cons (.ite (.cmp .GtE HJ HP) (HX (.ix (.Ic 10) HI)) .nil) (.cons (.ite (.cmp .GtE HH HP) (HX (.ix (.Ic 9) HI)) .nil) (HX (.ix (.Ic 8) HI)))))
noncomputable def b9:bV:=(HW 2 (.ite (.cmp .Lt HJ HP) HJ (.bin .Sub HJ (.bin .Sub HG HP))) (HX (.blt .min2 (HR HH (.bin .Sub (.bin .Sub HP Hv) HH)))))
noncomputable def WM:bV:=(HW 1 (.lst (HQ (.tup (HS (.bin .Sub HG Hw) (.bin .Sub HG Hw) (.Ic 5))))) (.cons (.Ie (.nm 2) (.Jq HP (.bin .Sub HG HP)) (HW 3 (.ite (.cmp .Eq (.bin .Mod HH Hu) Ht) (.Ic 5) (.Ic 6)) (.cons (.mut 1 .none .append (HQ (.tup (HS Ht HH HI)))) (.cons (.mut 1 .none .append (HQ (.tup (HS HH Ht HI)))) .nil)))) (HX (.blt .sorted (HQ HJ)))))
noncomputable def WL:bV:=(HW 1 (.comp 1 [] (.nm 0) (.Iq (.Ic 12)) .none (.tup (HR (.Ic 11) (.bin .Add Hv HG)))) (HW 2 (.comp 1 [0] (.nm 0) (.Iq (.Ic 12)) .none (.tup (HR (.bin .Sub (.bin .Sub HJ Hv) HG) (.Ic 11)))) (HX (.bin .Add HJ HH))))
noncomputable def UZ:bV:=(HW 1 (.call 13 (HQ HG)) (HX (.comp 1 [1] (.nm 0) (.seq (.call 14 (HQ HG))) (.some (.cmp .NotIn HG HJ)) HG)))
noncomputable def UY:bV:=(HW 1 .KC (.cons (.Ie (.tp [2,3,4]) (.seq (.bin .Add (.call 7 (HQ HG)) (.call 10 (HQ HG)))) (.cons (.JN 1 (.tup (HR HH HI)) (.cst (.bl δ))) .nil)) (.cons (.Ie (.nm 5) (.seq (.call 11 (HQ HG))) (.cons (.JN 1 HM (.cst (.bl δ))) .nil)) (HX HJ))))
noncomputable def UX:bV:=(HW 1 (.lst .nil) (HW 2 (.cst (.bl γ)) (.cons (.Ie (.nm 3) (.Jf Ht HG (.Ic 13)) (.cons (.Ie (.nm 4) (.Iq HG) (HW 5 (.ite HH (.bin .Sub (.bin .Sub HG Hv) HL) HL) (.cons (.Ie (.nm 6) (.Jq HI (.blt .min2 (HR (.bin .Add HI (.Ic 13)) HG))) (.cons (.mut 1 .none .append (HQ (.tup (HR HN HM)))) .nil)) .nil))) (HW 2 (.not HH) .nil))) (HX HJ))))
noncomputable def WK:bV:=(HW 2 (.bin .Add (.Ic 20) (.Ic 21)) (.cons (.ite (.cmp .Eq HG (.Ic 15)) (HX (.bin .Add (.bin .Add HH (.bin .Mult (.ix (.Ic 23) (.Ic 24)) (.bin .FloorDiv HJ (.Ic 24)))) (.ix (.Ic 23) (.bin .Mod HJ (.Ic 24))))) .nil) (HX (.bin .Add HH (.bin .Mult (.ix (.Ic 19) HG) HJ)))))
noncomputable def UW:bV:=(HW 1 (.ix HG Ht) (HW 2 (.ix HG Hv) (HW 3 (.bin .Add (.call 3 (HR HJ (.Ic 20))) (.call 3 (HR (.bin .Sub (HV HH) Hv) (.Ic 21)))) (.cons (.ite (.cmp .Eq HJ (.Ic 15)) (HX (.bin .Add HI (.call 17 (HQ HH)))) .nil) (HX (.bin .Add HI (.call 18 (HR HJ HH))))))))
noncomputable def UU:bV:=(HW 1 (.lst .nil) (.cons (.Ie (.nm 2) (.Jf Ht (HV HG) (.Ic 24)) (HW 3 (.sl HG (.some HH) (.some (.bin .Add HH (.Ic 24)))) (.cons (.mut 1 .none .extend (HQ (.call 3 (HR (.blt .int (HQ HI)) (.ix (.Ic 23) (HV HI)))))) .nil))) (HX HJ)))
noncomputable def UT:bV:=(HW 2 (.lst .nil) (.cons (.Ie (.nm 3) (.seq HJ) (.cons (.mut 2 .none .extend (HQ (.call 3 (HR (.Lo .Iu (.ix (.Ic 18) HG) (HQ HI)) (.ix (.Ic 19) HG))))) .nil)) (HX HH)))
noncomputable def US:bV:=(.cons (.expr (.call 20 (HQ HG))) (HW 1 (.call 21 (HQ HG)) (HW 2 (.lst .nil) (HW 3 Ht (.cons (.K8 (.cmp .Lt HI (HV HG)) (HW 4 (.ix (.ix HJ HI) Hu) (HW 5 (.bin .Add HI (.ix (.ix HJ HI) Hx)) (.cons (.mut 2 .none .append (HQ (.tup (HR HL (.sl HG (.some HI) (.some HM)))))) (HW 3 HM .nil))))) (HX HH))))))
noncomputable def UR:bV:=(.cons (.Ie (.tp [1,2]) (.enum HG) (.cons (.ite (.cmp .NotIn HH (.ix (.Ic 18) (.Ic 17))) (.cons (.expr (.neg (.cst .Ii))) .nil) .nil) .nil)) .nil)
noncomputable def UQ:bV:=(HW 1 (.bin .Mult (.lst (HQ (.tup (HU Ht Ht Ht Ht)))) (.bin .Add (HV HG) Hv)) (HW 2 (.K5 [(15,0),(16,0),(17,0)]) (.cons (.Ie (.nm 3) (.Jf (.bin .Sub (HV HG) Hv) (.neg Hv) (.neg Hv)) (HW 4 (.lst .nil) (.cons (.Ie (.nm 5) (.seq (.blt .list (HQ HH))) (.cons (.JN 2 HM (.ite (.cmp .In (.ix HG HI) (.ix (.Ic 18) HM)) (.bin .Add (.ix HH HM) Hv) Ht)) (.cons (.mut 4 .none .extend (HQ (.call 22 (HU HJ HI HM (.ix HH HM))))) .nil))) (.cons (.Ir 1 .none HI (.blt .min2 (HQ HL))) .nil)))) (HX HJ))))
noncomputable def UP:bV:=(HW 4 (.lst .nil) (.cons (.Ie (.nm 5) (.Jq Hv (.bin .Add (.blt .min2 (HR HI (.Ic 22))) Hv)) (HW 6 (.ix HG (.bin .Add HJ HM)) (.cons (.mut 4 .none .append (HQ (.tup (HU (.bin .Add (.call 15 (HR HH HM)) (.ix HN Ht)) (.bin .Add Hv (.ix HN Hv)) HH HM)))) .nil))) (HX HL)))
noncomputable def UO:bV:=(HX (.call 27 (HR (.call 24 (HQ HG)) HJ)))
noncomputable def UN:bV:=(HW 1 (.lst .nil) (.cons (.Ie (.nm 2) (.seq (.call 19 (HQ HG))) (.cons (.mut 1 .none .extend (HQ (.call 16 (HQ HH)))) .nil)) (.cons (.mut 1 .none .extend (HQ (.call 3 (HR (.Ic 14) (.Ic 20))))) (.cons (.K8 (.cmp .NotEq (.bin .Mod (HV HJ) (.Ic 25)) Ht) (.cons (.mut 1 .none .append (HQ Ht)) .nil)) (HX (.call 25 (HQ HJ)))))))
noncomputable def UM:bV:=(HX (.comp 1 [0] (.nm 0) (.Jf Ht (HV HG) (.Ic 25)) .none (.call 4 (HQ (.sl HJ (.some HG) (.some (.bin .Add HG (.Ic 25))))))))
noncomputable def UL:bV:=(HW 1 (.lst .nil) (.cons (.Ie (.nm 2) (.seq HG) (.cons (.mut 1 .none .extend (HQ (.call 3 (HR HH (.Ic 25))))) .nil)) (HX HJ)))
noncomputable def UK:bV:=(.cons (.ite (.cmp .Gt (HV HG) HJ) (.cons (.expr (.neg (.cst .Ii))) .nil) .nil) (HW 2 (.bin .Sub HJ (HV HG)) (HX (.bin .Add HG (.comp 1 [] (.nm 0) (.Iq HH) .none (.ix (.Ic 26) (.bin .Mod HG (HV (.Ic 26)))))))))
noncomputable def UJ:bV:=(.cons (.ite (.cmp .Eq HG Ht) (HX (.cmp .Eq (.bin .Mod HJ Hu) Ht)) .nil) (.cons (.ite (.cmp .Eq HG Hv) (HX (.cmp .Eq (.bin .Mod HH Hu) Ht)) .nil) (.cons (.ite (.cmp .Eq HG Hu) (HX (.cmp .Eq (.bin .Mod (.bin .Add HJ HH) Hu) Ht)) .nil) (.cons (.ite (.cmp .Eq HG Hx) (HX (.cmp .Eq (.bin .Mod (.bin .Add HJ (.bin .Mult Hu HH)) Hx) Ht)) .nil) (.cons (.ite (.cmp .Eq HG Hy) (HX (.cmp .Eq (.bin .Mod (.bin .Add (.bin .FloorDiv HJ Hx) (.bin .FloorDiv HH Hu)) Hu) Ht)) .nil) (.cons (.ite (.cmp .Eq HG Hz) (HX (.cmp .Eq (.bin .Mod (.bin .Mod (.bin .Mult HJ HH) Hz) Hu) Ht)) .nil) (.cons (.ite (.cmp .Eq HG Hw) (HX (.cmp .Lt (.bin .Mod (.bin .Add (.bin .Mult HJ HJ) HH) Hy) Hu)) .nil) (HX (.cmp .Lt (.bin .Mod (.bin .Add HJ (.bin .Mult HH HH)) HA) Hx)))))))))
noncomputable def UI:bV:=(HW 5 (.comp 1 [1] (.nm 0) (.Iq HJ) .none (.bin .Mult (.lst (HQ Ht)) HJ)) (.cons (.Ie (.tp [4,6,7]) (.seq (.bin .Add (.call 30 (HS HJ HH HI)) (.call 31 (HS HG HJ HI)))) (.cons (.Ir 5 (.some HL) HN HK) .nil)) (HX HM)))
noncomputable def UH:bV:=(HW 3 (.bin .Add (.call 7 (HQ HG)) (.call 10 (HQ HG))) (.cons (.Ie (.tp [4,5]) (.zip (.call 11 (HQ HG)) (.call 5 (HR HJ HH))) (.cons (.mut 3 .none .append (HQ (.tup (HS (.ix HL Ht) (.ix HL Hv) HM)))) .nil)) (HX HI)))
noncomputable def UG:bV:=(HW 3 (.call 12 (HQ HJ)) (HW 4 (.call 26 (HQ HG)) (.cons (.mut 4 .none .extend (HQ (.bin .Mult (.lst (HQ Ht)) (.bin .Sub (HV HI) (HV HL))))) (HX (.comp 2 [2] (.tp [0,1]) (.zip HI HL) .none (.tup (HS (.ix HG Ht) (.ix HG Hv) (.call 32 (HS HJ HH HG)))))))))
noncomputable def UE:bV:=(.cons (.ite (.and (.cmp .IsNot HG (.cst .Ii)) (.call 28 (HS HJ (.ix HH Ht) (.ix HH Hv)))) (HX (.bin .Sub Hv HG)) .nil) (HX HG))
noncomputable def UD:bV:=(HW 2 Ht (HW 3 HG (HW 4 HJ (.cons (.K8 (.cmp .Gt HL Ht) (.cons (.ite (.cmp .Eq (.bin .Mod HL Hu) Hv) (HW 2 (.bin .BitXor HH HI) .nil) .nil) (HW 3 (.bin .Mult Hu HI) (.cons (.ite (.cmp .GtE HI (.Ic 27)) (HW 3 (.bin .BitXor HI (.Ic 28)) .nil) .nil) (HW 4 (.bin .FloorDiv HL Hu) .nil))))) (HX HH)))))
noncomputable def UC:bV:=(HW 2 Hv (HW 3 HG (HW 4 HJ (.cons (.K8 (.cmp .Gt HL Ht) (.cons (.ite (.cmp .Eq (.bin .Mod HL Hu) Hv) (HW 2 (.call 33 (HR HH HI)) .nil) .nil) (HW 3 (.call 33 (HR HI HI)) (HW 4 (.bin .FloorDiv HL Hu) .nil)))) (HX HH)))))
noncomputable def UB:bV:=(HW 2 (.bin .Mult (.lst (HQ Ht)) (.bin .Sub (.bin .Add (HV HG) (HV HJ)) Hv)) (.cons (.Ie (.tp [3,4]) (.enum HG) (.cons (.Ie (.tp [5,6]) (.enum HJ) (.cons (.Ir 2 .none (.bin .Add HI HM) (.bin .BitXor (.ix HH (.bin .Add HI HM)) (.call 33 (HR HL HN)))) .nil)) .nil)) (HX HH)))
noncomputable def UA:bV:=(HW 1 (.lst (HQ Hv)) (.cons (.Ie (.nm 2) (.seq HG) (HW 1 (.call 35 (HR HJ (.lst (HR Hv HH)))) .nil)) (HX HJ)))
noncomputable def Uz:bV:=(HX (.comp 1 [] (.nm 0) (.Jq Hv (.bin .Add HG Hv)) .none (.call 34 (HR Hu HG))))
noncomputable def Uy:bV:=(HW 2 (.call 36 (HQ (.call 37 (HQ HJ)))) (HW 3 (.bin .Add (.blt .list (HQ HG)) (.bin .Mult (.lst (HQ Ht)) HJ)) (.cons (.Ie (.nm 4) (.Iq (HV HG)) (HW 5 (.ix HI HL) (.cons (.Ie (.tp [6,7]) (.enum HH) (.cons (.Ir 3 .none (.bin .Add HL HN) (.bin .BitXor (.ix HI (.bin .Add HL HN)) (.call 33 (HR HM HK)))) .nil)) .nil))) (HX (.sl HI (.some (HV HG)) .none)))))
noncomputable def Ux:bV:=(HW 3 (.lst .nil) (HW 4 Ht (.cons (.Ie (.tp [5,6]) (.seq (.call 0 (HR HJ HH))) (HW 7 (.sl HG (.some HL) (.some (.bin .Add HL HM))) (.cons (.mut 3 .none .append (HQ (.bin .Add HK (.call 38 (HR HK HN))))) (.cons (.aug 4 .Add HM) .nil)))) (HX (.call 2 (HQ HI))))))
noncomputable def Uw:bV:=(HX (.call 29 (HU (.call 41 (HS (.call 24 (HQ HG)) HJ HH)) HJ HH HI)))
noncomputable def Uv:bV:=(HX (.call 39 (HS (.call 27 (HR HG (.call 1 (HR HJ HH)))) HJ HH)))
noncomputable def Uu:bV:=(HX (.bin .Mod (.bin .Mult (.bin .Add (.bin .Add HG (.bin .Mult HJ HJ)) Hv) HH) (HF 2305843009213693951)))
noncomputable def Ut:bV:=(HX (.call 42 (HS (.blt .sum (HQ (.comp 1 [] (.nm 0) (.seq (.sl HG .none (.some HB))) .none (.bin .Mod HG (HF 1000003))))) (.bin .Mod (HV HG) (HF 64)) HJ)))
noncomputable def Us:bV:=(HX (.ix (.lst (.cons HC (.cons HC (.cons HC (.cons (HF 19) (.cons HC (.cons HC (.cons (HF 23) (.cons HC (.cons (HF 19) (.cons HC (.cons (HF 27) (.cons HC (HU HC (HF 19) HC (HF 31))))))))))))))) (.bin .Mod HG (HF 16))))
noncomputable def WJ:bV:=(HW 0 (.cst (.str (" !\"#$&'()*+,-./0123456789:;<=>?@ABCDEFGHIJKLMNOPQRSTUVWXYZ[\\]^_`" : ul))) (HX (.bin .Add HG (.cst (.str ("abcdefghijklmnopqrstuvwxyz{|}~" : ul))))))
noncomputable def WI:bV:=(.cons (.ite (.cmp .Eq HG Hv) (HX (.cst (.str ("0123456789" : ul)))) .nil) (.cons (.ite (.cmp .Eq HG Hu) (HX (.cst (.str (" ABCDEFGHIJKLMNOPQRSTUVWXYZ.,-:/" : ul)))) .nil) (HX (.call 45 .nil))))
noncomputable def Ur:bV:=(HW 3 (.call 46 (HQ HG)) (HW 4 (.cst (.str ("" : ul))) (.cons (.Ie (.nm 5) (.Iq HH) (HW 1 (.bin .Mod (.bin .Mult (.bin .Add HJ HM) (HF 40692)) HD) (HW 4 (.bin .Add HL (.ix HI (.bin .Mod (.bin .FloorDiv HJ HA) (HV HI)))) .nil))) (HX HL))))
noncomputable def Uq:bV:=(HW 2 (.cst (.str ("" : ul))) (.cons (.Ie (.nm 3) (.Iq (HV HG)) (HW 4 (.call 42 (HS (.ix HG HI) HI (HF 1234567890123456789))) (HW 5 (.bin .Add Hv (.bin .Mod (.bin .FloorDiv HL Hx) (HF 9))) (.cons (.ite (.cmp .Eq (.bin .Mod (.bin .FloorDiv HL (HF 27)) HA) Hv) (HW 5 (.bin .Add Hv (.bin .Mod (.bin .FloorDiv HL (HF 189)) (HF 40))) .nil) .nil) (HW 2 (.bin .Add HH (.call 47 (HS (.bin .Add Hv (.bin .Mod HL Hx)) (.bin .Mod (.bin .FloorDiv HL (HF 7560)) HD) HM))) .nil))))) (HX (.sl HH .none (.some HJ)))))
noncomputable def WH:bV:=(.cons (.ite HJ (HX (.blt .min2 (HR (HF 100) (.bin .Mult Hx (.bin .FloorDiv (.bin .Sub (.bin .Sub (.bin .Mult Hw HG) Hu) (.bin .Mult HE (.bin .Add Hv (.bin .FloorDiv HG (HF 30))))) (HF 10)))))) .nil) (HX (.bin .FloorDiv (.bin .Sub (.bin .Sub (.bin .Mult Hw HG) Hu) (.bin .Mult HE (.bin .Add Hv (.bin .FloorDiv HG (HF 75))))) HA)))
noncomputable def Up:bV:=(HW 3 (.bin .Mod (.bin .FloorDiv HJ (HF 16)) Hy) (HW 4 (.call 1 (HR HH HI)) (.cons (.ite (.cmp .Eq (.bin .Mod (.bin .FloorDiv HJ (HF 64)) Hy) Hv) (HW 5 (.call 49 (HR HL (.cst (.bl δ)))) (HW 6 (.bin .Add (.sl HG .none (.some HB)) (.lst (HQ HJ))) (HW 7 (.sl (.Lo .JM (.cst (.str ("" : ul))) (HQ (.comp 1 [6] (.nm 0) (.Iq (HV HN)) .none (.call 47 (HS Hv (.bin .Add (.bin .Mod (.ix HJ HG) HD) HG) HE))))) .none (.some HM)) .nil))) (HW 5 (.call 49 (HR HL (.cst (.bl γ)))) (HW 7 (.call 48 (HR (.bin .Add (.sl HG .none (.some HB)) (.lst (HQ HJ))) (.bin .Sub HM (.bin .Mod (.bin .FloorDiv HJ (HF 256)) (.bin .Add Hv (.bin .FloorDiv HM Hu)))))) .nil))) (HX (.tup (HS HK HI (.bin .Mod (.bin .FloorDiv HJ (HF 4096)) HE)))))))
noncomputable def WG:bV:=(HX (.and (.blt (.Lq "int") (HQ HG)) (.not (.blt (.Lq "bool") (HQ HG)))))
noncomputable def Uo:bV:=(HW 4 (.cst .Ii) (.cons (.ite (.cst (.bl δ)) (HW 4 (.call 40 (HU HG HJ HH HI)) .nil) .nil) (HX HL)))
noncomputable def E4:bV:=.cons (.expr z6) (.cons (.ret (.app xC (.cons HG (HU HJ HH HI HL)))) .nil)
noncomputable def Um:bV:=(.cons (.ite (.or (.not (.blt (.Lq "list") (HQ HG))) (.cmp .NotEq (HV HG) HJ)) (HX (.cst (.bl γ))) .nil) (.cons (.Ie (.nm 2) (.seq HG) (.cons (.ite (.or (.not (.blt (.Lq "list") (HQ HH))) (.or (.cmp .NotEq (HV HH) HJ) (.not (.blt .all (HQ (.comp 1 [] (.nm 0) (.seq HH) .none (.call 51 (HQ HG)))))))) (HX (.cst (.bl γ))) .nil) .nil)) (HX (.cst (.bl δ)))))
noncomputable def Ul:bV:=(HW 1 (.call 43 (HR HG (HF 654321987654321987))) (HW 2 (.call 44 (HQ HJ)) (.cons (.asg (.tp [3,4,5]) (.call 50 (HS HG HJ HH)) γ) (HW 6 (.call 1 (HR HH HL)) (HW 7 (.call 52 (HU HI HH HL HM)) (HW 8 (.call 29 (HU (.call 39 (HS (.call 23 (HR HI HN)) HH HL)) HH HL HM)) (.cons (.ite (.or (.not (.call 54 (HR HK HH))) (.cmp .NotEq HK (.var 8))) (HX (.cst (.bl γ))) .nil) (.cons (.Ir 7 (.some Ht) Ht Hz) (.cons (.mut 7 .none .append (HQ (.lst .nil))) (.cons (.ite (.and (.cmp .Lt HH (HF 20)) (.cmp .NotEq (.call 52 (HU HI HH HL HM)) (.var 8))) (HX (.cst (.bl γ))) .nil) (.cons (.ite (.cmp .Eq (.bin .Mod (.bin .FloorDiv HJ (HF 32768)) Hz) Hv) (HW 9 (.bin .Mod (.bin .FloorDiv HJ (HF 163840)) (.bin .Add (HV HI) Hv)) (HW 10 (.bin .Add (.bin .Add (.sl HI .none (.some (.var 9))) (.ix (.lst (HR (.cst (.str ("\n" : ul))) (.cst (.str ("\t" : ul))))) (.bin .Mod (.bin .FloorDiv HJ HA) Hu))) (.sl HI (.some (.var 9)) .none)) (HX (.and (.call 53 (.cons (.var 10) (HU HH HL HM (.var 9)))) (.call 53 (.cons (.bin .Add (.var 10) (.bin .Mult (.cst (.str ("~" : ul))) (HF 99))) (HU HH HL HM (.var 9)))))))) .nil) (HX (.call 53 (.cons (.bin .Mult (.cst (.str ("~" : ul))) (.bin .Add Hv (.bin .FloorDiv (.bin .Mult Hw HN) HA))) (HU HH HL HM (.cst .Ii))))))))))))))))
noncomputable def fns:List Fn:=[⟨2,9,b0⟩,⟨2,2,b1⟩,⟨1,4,b2⟩,⟨2,2,b3⟩,⟨1,3,b4⟩,⟨2,3,b5⟩,⟨2,2,b6⟩,⟨1,5,b7⟩,⟨3,4,b8⟩,⟨2,3,b9⟩,⟨1,4,WM⟩,⟨1,3,WL⟩,⟨1,2,UZ⟩,⟨1,6,UY⟩,⟨1,7,UX⟩,⟨2,3,WK⟩,⟨1,4,UW⟩,⟨1,4,UU⟩,⟨2,4,UT⟩,⟨1,6,US⟩,⟨1,3,UR⟩,⟨1,6,UQ⟩,⟨4,7,UP⟩,⟨2,2,UO⟩,⟨1,3,UN⟩,⟨1,1,UM⟩,⟨1,3,UL⟩,⟨2,3,UK⟩,⟨3,3,UJ⟩,⟨4,8,UI⟩,⟨3,6,UH⟩,⟨3,5,UG⟩,⟨3,3,UE⟩,⟨2,5,UD⟩,⟨2,5,UC⟩,⟨2,7,UB⟩,⟨1,3,UA⟩,⟨1,1,Uz⟩,⟨2,8,Uy⟩,⟨3,8,Ux⟩,⟨4,4,Uw⟩,⟨3,3,Uv⟩,⟨3,3,Uu⟩,⟨2,2,Ut⟩,⟨1,1,Us⟩,⟨0,1,WJ⟩,⟨1,1,WI⟩,⟨3,6,Ur⟩,⟨2,6,Uq⟩,⟨2,2,WH⟩,⟨3,8,Up⟩,⟨1,1,WG⟩,⟨4,6,Uo⟩,⟨5,6,E4⟩,⟨2,3,Um⟩,⟨1,11,Ul⟩]
noncomputable def gl:Nat->D
 |0=>.JI [(.inl 15,ζ 16),(.inl 19,ζ 37),(.inl 23,ζ 64),(.inl 27,ζ 96),(.inl 31,ζ 133)]
 |1=>.JI [(.inl 15,ζ 1),(.inl 19,ζ 1),(.inl 23,ζ 2),(.inl 27,ζ 2),(.inl 31,ζ 3)]
 |2=>.int 8
 |3=>.int 16
 |4=>.int 4
 |5=>.int 1
 |6=>.int 0
 |7=>.int 5
 |8=>.tup [.int 1,.int 0,.int 1]
 |9=>.tup [.int 1,.int 1,.int 0]
 |10=>.tup [.int 0,.int 1,.int 0]
 |11=>.int 5
 |12=>.int 8
 |13=>.int 3
 |14=>.int 0
 |15=>.int 1
 |16=>.int 2
 |17=>.int 3
 |18=>.tup [.str "",.str (KS 1),.str (KS 2),.str (KS 3)]
 |19=>.tup [.int 0,.int 0,.int 5,.int 7]
 |20=>.int 2
 |21=>.int 6
 |22=>.int 64
 |23=>.tup [.int 0,.int 4,.int 7,.int 10]
 |24=>.int 3
 |25=>.int 6
 |26=>.tup [.int 42,.int 21]
 |27=>.int 64
 |28=>.int 67
 |_=>.Ii
noncomputable abbrev T(n:Nat):Tb:=⟨Pc.run fns gl 1000 n,gl,1000⟩
theorem fN(n:Nat):(T n).cl=Pc.run fns gl 1000 n:=rfl
theorem up{f:Nat}{ds:List D}{r:D×Bool}{k:Nat}(h:∀n,Pc.run fns gl 1000 (n+k) f ds=.ok r)(m:Nat)(hm:k<=m:=by omega):(T m).cl f ds=.ok r:=by
 obtain⟨n,rfl⟩:=iy hm;rw[fh];exact h n
end K40
end
section
namespace K40
open PySem PySem.Spec PyProof.Rows L2 Pc
noncomputable def dG:List Str:=["range","len","isinstance","int","bool","list","min","max","sorted","all","sum","enumerate","zip","ValueError"]
noncomputable def sY:List Str:=["ROOMS","BLOCK_COUNTS","MASKS","LABEL_CELLS","WEIGHTS","DARK","LIGHT","MARK_SIDE","UPPER_LEFT","UPPER_RIGHT","LOWER","LABEL_LINE","LABEL_HALF","STRIP_ROWS","END","FIGURES","CAPITALS","ANY","KIND_SIGNS","SIGN_BITS","KIND_BITS","COUNT_BITS","MOST_SIGNS","FIGURE_BITS","MOST_FIGURES","GRAIN_BITS","FILLING","GRAINS","FOLD"]
noncomputable def df0:Df:=⟨"block_shapes",st 3,["size","level"],["size","level","blocks","share","rest","checks","shapes","block","grains"],b0⟩
noncomputable def df1:Df:=⟨"data_room",st 4,["size","level"],["size","level"],b1⟩
noncomputable def df2:Df:=⟨"dealt_rows",st 5,["rows"],["rows","dealt","row","turn"],b2⟩
noncomputable def df3:Df:=⟨"bits_of",st 11,["number","count"],["number","count"],b3⟩
noncomputable def df4:Df:=⟨"number_of",st 12,["bits"],["bits","number","bit"],b4⟩
noncomputable def df5:Df:=⟨"label_bits",st 17,["level","mask"],["level","mask","number"],b5⟩
noncomputable def df6:Df:=⟨"shared_ones",st 18,["first","second"],["first","second"],b6⟩
noncomputable def df7:Df:=⟨"mark_cells",st 29,["size"],["size","lines","cells","row","column"],b7⟩
noncomputable def df8:Df:=⟨"mark_cell",st 30,["size","row","column"],["size","row","column","depth"],b8⟩
noncomputable def df9:Df:=⟨"mark_depth",st 31,["size","line"],["size","line","step"],b9⟩
noncomputable def Ud:Df:=⟨"ruler_cells",st 32,["size"],["size","cells","line","cell"],WM⟩
noncomputable def Uc:Df:=⟨"label_places",st 33,["size"],["size","across","upwards"],WL⟩
noncomputable def Ub:Df:=⟨"data_places",st 34,["size"],["size","taken"],UZ⟩
noncomputable def Ua:Df:=⟨"taken_places",st 35,["size"],["size","taken","row","column","cell","place"],UY⟩
noncomputable def T9:Df:=⟨"strip_places",st 36,["size"],["size","places","leftwards","top","step","column","row"],UX⟩
noncomputable def T8:Df:=⟨"piece_length",st 49,["kind","count"],["kind","count","head"],WK⟩
noncomputable def T7:Df:=⟨"piece_bits",st 50,["piece"],["piece","kind","signs","head"],UW⟩
noncomputable def T6:Df:=⟨"figures_bits",st 51,["signs"],["signs","bits","start","figures"],UU⟩
noncomputable def T5:Df:=⟨"signs_bits",st 52,["kind","signs"],["kind","signs","bits","sign"],UT⟩
noncomputable def rP:Df:=⟨"cut_text",st 54,["text"],["text","cuts","pieces","start","kind","end"],US⟩
noncomputable def yj:Df:=⟨"refuse_strange_signs",st 55,["text"],["text","place","sign"],UR⟩
noncomputable def T4:Df:=⟨"best_cuts",st 56,["text"],["text","cuts","runs","start","choices","kind"],UQ⟩
noncomputable def T3:Df:=⟨"cuts_of_kind",st 57,["cuts","start","kind","run"],["cuts","start","kind","run","choices","count","rest"],UP⟩
noncomputable def T1:Df:=⟨"text_grains",st 61,["text","room"],["text","room"],UO⟩
noncomputable def uJ:Df:=⟨"bare_grains",st 62,["text"],["text","bits","piece"],UN⟩
noncomputable def TZ:Df:=⟨"grains_of_bits",st 63,["bits"],["bits"],UM⟩
noncomputable def TY:Df:=⟨"bits_of_grains",st 64,["grains"],["grains","bits","grain"],UL⟩
noncomputable def zo:Df:=⟨"filled_grains",st 65,["grains","room"],["grains","room","lacking"],UK⟩
noncomputable def TX:Df:=⟨"turns_over",st 67,["mask","row","column"],["mask","row","column"],UJ⟩
noncomputable def Gc:Df:=⟨"laid_square",st 69,["grains","size","level","mask"],["grains","size","level","mask","row","square","column","cell"],UI⟩
noncomputable def TV:Df:=⟨"floor_cells",st 70,["size","level","mask"],["size","level","mask","cells","place","bit"],UH⟩
noncomputable def TU:Df:=⟨"laid_cells",st 71,["grains","size","mask"],["grains","size","mask","places","bits"],UG⟩
noncomputable def TR:Df:=⟨"masked_cell",st 72,["cell","mask","place"],["cell","mask","place"],UE⟩
noncomputable def TQ:Df:=⟨"times_of",st 76,["a","b"],["a","b","product","doubled","left"],UD⟩
noncomputable def TM:Df:=⟨"power_of",st 77,["a","k"],["a","k","power","squared","left"],UC⟩
noncomputable def TL:Df:=⟨"row_product",st 79,["first","second"],["first","second","product","place","grain","step","other"],UB⟩
noncomputable def TK:Df:=⟨"row_with_noughts",st 80,["noughts"],["noughts","row","nought"],UA⟩
noncomputable def TJ:Df:=⟨"code_noughts",st 82,["count"],["count"],Uz⟩
noncomputable def TH:Df:=⟨"checks_for",st 83,["data","count"],["data","count","divisor","rest","place","factor","step","grain"],Uy⟩
noncomputable def FN:Df:=⟨"wrapped_grains",st 85,["data","size","level"],["data","size","level","rows","start","count","checks","part"],Ux⟩
noncomputable def jG:Df:=⟨"written_at",st 87,["text","size","level","mask"],["text","size","level","mask"],Uw⟩
noncomputable def xq:Df:=⟨"wrapped_text",st 88,["grains","size","level"],["grains","size","level"],Uv⟩
noncomputable def TF:Df:=⟨"_law_mix",st 90,["_law_cell","_law_k","_law_factor"],["_law_cell","_law_k","_law_factor"],Uu⟩
noncomputable def TB:Df:=⟨"_law_salt",st 91,["_law_script","_law_factor"],["_law_script","_law_factor"],Ut⟩
noncomputable def Tz:Df:=⟨"_law_size",st 92,["_law_m"],["_law_m"],Us⟩
noncomputable def Tw:Df:=⟨"_law_all",st 93,[],["_law_some"],WJ⟩
noncomputable def Tu:Df:=⟨"_law_known",st 94,["_law_kind"],["_law_kind"],WI⟩
noncomputable def Tt:Df:=⟨"_law_signs",st 95,["_law_kind","_law_m","_law_count"],["_law_kind","_law_m","_law_count","_law_some","_law_signs_here","_law_k"],Ur⟩
noncomputable def Ts:Df:=⟨"_law_text",st 96,["_law_cells","_law_most_here"],["_law_cells","_law_most_here","_law_text_here","_law_k","_law_m","_law_count"],Uq⟩
noncomputable def Tr:Df:=⟨"_law_most",st 97,["_law_room","_law_figures"],["_law_room","_law_figures"],WH⟩
noncomputable def Tq:Df:=⟨"_law_case",st 98,["_law_script","_law_salt_here","_law_size_here"],["_law_script","_law_salt_here","_law_size_here","_law_level","_law_room","_law_most_here","_law_cells","_law_text_here"],Up⟩
noncomputable def rB:Df:=⟨"_law_whole",st 99,["_law_thing"],["_law_thing"],WG⟩
noncomputable def jB:Df:=⟨"_law_told",st 100,["_law_text_here","_law_size_here","_law_level","_law_mask"],["_law_text_here","_law_size_here","_law_level","_law_mask","_law_told_here","e"],Uo⟩
noncomputable def qf:Df:=⟨"_law_refused",st 101,["_law_text_here","_law_size_here","_law_level","_law_mask","_law_place"],["_law_text_here","_law_size_here","_law_level","_law_mask","_law_place","_law_told_here"],E4⟩
noncomputable def Tp:Df:=⟨"_law_right",st 102,["_law_square","_law_size_here"],["_law_square","_law_size_here","_law_row"],Um⟩
noncomputable def Fu:Df:=⟨"law",st 103,["_law_script"],["_law_script","_law_salt_here","_law_size_here","_law_text_here","_law_level","_law_mask","_law_room","_law_found","_law_due","_law_at","_law_odd"],Ul⟩
noncomputable def p:Pg:=⟨[df0,df1,df2,df3,df4,df5,df6,df7,df8,df9,Ud,Uc,Ub,Ua,T9,T8,T7,T6,T5,rP,yj,T4,T3,T1,uJ,TZ,TY,zo,TX,Gc,TV,TU,TR,TQ,TM,TL,TK,TJ,TH,FN,jG,xq,TF,TB,Tz,Tw,Tu,Tt,Ts,Tr,Tq,rB,jB,qf,Tp,Fu],sY,dG,gl,1000⟩
noncomputable def Hn:List Str:=["_law_refused"]
theorem ok:u5 (Df.LI p Hn) p.J9:=by
 refine⟨?x0,?x1,?x2,?x3,?x4,?x5,?x6,?x7,?x8,?x9,?x10,?x11,?x12,?x13,?x14,?x15,?x16,?x17,?x18,?x19,?x20,?x21,?x22,?x23,?x24,?x25,?x26,?x27,?x28,?x29,?x30,?x31,?x32,?x33,?x34,?x35,?x36,?x37,?x38,?x39,?x40,?x41,?x42,?x43,?x44,?x45,?x46,?x47,?x48,?x49,?x50,?x51,?x52,?x53,?x54,?x55,trivial⟩
 case x45=>exact .inl (Df.JO (n:=60) (by decide +kernel) rfl (λ_ _ _ _ _ _ us hl=>@len0 (λus=>UF _ ⟨us,[]⟩=pure (XT _ us)) us hl rfl))
 case x2|x4|x7|x10|x11|x12|x13|x14|x16|x17|x19|x20|x21|x24|x25|x26|x36|x37|x44|x46|x51|x55=>exact .inl (Df.JO (n:=60) (by decide +kernel) rfl (λ_ _ _ _ _ _ us hl=>@F8 (λus=>UF _ ⟨us,[]⟩=pure (XT _ us)) us hl (λ_=>rfl)))
 case x0|x1|x3|x5|x6|x9|x15|x18|x23|x27|x33|x34|x35|x38|x43|x48|x49|x54=>exact .inl (Df.JO (n:=60) (by decide +kernel) rfl (λ_ _ _ _ _ _ us hl=>@D5 (λus=>UF _ ⟨us,[]⟩=pure (XT _ us)) us hl (λ_ _=>rfl)))
 case x8|x28|x30|x31|x32|x39|x41|x42|x47|x50=>exact .inl (Df.JO (n:=60) (by decide +kernel) rfl (λ_ _ _ _ _ _ us hl=>@Gp (λus=>UF _ ⟨us,[]⟩=pure (XT _ us)) us hl (λ_ _ _=>rfl)))
 case x22|x29|x40|x52=>exact .inl (Df.JO (n:=60) (by decide +kernel) rfl (λ_ _ _ _ _ _ us hl=>@G9 (λus=>UF _ ⟨us,[]⟩=pure (XT _ us)) us hl (λ_ _ _ _=>rfl)))
 case x53=>exact .inr ⟨(λ_ _ _ _ _ _ us hl=>@QJ (λus=>UF _ ⟨us,[]⟩=pure (XT _ us)) us hl (λ_ _ _ _ _=>rfl)),.head _⟩
end K40
end
section
variable {c:List Nat}
namespace Om
inductive T
  |k (n:Nat)
  |v (i:Nat)
  |a (x y:T)
  |l (n:Nat) (x:T)
  |r (x:T) (n:Nat)
noncomputable def T.ev(c:List Nat):T->Nat
  |.k n=>n
  |.v i=>c.getD i 0
  |.a x y=>x.ev c+y.ev c
  |.l n x=>n*x.ev c
  |.r x n=>x.ev c*n
noncomputable def ad:List Nat->List Nat->List Nat
  |[],y=>y
  |x::s,[]=>x::s
  |x::s,y::t=>(x+y)::ad s t
noncomputable def sm(n:Nat):List Nat->List Nat
  |[]=>[]
  |x::s=>(n*x)::sm n s
noncomputable def un:Nat->List Nat
  |0=>[1]
  |n+1=>0::un n
noncomputable def dt:List Nat->List Nat->Nat
  |[],_=>0
  |_,[]=>0
  |x::s,y::t=>x*y+dt s t
noncomputable def T.ln:T->List Nat
  |.k n=>[n]
  |.v i=>un (i+1)
  |.a x y=>ad x.ln y.ln
  |.l n x=>sm n x.ln
  |.r x n=>sm n x.ln
theorem iK(t:List Nat):dt [] t=0:=by cases t<;>rfl
theorem nh:∀x y t:List Nat,dt (ad x y) t=dt x t+dt y t
  |[],y,t=>by rw[ad,iK,fg]
  |x::s,[],t=>by rw[ad,iK,Ğ]
  |x::s,y::u,[]=>rfl
  |x::s,y::u,z::t=>by rw[ad,dt,dt,dt,nh s u t,Nat.add_mul];omega
theorem pR(n:Nat):∀x t:List Nat,dt (sm n x) t=n*dt x t
  |[],t=>by rw[sm,iK,ġ]
  |x::s,[]=>rfl
  |x::s,y::t=>by rw[sm,dt,dt,pR n s t,ZG,ď]
theorem CJ:∀(i:Nat) (t:List Nat),dt (un i) t=t.getD i 0
  |0,[]=>rfl
  |0,x::t=>by rw[un,dt,iK,ĭ];rfl
  |i+1,[]=>rfl
  |i+1,x::t=>by rw[un,dt,CJ i t,Ģ,fg];rfl
theorem ki(c:List Nat):∀t:T,dt t.ln (1::c)=t.ev c
  |.k n=>by rw[T.ln,dt,iK,ZH];rfl
  |.v i=>by rw[T.ln,CJ];rfl
  |.a x y=>by rw[T.ln,nh,ki c x,ki c y];rfl
  |.l n x=>by rw[T.ln,pR,ki c x];rfl
  |.r x n=>by rw[T.ln,pR,ki c x,ĕ];rfl
noncomputable def ge:List Nat->List Nat->Bool
  |_,[]=>δ
  |[],y::t=>Nat.beq y 0&&ge [] t
  |x::s,y::t=>Xw y x&&ge s t
theorem yr:∀{x y:List Nat}(t:List Nat),ge x y=δ->dt y t<=dt x t
  |_,[],t,_=>by rw[iK];exact cf _
  |[],y::s,[],_=>ao _
  |[],y::s,z::t,h=>by
   have h:=(ai _ _).mp h;have e:=Nat.eq_of_beq_eq_true h.1;have:=yr t h.2;rw[iK]at this;rw[iK,e,show dt (0::s) (z::t)=0*z+dt s t from rfl,Ģ,fg];exact this
  |x::s,y::u,[],_=>ao _
  |x::s,y::u,z::t,h=>by
   have h:=(ai _ _).mp h;exact ā (ZI _ (ay h.1)) (yr t h.2)
noncomputable abbrev Row:=List Nat×List Nat
def Ok(c:List Nat)(r:Row):Prop:=dt r.1 (1::c)<=dt r.2 (1::c)
noncomputable def vC(c:List Nat):List Row->Prop
  |[]=>True
  |r::s=>Ok c r/\vC c s
noncomputable def F5:List Row->List Nat->Row
  |r::s,n::t=>let q:=F5 s t;(ad (sm n r.1) q.1,ad (sm n r.2) q.2)
  |_,_=>([],[])
theorem v8:∀(s:List Row) (t:List Nat),vC c s->Ok c (F5 s t)
  |r::s,n::t,h=>by
   have h2:=v8 s t h.2;unfold Ok at h2 ⊢;rw[F5];dsimp only;rw[nh,nh,pR,pR];exact ā (g8 _ h.1) h2
  |[],_,_=>ao _
  |_::_,[],_=>ao _
noncomputable def bad(s:List Row)(t:List Nat):Bool:=match F5 s t with
  | (x::l,r)=>ge (x::l) (ad [1] r)
  |_=>γ
variable {s:List Row}
theorem ET{t:List Nat}(h:vC c s)(b:bad s t=δ):False:=by
 have q:=v8 s t h;unfold bad at b;unfold Ok at q;generalize F5 s t=z at q b;obtain⟨l,r⟩:=z;cases l with
 |nil=>cases b
 |cons x l=>
  have:=yr (1::c) b;rw[nh]at this;have e:dt [1] (1::c)=1:=rfl;dsimp only at q;omega
inductive P
  |le (x y:T)
  |lt (x y:T)
  |eq (x y:T)
  |J6 (x y:T)
  |L9 (x y:T)
  |OZ (x y:T)
  |no
noncomputable def P.tr(c:List Nat):P->Prop
  |.le x y=>x.ev c<=y.ev c
  |.lt x y=>x.ev c<y.ev c
  |.eq x y=>x.ev c=y.ev c
  |.J6 x y=>¬ x.ev c<=y.ev c
  |.L9 x y=>¬ x.ev c<y.ev c
  |.OZ x y=>¬ x.ev c=y.ev c
  |.no=>False
noncomputable def lr(x y:T):Row:=(x.ln,y.ln)
noncomputable def sr(x y:T):Row:=(ad [1] x.ln,y.ln)
variable {x y:T}
theorem tW:Ok c (lr x y)↔x.ev c<=y.ev c:=by unfold Ok lr;rw[ki,ki]
theorem Ci:Ok c (sr x y)↔x.ev c<y.ev c:=by
 unfold Ok sr;rw[ki,nh,ki,show dt [1] (1::c)=1 from rfl,fh];exact Iff.rfl
noncomputable def P.rows:P->List Row
  |.le x y=>[lr x y]
  |.lt x y=>[sr x y]
  |.eq x y=>[lr x y,lr y x]
  |.J6 x y=>[sr y x]
  |.L9 x y=>[lr y x]
  |_=>[]
theorem vC.app:∀{s t:List Row},vC c s->vC c t->vC c (s++t)
  |[],_,_,h=>h
  |_::_,_,h,k=>⟨h.1,vC.app h.2 k⟩
theorem um:∀{p:P},p.tr c->vC c p.rows
  |.le _ _,h=>⟨tW.mpr h,trivial⟩
  |.lt _ _,h=>⟨Ci.mpr h,trivial⟩
  |.eq _ _,h=>⟨tW.mpr (i6 h),tW.mpr (i6 (Eq.symm h)),trivial⟩
  |.J6 _ _,h=>⟨Ci.mpr (Ä h),trivial⟩
  |.L9 _ _,h=>⟨tW.mpr (dw h),trivial⟩
  |.OZ _ _,_=>trivial
  |.no,_=>trivial
noncomputable def P.no? : P->List P
  |.le x y=>[.lt y x]
  |.lt x y=>[.le y x]
  |.eq x y=>[.lt x y,.lt y x]
  |.J6 x y=>[.le x y]
  |.L9 x y=>[.lt x y]
  |.OZ x y=>[.eq x y]
  |.no=>[.le (.k 0) (.k 0)]
theorem Hg:∀{p:P},(∀q∈p.no?,¬ q.tr c)->p.tr c
  |.le _ _,h=>dw (h _ (.head _))
  |.lt _ _,h=>Ä (h _ (.head _))
  |.eq _ _,h=>Ê (dw (h _ (.tail _ (.head _)))) (dw (h _ (.head _)))
  |.J6 _ _,h=>h _ (.head _)
  |.L9 _ _,h=>h _ (.head _)
  |.OZ _ _,h=>h _ (.head _)
  |.no,h=>(h _ (.head _)) (ao _)
noncomputable def goal(s:List Row):List P->List (List Nat)->Bool
  |[],_=>δ
  |q::g,t::u=>bad (q.rows++s) t&&goal s g u
  |_::_,[]=>γ
theorem t5(h:vC c s):∀{g:List P}{u:List (List Nat)},goal s g u=δ->∀q∈g,¬ q.tr c
  |[],_,_,_,hq=>nomatch hq
  |q::g,t::u,b,p,hp=>by
   have b:=(ai _ _).mp b;cases hp with
   |head=>exactλz=>ET (vC.app (um z) h) b.1
   |tail _ hp=>exact t5 h b.2 p hp
  |_::_,[],b,_,_=>nomatch b
noncomputable def imp(c:List Nat):List P->P->Prop
  |[],g=>g.tr c
  |h::s,g=>h.tr c->imp c s g
noncomputable def rs(s:List Row):List P->List Row
  |[]=>s
  |h::t=>rs (h.rows++s) t
theorem gO{g:P}{u:List (List Nat)}:∀(hs:List P) (s:List Row),vC c s->goal (rs s hs) g.no? u=δ->imp c hs g
  |[],_,h,b=>Hg (t5 h b)
  |_::t,_,h,b=>λz=>gO t _ (vC.app (um z) h) b
noncomputable def CH(hs:List P)(g:P)(u:List (List Nat)):Bool:=goal (rs [] hs) g.no? u
instance iA:Add T:=⟨.a⟩
instance iN(n:Nat):OfNat T n:=⟨.k n⟩
end Om
theorem O0(hs:List Om.P)(g:Om.P)(u:List (List Nat))(h:Om.CH hs g u=δ):Om.imp [] hs g:=Om.gO hs [] trivial h
variable {x0:Nat}
theorem O1(hs:List Om.P)(g:Om.P)(u:List (List Nat))(h:Om.CH hs g u=δ):Om.imp [x0] hs g:=Om.gO hs [] trivial h
variable {x1:Nat}
theorem O2(hs:List Om.P)(g:Om.P)(u:List (List Nat))(h:Om.CH hs g u=δ):Om.imp [x0,x1] hs g:=Om.gO hs [] trivial h
variable {x2:Nat}
theorem O3(hs:List Om.P)(g:Om.P)(u:List (List Nat))(h:Om.CH hs g u=δ):Om.imp [x0,x1,x2] hs g:=Om.gO hs [] trivial h
variable {x3:Nat}
theorem O4(hs:List Om.P)(g:Om.P)(u:List (List Nat))(h:Om.CH hs g u=δ):Om.imp [x0,x1,x2,x3] hs g:=Om.gO hs [] trivial h
variable {x4:Nat}
theorem O5(hs:List Om.P)(g:Om.P)(u:List (List Nat))(h:Om.CH hs g u=δ):Om.imp [x0,x1,x2,x3,x4] hs g:=Om.gO hs [] trivial h
variable {x5:Nat}
theorem O6(hs:List Om.P)(g:Om.P)(u:List (List Nat))(h:Om.CH hs g u=δ):Om.imp [x0,x1,x2,x3,x4,x5] hs g:=Om.gO hs [] trivial h
theorem O7{x6:Nat}(hs:List Om.P)(g:Om.P)(u:List (List Nat))(h:Om.CH hs g u=δ):Om.imp [x0,x1,x2,x3,x4,x5,x6] hs g:=Om.gO hs [] trivial h
variable {a b:Nat}
theorem zT:a-b<=a:=Ņ a b
theorem Dd:a<=a-b+b:=by omega
theorem lV(h:b<=a):a-b+b=a:=ä h
variable {k:Nat}
theorem mq:k*(a / k)<=a:=Nat.mul_div_le a k
theorem E3(h:Xw 1 k=δ):a<k*(a / k)+k:=Nat.lt_mul_div_succ a (ay h)
theorem WR(h:Xw 1 k=δ):a%k<k:=i5 a (ay h)
theorem Fq:min a b<=a:=Nat.min_le_left a b
theorem WQ:min a b<=b:=gb a b
abbrev aD:Om.T:=.v 0
abbrev aH:Om.T:=.v 1
abbrev aO:Om.T:=.v 2
abbrev cA:Om.T:=.v 3
abbrev iB:Om.T:=.v 4
abbrev zR:Om.T:=.v 5
abbrev PB:Om.T:=.v 6
abbrev Ol:=Om.T.l
abbrev Oq:=Om.T.r
end
section
namespace K40
open PySem Pc Pc.Sm Pc.Gr Pc.Lw Pc.Vw Fl64
variable {a:Nat}
theorem n5(h:a<5):a=0\/a=1\/a=2\/a=3\/a=4:=by omega
theorem n4(h:a<4):a=0\/a=1\/a=2\/a=3:=by omega
noncomputable abbrev cW(a:Nat):D:=.int (15+4*(a:Int))
noncomputable abbrev sz(a:Nat):Nat:=15+4*a
noncomputable def rg(n:Nat):D->Bool
 |.int i=>decide (0<=i/\i<n)
 |_=>γ
noncomputable def FP:D->Bool
 |.int _=>δ
 |_=>γ
noncomputable def pl(n:Nat):D->Bool
 |.tup [r,c]=>rg n r&&rg n c
 |_=>γ
noncomputable def ce(n:Nat):D->Bool
 |.tup [r,c,v]=>rg n r&&rg n c&&FP v
 |_=>γ
variable {d:D}{n:Nat}
theorem oV(h:rg n d=δ):∃i:Nat,d=.int (i:Int)/\i<n:=by
 cases d with
 |int i=>have h:=bg h;exact⟨i.toNat,by rw[Z5 h.1],by omega⟩
 |_=>cases h
theorem ui(h:FP d=δ):∃i:Int,d=.int i:=by
 cases d with
 |int i=>exact⟨i,rfl⟩
 |_=>cases h
noncomputable def vP(f:D->Bool)(n m:Nat):Rs (D×Bool)->Bool
 |.ok (.lst l,δ)=>l.all f&&Xw n l.length&&Xw l.length m
 |_=>γ
theorem DI{f:D->Bool}{m:Nat}{r:Rs (D×Bool)}(h:vP f n m r=δ):∃l,r=.ok (.lst l,δ)/\(∀d∈l,f d=δ)/\n<=l.length/\l.length<=m:=by
 unfold vP at h;split at h
 .rename_i l;rw[ai,ai]at h;exact⟨l,rfl,cq.mp h.1.1,ay h.1.2,ay h.2⟩
 .cases h
variable {b:Nat}
theorem r0(ha:a<5)(hb:b<4)(n:Nat):Pc.run fns gl 1000 (n+1) 0 [cW a,.int (b:Int)]=.ok (.lst ((SH a b).map λs=>.tup [.int (s.1:Int),.int (s.2:Int)]),δ):=by
 rcases n5 ha with rfl|rfl|rfl|rfl|rfl<;>rcases n4 hb with rfl|rfl|rfl|rfl<;>kernel_rfl
theorem r1(ha:a<5)(hb:b<4)(n:Nat):Pc.run fns gl 1000 (n+2) 1 [cW a,.int (b:Int)]=.ok (.int (RM a b:Nat),δ):=by
 rcases n5 ha with rfl|rfl|rfl|rfl|rfl<;>rcases n4 hb with rfl|rfl|rfl|rfl<;>kernel_rfl
end K40
end
section
namespace Pc.Vw
open PySem Pc Pc.Sm Pc.Gr Pc.Lw Fl64
variable {R:List Nat}{ws:List (Option D)}{ys:List D}
section
variable {T:Tb}{env:En}{vs:Vs}{Q:Fl->Prop}{r b:bV}{d:D}{i j k x n:Nat}{e:Ex}{l:List D}{t:kh}{it:oY}{w:Bool}
theorem PK(hit:cU T it env=.ok (l,R))(V:Tv (Pc.lock R env) vs)(J:Vs->Prop)(j:J vs)(hs:∀d∈l,∀us e,J us->Tv e us->∃e1,bP R t d e=ζ e1/\Wp T b e1 (Nx J))(k:∀e us,J us->Tv e us->Wp T r e Q):Wp T (.cons (.Ie t it b) r) env Q:=
 lG (α:=D) (g:=id) (l:=l) (λm us=>(∀d∈m,d∈l)/\J us) (by rw[ip];exact hit) V ⟨λ_ h=>h,j⟩ (λa m us e ⟨h,j⟩ V=>by
  obtain⟨e1,q,e2,u,p,z,V2⟩:=hs a (h a ah) us e j V;exact⟨e1,q,e2,u,p,⟨λd hd=>h d (ae _ hd),z⟩,V2⟩) λe us ⟨_,j⟩ V=>k e us j V
theorem wU(hit:cU T it env=.ok (l,[]))(V:Tv env vs)(J:Vs->Prop)(j:J vs)(hs:∀d∈l,∀us e,J us->Tv e us->∃e1,bP [] t d e=ζ e1/\Wp T b e1 (Nx J))(k:∀e us,J us->Tv e us->Wp T r e Q):Wp T (.cons (.Ie t it b) r) env Q:=
 PK hit (by rw[Pc.bN];exact V) J j hs k
theorem Tv.IX(V:Tv env vs)(R:List Nat)(hd:d.flat=δ)(hi:i<vs.length:=by exact ay rfl):∃e,bP R (.nm i) d env=ζ e/\Tv e (vs.set i (ζ (d,δ))):=
 ⟨_,by show(if i<env.length then ζ (put env i d (bQ d R))else ε)=_;rw[if_pos (by rw[V.len];exact hi),dD V.tm,bQ,if_pos hd],V.set i _ .own δ (aQ _) λ_=>rfl⟩
theorem Tv.LY(V:Tv env vs)(R:List Nat){x y z:D}(fx:x.flat=δ)(fy:y.flat=δ)(fz:z.flat=δ)(hi:i<vs.length:=by exact ay rfl)(hj:j<vs.length:=by exact ay rfl)(hk:k<vs.length:=by exact ay rfl):∃e,bP R (.tp [i,j,k]) (.tup [x,y,z]) env=ζ e/\Tv e (((vs.set i (ζ (x,δ))).set j (ζ (y,δ))).set k (ζ (z,δ))):=by
 have s:=λ{env:En}{vs:Vs}(V:Tv env vs) (i:Nat) (d:D) (hd:d.flat=δ) (hi:i<vs.length)=>(⟨by rw[V.len];exact hi,by rw[dD V.tm,bQ,if_pos hd];exact V.set i _ .own δ (aQ _) λ_=>rfl⟩:i<env.length/\Tv (put env i d (bQ d R)) (vs.set i (ζ (d,δ))))
 obtain⟨a1,V1⟩:=s V i x fx hi;obtain⟨a2,V2⟩:=s V1 j y fy (by rw[ba];exact hj);obtain⟨a3,V3⟩:=s V2 k z fz (by rw[ba,ba];exact hk);refine⟨_,?_,V3⟩;show bindM (λd=>bQ d R) [i,j,k] [x,y,z] env=_;rw[bindM,if_pos a1,bindM,if_pos a2,bindM,if_pos a3,bindM]
theorem Tv.sX(V:Tv env vs){xs:List D}(hx:vs[x]? = ζ (ζ (.lst xs,δ)))(he:ev T e env=.ok (.lst ys,.mv []))(hf:D.Ig ys=δ)(hl:xs.length+ys.length<=10000)(k:∀e',Tv e' (vs.set x (ζ (.lst (xs++ys),δ)))->Wp T r e' Q):Wp T (.cons (.mut x .none .extend (.cons e .nil)) r) env Q:=
 let ⟨_,q,V'⟩:=V.ext hx he hf hl
 .st q (k _ V')
theorem Tv.M0(V:Tv env vs){l ys:List Nat}(hx:vs[x]? = ζ (lo l δ))(he:ev T e env=.ok (.lst (gD ys),.mv []))(hl:l.length+ys.length<=10000)(k:∀e',Tv e' (vs.set x (lo (l++ys) δ))->Wp T r e' Q):Wp T (.cons (.mut x .none .extend (.cons e .nil)) r) env Q:=
 V.sX hx he (uf ys) (by rw[eY,eY];exact hl) λe V=>k e (by rw[lo,jL];exact V)
theorem Cn{own:Nat}{pick:List Nat}{c:jS}(P:D->Prop)(hit:cU T it env=.ok (l,R))(hl:l.length<=10000)(hs:∀a∈l,∃e1 k,bP [] t a (bG env own pick)=ζ e1/\jv T c e1=.ok k/\(k=δ->∃d R,ev T e e1=.ok (d,R)/\(d.flat || eV R)=δ/\P d)) :
  ∃m:List D,ev T (.comp own pick t it c e) env=.ok (.lst m,.mv [])/\(∀d∈m,P d)/\m.length<=l.length/\(c=.none->m.length=l.length):=by
 have key:∀(l:List D),(∀a∈l,∃e1 k,bP [] t a (bG env own pick)=ζ e1/\jv T c e1=.ok k/\(k=δ->∃d R,ev T e e1=.ok (d,R)/\(d.flat || eV R)=δ/\P d))->∃qs:List (D×Rt),fH (λd=>cZ (bP [] t d (bG env own pick)) (jv T c) (ev T e)) l=.ok qs/\(∀q∈qs,(q.1.flat || eV q.2)=δ/\P q.1)/\qs.length<=l.length/\(c=.none->qs.length=l.length):=by
  intro l
  induction l with
  |nil=>exactλ_=>⟨[],rfl,λ_ h=>(nomatch h),ao _,λ_=>rfl⟩
  |cons a l ih=>
   intro h;obtain⟨qs,a1,a2,a3,a4⟩:=ih λb hb=>h b (ae _ hb)
   obtain⟨e1,k,hb,hc,hk⟩:=h a ah;rw[fH,hb,cZ,hc,aA];cases k with
   |true=>
    obtain⟨d,R',hR,hf,hp⟩:=hk rfl;rw[if_pos rfl,hR,aA,aA,a1,aA];refine⟨_,rfl,λq hq=>?_,by simp[a3],λz=>by simp[a4 z]⟩;rcases c9.mp hq with rfl|hq
    .exact⟨hf,hp⟩
    .exact a2 q hq
   |false=>
    rw[if_neg (by decide),aA,a1,aA];refine⟨_,rfl,a2,by simp;omega,λz=>?_⟩;subst z;rw[jv]at hc;cases hc
 obtain⟨qs,a1,a2,a3,a4⟩:=key l hs;refine⟨qs.map (·.1),?_,λd hd=>?_,by rw[aj];exact a3,λz=>by rw[aj];exact a4 z⟩
 .rw[ev,hit,aA,a1,aA];dsimp only;rw[if_pos (a8 hl (by decide)),if_pos (cq.mpr λq hq=>(a2 q hq).1)]
 .obtain⟨q,hq,rfl⟩:=gt.mp hd;exact(a2 q hq).2
theorem Vw.seen(V:Vw env ws)(pick:List Nat)(a:D):0<(bG env 1 pick).length/\Vw (Pc.put (bG env 1 pick) 0 a (bQ a [])) (ζ a::Qw ws pick):=by
 have h:=V.picked (pick:=pick) (ws:=Qw ws pick) (λj d q=>by
   rw[τ]at q;cases z:pick[j]? with
   |none=>rw[z]at q;cases q
   |some i=>
    rw[z]at q;refine⟨i,rfl,?_⟩;cases y:ws[i]? with
    |none=>simp[y]at q
    |some o=>simp[y]at q;simp[q]) (aj ..) a
 exact⟨h.1,⟨by have:=h.2.1;simp only[Pc.put,ba]at this ⊢;exact this,λj d q=>by
  obtain⟨t,z⟩:=h.2.2 j d q;unfold Pc.put at z ⊢;by_cases hj:0=j
  .subst hj;rw[Β (by rw[aj];exact h.1)]at z ⊢;cases z;exact⟨_,rfl⟩
  .rw[Θ hj]at z ⊢;exact⟨t,z⟩⟩⟩
theorem Vw.IW(V:Vw env ws){pick:List Nat}{c:jS}(P:D->Prop)(hit:cU T it env=.ok (l,R))(hl:l.length<=10000)(hs:∀a∈l,∀W,Vw W (ζ a::Qw ws pick)->∃k,jv T c W=.ok k/\(k=δ->∃d R,ev T e W=.ok (d,R)/\(d.flat || eV R)=δ/\P d)) :
  ∃m:List D,ev T (.comp 1 pick (.nm 0) it c e) env=.ok (.lst m,.mv [])/\(∀d∈m,P d)/\m.length<=l.length/\(c=.none->m.length=l.length):=
 Cn P hit hl λa ha=>by
  obtain⟨h0,W⟩:=V.seen pick a;obtain⟨k,h⟩:=hs a ha _ W;exact⟨_,k,by show(if 0<(bG env 1 pick).length then ζ (Pc.put (bG env 1 pick) 0 a (bQ a []))else ε)=_;rw[if_pos h0],h⟩
end
theorem pL:∀{l:List D},(∀d∈l,d.flat=δ)->D.Ig l=δ
 |[],_=>rfl
 |d::l,h=>by rw[D.Ig,h d ah,pL λd hd=>h d (ae _ hd)];rfl
variable {d:D}{e i:Ex}{l:List D}{x:Nat}
section
variable {T:Tb}{env:En}{vs:Vs}{Q:Fl->Prop}{r:bV}{a b c:Ex}{u v w:D}
theorem Gq{x:D}(fx:x.flat=δ){i:Int}{k:Nat}(hi:i.toNat=k)(NX : -2000<=i/\i<=2000):lZ .Mult (.lst [x]) (.int i)=ζ (.lst (π k x)):=by
 show(if -(2 ^ 63)<=i/\i<2 ^ 63 then(if D.Ig [x]then ck ([x].length*i.toNat) (.lst (π i.toNat [x]).flatten)else ε)else ε)=_;rw[if_pos (by omega),if_pos (show D.Ig [x]=δ by rw[D.Ig,fx];rfl),hi];unfold ck;rw[if_pos (a8 (show[x].length*k<=2000 by rw[jb];omega) (by decide))];clear hi;congr 2
 induction k with
 |zero=>rfl
 |succ k ih=>rw[bq,cg,ih];rfl
theorem G8(n m:Nat)(hn:n<=2000)(hm:m<=2000):lZ .Mult (.lst [.int 0]) (.int ((n:Int)-m))=ζ (.lst (gD (π (n-m) 0))):=by
 rw[gD,Z6];exact Gq rfl (by omega) (by omega)
theorem bnM{k:Bool}(h:aC T a env (.bl k)):ev T (.not a) env=.ok (.bl (!k),.mv []):=by
 obtain⟨_,h⟩:=h;rw[ev,h,aA]
theorem aC.OF{k:yn}{x y z:D}(h:aC T a env x)(h':aC T b env y)(e:eA k [x,y]=ζ z):aC T (.blt k (.cons a (.cons b .nil))) env z:=by
 obtain⟨_,h⟩:=h;obtain⟨_,h'⟩:=h';exact⟨_,by rw[ev,aT,h,aA,aT,h',aA,aT,aA,aA,aA];show(ku (eA k [x,y])).bind _=_;rw[e,cY,aA]⟩
theorem zu(h:ev T a env=.ok (u,.mv []))(h':ev T b env=.ok (v,.mv []))(h2:ev T c env=.ok (w,.mv [])):ev T (.tup (.cons a (.cons b (.cons c .nil)))) env=.ok (.tup [u,v,w],.mv []):=by
 rw[ev,aT,h,aA,aT,h',aA,aT,h2,aA,aT,aA,aA,aA,aA];rfl
theorem AV{l l':List D}(h:aC T a env (.lst l))(h':aC T b env (.lst l'))(hl:l.length+l'.length<=10000)(f:∀d∈l++l',d.flat=δ):ev T (.bin .Add a b) env=.ok (.lst (l++l'),.mv []):=dO (aC.bin h h' (by
 show ck (l.length+l'.length) (.lst (l++l'))=_;unfold ck;rw[if_pos (a8 hl (by decide))])) (pL f)
theorem Tv.sI(V:Tv env vs){n:Nat}(hx:vs[x]? = ζ (ζ (.lst l,δ)))(hi:aC T i env (.int (n:Int)))(hn:n<l.length)(hl:l.length<=1000)(he:ev T e env=.ok (d,.mv []))(k:∀e',Tv e' (vs.set x (ζ (.lst (l.set n d),δ)))->Wp T r e' Q):Wp T (.cons (.Ir x .none i e) r) env Q:=by
 obtain⟨R,hi⟩:=hi;exact .st (t4 (T:=T) (x:=x) V.tm (V.own hx) hi (fK hn) he (nu hl)) (k _ (V.set x _ .own δ (aQ _) λ_=>rfl))
theorem Tv.sP(V:Tv env vs){d':D}(hx:vs[x]? = ζ (ζ (d,δ)))(hi:aC T i env u)(he:aC T e env v)(hp:sT d u v=ζ d')(k:∀e',Tv e' (vs.set x (ζ (d',δ)))->Wp T r e' Q):Wp T (.cons (.JN x i e) r) env Q:=by
 obtain⟨_,hi⟩:=hi;obtain⟨_,he⟩:=he;have ho:ownAt env x=ζ d:=by unfold ownAt;rw[V.own hx]
 refine .st ?_ (k _ (V.set x d' .own δ (aQ _) λ_=>rfl));rw[cP,ho];dsimp only;rw[he,bD,hi,bD];dsimp only;rw[hp];dsimp only;rw[iH V.tm]
theorem Tv.sQ(V:Tv env vs){m n:Nat}(hx:vs[x]? = ζ (ζ (.lst l,δ)))(hi:aC T a env (.int (m:Int)))(hm:l[m]? = ζ (.lst ys))(hj:aC T i env (.int (n:Int)))(hn:n<ys.length)(hl:ys.length<=1000)(he:ev T e env=.ok (d,.mv []))(k:∀e',Tv e' (vs.set x (ζ (.lst (l.set m (.lst (ys.set n d))),δ)))->Wp T r e' Q):Wp T (.cons (.Ir x (.some a) i e) r) env Q:=by
 obtain⟨_,hi⟩:=hi;obtain⟨_,hj⟩:=hj;have ho:ownAt env x=ζ (.lst l):=by unfold ownAt;rw[V.own hx]
 have ml:=(χ.mp hm).1;have hp:iX T (.some a) env=.ok (ζ (m:Int)):=by rw[iX,hi,aA]
 have h1:(D.lst l).Jn (ζ (m:Int))=ζ ys:=by
  show((Pc.iZ l.length (m:Int)).bind λj=>match l[j]? with|some (.lst ys)=>ζ ys|_=>ε)=_;rw[fK ml];show(match l[m]? with|some (.lst ys)=>ζ ys|_=>ε)=_;rw[hm]
 refine .st ?_ (k _ (V.set x _ .own δ (aQ _) λ_=>rfl));rw[cP,ho];dsimp only;rw[he,bD,hp,bD];dsimp only;rw[h1];dsimp only;rw[hj,bD];dsimp only;rw[fK hn];have h2:(D.lst l).Jh (ζ (m:Int)) (ys.set n d)=.lst (l.set m (.lst (ys.set n d))):=by
  show(match Pc.iZ l.length (m:Int)with|some j=>D.lst (l.set j (.lst (ys.set n d)))|none=>.lst l)=_;rw[fK ml]
 show iM x (ζ (m:Int)) env (.lst l) (ys.set n d) [.mv []]=_;unfold iM;have LB:(ys.set n d).length<=lim:=by rw[ba];exact nu hl
 simp only[dB,cm,bh,bu,decide_true,gK,Ym,X4,LB,iq,XS,if_true,h2];rw[iH V.tm]
end
end Pc.Vw
end
section
namespace K40
open PySem Pc Pc.Sm Pc.Gr Pc.Lw Pc.Vw Fl64
variable {a b:Nat}
theorem Gu(ha:a<64)(hb:b<64):a^^^b<64:=Yf (n:=6) ha hb
noncomputable abbrev TW(n t:Nat):Prop:=∀a b:Nat,a<64->b<64->∃r:Nat,r<64/\(T n).cl t [.int (a:Int),.int (b:Int)]=.ok (.int (r:Int),δ)
theorem Pp(n:Nat):TW (n+1) 33:=λa b ha hb=>by
 rw[fN,aN (F:=⟨2,5,UD⟩) rfl rfl];have V:=Tv.start [.int a,.int b] 5;have G:=λ(e:En)=>aC.Ic (T:=T n) (env:=e) 27
 have F:=λ(e:En)=>aC.Ic (T:=T n) (env:=e) 28
 refine V.sA (T:=T n) (Q:=λf=>∃r:Nat,r<64/\Rd (.int (r:Int)) f) (d:=.int (0:Nat)) rfl λe V=>V.sA (eZ (V.var rfl) rfl) λe V=>V.sA (eZ (V.var rfl) rfl) λe V=>V.sW (n:=6) (λn us=>∃p d l:Nat,l<2 ^ n/\p<64/\d<64/\us=[no a,no b,no p δ,no d δ,no l δ]) (by show 6<1000;decide) ⟨0,a,b,hb,by decide,ha,rfl⟩ (λn us e ⟨p,d,l,hl,hp,hd,hu⟩ V=>?_) λn e us ⟨p,d,l,hl,hp,hd,hu⟩ V c=>by subst hu;exact⟨p,hp,V.ret rfl⟩
 subst hu;refine⟨_,xX (V.var rfl),λh0=>?_⟩;have h0:=bg h0;cases n with
 |zero=>rw[ģ]at hl;omega
 |succ n=>
  rw[Zo]at hl;have fin:∀(p':Nat) e,p'<64->Tv e [no a,no b,no p' δ,no d δ,no l δ]->Wp (T _) (.cons (.asg (.nm 3) (.bin .Mult Hu HI) γ) (.cons (.ite (.cmp .GtE HI (.Ic 27)) (.cons (.asg (.nm 3) (.bin .BitXor HI (.Ic 28)) γ) .nil) .nil) (.cons (.asg (.nm 4) (.bin .FloorDiv HL Hu) γ) .nil))) e (Nx λus=>∃p d l:Nat,l<2 ^ n/\p<64/\d<64/\us=[no a,no b,no p δ,no d δ,no l δ]):=λp' e hp V=>by
   refine V.sA (d:=.int (2*d:Nat)) (dO (aC.bin (aC.cst _) (V.var rfl) rfl) rfl) λe V=>Wp.ite (k:=decide ((64:Int)<=(2*d:Nat))) (aC.cmp (V.var rfl) (G e) rfl) (λhk=>?_) λhk=>?_
   .have hk:=bg hk;refine V.sA (C6 (n:=67) (V.var rfl) (F _)) λe V=>Wp.K3 (V.sA (ou (V.var rfl)) λe V=>V.nil ⟨p',_,_,by exact O3 [.lt aD (Oq aH 2),.le (Ol 2 aO) aD] (.lt aO aH) [[2,1,1]] rfl hl mq,hp,?_,rfl⟩)
    have:=Yf (n:=6) (x:=2*d-64) (y:=3) (by omega) (by decide);have e:2*d^^^67=(2*d-64)^^^3:=by
     have:∀d,d<64->32<=d->2*d^^^67=(2*d-64)^^^3:=by decide
     exact this d hd (by omega)
    rw[e];exact this
   .have hk:=of_decide_eq_false hk;exact V.sA (ou (V.var rfl)) λe V=>V.nil ⟨p',2*d,_,by exact O3 [.lt aD (Oq aH 2),.le (Ol 2 aO) aD] (.lt aO aH) [[2,1,1]] rfl hl mq,hp,by omega,rfl⟩
  exact⟨n,rfl,Wp.ite (wO (V.var rfl)) (λhk=>V.sA (C6 (V.var rfl) (V.var rfl)) λe V=>Wp.K3 (fin _ e (Gu hp hd) V)) λhk=>fin _ e hp V⟩
theorem h34(n k:Nat)(hk:k<64):∃r:Nat,r<64/\(T (n+2)).cl 34 [.int 2,.int (k:Int)]=.ok (.int (r:Int),δ):=by
 rw[fN,aN (F:=⟨2,5,UC⟩) rfl rfl];have V:=Tv.start [.int 2,.int k] 5;refine V.sA (T:=T (n+1)) (Q:=λf=>∃r:Nat,r<64/\Rd (.int (r:Int)) f) (d:=.int (1:Nat)) rfl λe V=>V.sA (eZ (V.var rfl) rfl) λe V=>V.sA (eZ (V.var rfl) rfl) λe V=>V.sW (n:=6) (λn us=>∃p d l:Nat,l<2 ^ n/\p<64/\d<64/\us=[no 2,no k,no p δ,no d δ,no l δ]) (by show 6<1000;decide) ⟨1,2,k,hk,by decide,by decide,rfl⟩ (λm us e ⟨p,d,l,hl,hp,hd,hu⟩ V=>?_) λn e us ⟨p,d,l,hl,hp,hd,hu⟩ V c=>by subst hu;exact⟨p,hp,V.ret rfl⟩
 subst hu;refine⟨_,xX (V.var rfl),λh0=>?_⟩;have h0:=bg h0;cases m with
 |zero=>rw[ģ]at hl;omega
 |succ m=>
  rw[Zo]at hl;obtain⟨r1,l1,c1⟩:=Pp n p d hp hd;obtain⟨r2,l2,c2⟩:=Pp n d d hd hd;have fin:∀(p':Nat) e,p'<64->Tv e [no 2,no k,no p' δ,no d δ,no l δ]->Wp (T (n+1)) (.cons (.asg (.nm 3) (.call 33 (HR HI HI)) γ) (.cons (.asg (.nm 4) (.bin .FloorDiv HL Hu) γ) .nil)) e (Nx λus=>∃p d l:Nat,l<2 ^ m/\p<64/\d<64/\us=[no 2,no k,no p δ,no d δ,no l δ]):=λp' e hp V=>
   V.sA (bR (V.var rfl) (V.var rfl) c2) λe V=>V.sA (ou (V.var rfl)) λe V=>V.nil ⟨p',_,_,by exact O3 [.lt aD (Oq aH 2),.le (Ol 2 aO) aD] (.lt aO aH) [[2,1,1]] rfl hl mq,hp,l2,rfl⟩
  exact⟨m,rfl,Wp.ite (wO (V.var rfl)) (λhk=>V.sA (bR (V.var rfl) (V.var rfl) c1) λe V=>Wp.K3 (fin _ e l1 V)) λhk=>fin _ e hp V⟩
variable {n:Nat}
theorem pS:∀{m:List D},(∀d∈m,∃i:Nat,d=.int (i:Int)/\i<n)->∃gs,m=gD gs/\∀g∈gs,g<n
 |[],_=>⟨[],rfl,λ_ h=>(nomatch h)⟩
 |d::m,h=>by
  obtain⟨i,rfl,hi⟩:=h d ah;obtain⟨gs,rfl,hg⟩:=pS λd hd=>h d (ae _ hd)
  exact⟨i::gs,rfl,λg h=>(c9.mp h).elim (λe=>e ▸ hi) (hg g)⟩
theorem h37(n c:Nat)(hc:c<=60):∃gs,Gr gs/\gs.length=c/\(T (n+3)).cl 37 [.int (c:Int)]=.ok (.lst (gD gs),δ):=by
 rw[fN,aN (F:=⟨1,1,Uz⟩) rfl rfl];have V:=Tv.start [.int (c:Int)] 1;obtain⟨m,h1,h2,_,h3⟩:=V.vw.IW (T:=T (n+2)) (pick:=[]) (c:=.none) (it:=.Jq Hv (.bin .Add HG Hv)) (e:=.call 34 (HR Hu HG)) (λd=>∃i:Nat,d=.int (i:Int)/\i<64) (zi (m:=1) (n:=c+1) (aC.cst _) (fO (n:=1) (V.var rfl) (aC.cst _)) (by decide) (by exact O1 [.le aD 60] (.le (aD+1) 1000) [[1,1]] rfl hc)) (by simp;exact O1 [.le aD 60] (.le aD 10000) [[1,1]] rfl hc) λa ha W w=>by
  obtain⟨k,hk,rfl⟩:=gt.mp ha;obtain⟨r,l,q⟩:=h34 n k (by have:=å.mp hk;exact O3 [.le aD 60,.lt aH (1+aO),.le aO (aD+1)] (.lt aH 64) [[1,1,1,1]] rfl hc this.2 zT);exact⟨δ,by rw[jv],λ_=>⟨_,_,bR (aC.cst _) (w.var rfl) q,rfl,r,rfl,l⟩⟩
 obtain⟨gs,rfl,hg⟩:=pS h2;have:=h3 rfl;simp only[aj,ig]at this;exact⟨gs,hg,by exact O3 [.eq aD aH,.eq (aH+1) (aO+1)] (.eq aD aO) [[1,0,1,0,1],[1,1,0,1]] rfl this (lV (O1 [] (.le 1 (aD+1)) [[1]] rfl)),bM h1⟩
variable {g i j k:Nat}
theorem Ge{t x p f:Nat}(ht:TW n t){us:Vs}{e:En}{l:List Nat}{P F:Nat}(V:Tv e us)(gl:Gr l)(hx:us[x]? = ζ (lo l δ))(hp:∃b,us[p]? = ζ (no P b))(hi:us[i]? = ζ (no k δ))(hj:us[j]? = ζ (no g δ))(hf:∃b,us[f]? = ζ (no F b))(hg:g<64)(hF:F<64)(hl:P+k<l.length)(h1:l.length<=1000){Q:Vs->Prop}(q:∀l',Gr l'->l'.length=l.length->Q (us.set x (lo l' δ))):Wp (T n) (GR t x p i j f) e (Nx Q):=by
 obtain⟨_,hp⟩:=hp;obtain⟨_,hf⟩:=hf;obtain⟨r,lr,c⟩:=ht F g hF hg;have a:=fO (V.var (T:=T n) hp) (V.var hi);exact V.Qd hx a hl h1 (C6 (aC.ix (V.var hx) a (GU hl)) (aC.JB (V.var hf) (V.var hj) c)) λe1 V=>V.nil (q _ (C1 gl lr) (ba ..))
theorem h35(n:Nat){a b:List Nat}(ha:Gr a)(hb:Gr b)(hb0:0<b.length)(hl:a.length+b.length<=1000):∃gs,Gr gs/\gs.length=a.length+b.length-1/\(T (n+2)).cl 35 [.lst (gD a),.lst (gD b)]=.ok (.lst (gD gs),δ):=by
 rw[fN,aN (F:=⟨2,7,UB⟩) rfl rfl];have V:=Tv.start [.lst (gD a),.lst (gD b)] 7;exact V.sA (T:=T (n+1)) (Q:=λf=>∃gs,Gr gs/\gs.length=a.length+b.length-1/\Rd (.lst (gD gs)) f) (dO (aC.bin (aC.Kw (aC.cst _)) (yY (n:=1) (fO (aC.Ij (V.var rfl) (hJ _)) (aC.Ij (V.var rfl) (hJ _))) (aC.cst _) (by exact O2 [.lt 0 aD] (.le 1 (aH+aD)) [[1,1]] rfl hb0)) (jT _ (by exact O3 [.le (aD+aH) 1000,.le aO (aD+aH)] (.le aO 1000) [[1,1,1]] rfl hl zT))) (iT _)) λe V=>V.sE rfl (λk r us=>∃l o3 o4 o5 o6,Gr r/\Gr l/\k+r.length=a.length/\l.length=a.length+b.length-1/\us=[lo a,lo b,lo l δ,o3,o4,o5,o6]) ⟨_,_,_,_,_,ha,λz hz=>by rw[(Xs.mp hz).2];decide,by simp,by simp,rfl⟩
  (λk g m us e ⟨l,o3,o4,o5,o6,hm,gl,h1,h2,hu⟩ _=>by
   subst hu;rw[av]at h1;exact⟨rfl,λe1 V=>V.sE rfl (λn r us=>∃L o5 o6,Gr r/\Gr L/\n+r.length=b.length/\L.length=l.length/\us=[lo a,lo b,lo L δ,no k δ,no g δ,o5,o6]) ⟨l,o5,o6,hb,gl,by simp,rfl,rfl⟩
    (λn' f r us e ⟨L,o5,o6,hr,gL,h3,h4,hu⟩ _=>by
     subst hu;rw[av]at h3;exact⟨rfl,λe1 V=>Ge (Pp n) V gL rfl ⟨δ,rfl⟩ rfl rfl ⟨δ,rfl⟩ (hr f ah) (hm g ah) (by omega) (by exact O5 [.le (aD+aH) 1000,.eq aO cA,.eq iB aO,.le cA (aD+aH)] (.le iB 1000) [[1,1,1,0,1,0,1]] rfl hl h2 h4 zT) λl' g' e'=>⟨l',_,_,λz hz=>hr z (ae _ hz),g',by exact O3 [.eq (aD+(aH+1)) aO] (.eq (aD+1+aH) aO) [[1,0,1],[1,1]] rfl h3,by exact O3 [.eq aD aH,.eq aO aD] (.eq aO aH) [[1,0,1,0,1],[1,1,0,1]] rfl h4 e',rfl⟩⟩)
    λe n us ⟨L,o5,o6,_,gL,_,h4,hu⟩ V=>V.nil ⟨L,_,_,_,_,λz hz=>hm z (ae _ hz),gL,by exact O3 [.eq (aD+(aH+1)) aO] (.eq (aD+1+aH) aO) [[1,0,1],[1,1]] rfl h1,by exact O3 [.eq aD aH,.eq aO aD] (.eq aO aH) [[1,0,1,0,1],[1,1,0,1]] rfl h2 h4,hu⟩⟩)
  λe n us ⟨l,_,_,_,_,_,gl,_,h2,hu⟩ V=>by
   subst hu;exact⟨l,gl,h2,V.ret rfl⟩
theorem h36(n:Nat){ns:List Nat}(hn:Gr ns)(hl:ns.length<=60):∃gs,Gr gs/\gs.length=ns.length+1/\(T (n+3)).cl 36 [.lst (gD ns)]=.ok (.lst (gD gs),δ):=by
 rw[fN,aN (F:=⟨1,3,UA⟩) rfl rfl];exact(Tv.start [.lst (gD ns)] 3).sA (T:=T (n+2)) (Q:=λf=>∃gs,Gr gs/\gs.length=ns.length+1/\Rd (.lst (gD gs)) f) rfl λe V=>V.sS rfl (λm us=>∃l o,Gr m/\Gr l/\l.length+m.length=ns.length+1/\0<l.length/\us=[lo ns,lo l δ,o]) ⟨[1],ε,hn,.cons (by decide) .nil,by simp;exact O1 [] (.eq (1+aD) (aD+1)) [[1],[1]] rfl,by decide,rfl⟩
  (λg m us e ⟨l,o,h2,h3,h5,h6,hu⟩ _=>by
   subst hu;rw[av]at h5;obtain⟨gs,g1,g2,g3⟩:=h35 n (a:=l) (b:=[1,g]) h3 (.cons (by decide) (.cons (h2 g ah) .nil)) (by simp) (by simp;exact O3 [.le aD 60,.eq (aH+(aO+1)) (aD+1)] (.le aH 998) [[1,1,0,1]] rfl hl h5);have g2:gs.length=l.length+2-1:=g2;exact⟨rfl,λe1 V=>V.sA (bR (V.var rfl) (aC.Mf (aC.cst _) (V.var rfl)) g3) λe2 V=>V.nil ⟨_,_,λz hz=>h2 z (ae _ hz),g1,by exact O5 [.eq (aD+(aH+1)) (aO+1),.eq cA iB,.eq (iB+1) (aD+2)] (.eq (cA+aH) (aO+1)) [[1,0,1,0,1,0,1],[1,1,0,1,0,1]] rfl h5 g2 (lV (O1 [] (.le 1 (aD+2)) [[1]] rfl)),by exact O3 [.eq aD aH,.le (aO+2) (aH+1)] (.lt 0 aD) [[1,1,0,1]] rfl g2 Dd,rfl⟩⟩)
  λe us ⟨l,o,_,gl,h,_,hu⟩ V=>by
   subst hu;exact⟨l,gl,h,V.ret rfl⟩
variable {env:En}{x:D}
theorem aC.L3{T:Tb}{a lo:Ex}{z:D}{m:Int}(h:aC T a env x)(h1:aC T lo env (.int m))(e:xA x (ζ m) ε=ζ z):aC T (.sl a (.some lo) .none) env z:=by
 obtain⟨R,h⟩:=h;obtain⟨R1,h1⟩:=h1;exact⟨_,by rw[ev,h,aA,iX,iX,h1,aA];dsimp only;rw[aA,aA,e,cY,aA]⟩
theorem pV{α:Type}(l:List α)(n:Nat):cut l (ζ (n:Int)) ε=l.drop n:=by
 unfold cut eO;simp only;rw[if_neg (by omega),cu];by_cases h:n<=l.length
 .rw[dn h,cw (by rw[bp];exact ao _)]
 .rw[dh (by exact O2 [.J6 aD aH] (.le aH aD) [[1,1]] rfl h),Zp,Ñ,fi (by exact O2 [.J6 aD aH] (.le aH aD) [[1,1]] rfl h)]
theorem GZ(l:List Nat)(n:Nat):xA (.lst (gD l)) (ζ (n:Int)) ε=ζ (.lst (gD (l.drop n))):=by
 show ζ (D.lst (cut (gD l) _ _))=_;rw[pV,gD,gD,Ā]
theorem h38(n:Nat){d:List Nat}(hd:Gr d){c:Nat}(hc:c<=60)(hl:d.length<=200):∃gs,Gr gs/\gs.length=c/\(T (n+4)).cl 38 [.lst (gD d),.int (c:Int)]=.ok (.lst (gD gs),δ):=by
 obtain⟨ns,n1,n2,n3⟩:=h37 n c hc;obtain⟨dv,d1,d2,d3⟩:=h36 n n1 (by exact O2 [.le aD 60,.eq aH aD] (.le aH 60) [[1,1,0,1]] rfl hc n2);rw[fN,aN (F:=⟨2,8,Uy⟩) rfl rfl];have V:=Tv.start [.lst (gD d),.int (c:Int)] 8;exact V.sA (T:=T (n+3)) (Q:=λf=>∃gs,Gr gs/\gs.length=c/\Rd (.lst (gD gs)) f) (bZ (aC.Jm (V.var rfl) n3) d3) λe V=>V.sA (u7 (aC.Ij (V.var rfl) (z:=.lst (gD d)) rfl) (aC.bin (aC.Kw (aC.cst _)) (V.var rfl) (jT c (by exact O1 [.le aD 60] (.le aD 1000) [[1,1]] rfl hc))) (by simp;exact O2 [.le aD 60,.le aH 200] (.le (aH+aD) 1000) [[1,1,1]] rfl hc hl)) λe V=>V.sR (aC.Ij (V.var rfl) (hJ d)) (by exact O1 [.le aD 200] (.le aD 1000) [[1,1]] rfl hl) (λk us=>∃l o4 o5 o6 o7 bd,Gr l/\l.length=d.length+c/\us=[lo d,no c,lo dv bd,lo l δ,o4,o5,o6,o7]) ⟨_,_,_,_,_,_,hd.append λz hz=>by rw[(Xs.mp hz).2];decide,by simp,rfl⟩
  (λk us e hk ⟨l,o4,o5,o6,o7,bd,gl,NS,hu⟩ _=>by
   subst hu;have kl:k<l.length:=by exact O4 [.lt aD aH,.eq aO (aH+cA)] (.lt aD aO) [[1,0,1,1]] rfl hk NS
   have gk:l.getD k 0<64:=gl _ (by rw[ο,ω kl];exact c7 kl);exact⟨rfl,λe1 V=>V.sA (vR (aC.ix (V.var rfl) (V.var rfl) (GU kl)) rfl) λe2 V=>V.sE rfl (λm r us=>∃L o6 o7,Gr r/\Gr L/\m+r.length=dv.length/\L.length=l.length/\us=[lo d,no c,lo dv,lo L δ,no k δ,no (l.getD k 0) δ,o6,o7]) ⟨l,_,_,d1,gl,by simp,rfl,rfl⟩
    (λm g r us e ⟨L,o6,o7,hr,gL,h3,h4,hu⟩ _=>by
     subst hu;rw[av]at h3;exact⟨rfl,λe1 V=>Ge (Pp (n+2)) V gL rfl ⟨δ,rfl⟩ rfl rfl ⟨δ,rfl⟩ (hr g ah) gk (by omega) (by exact O4 [.le aD 60,.le aH 200,.eq aO (aH+aD),.eq cA aO] (.le cA 1000) [[1,1,0,1,0,1,1]] rfl hc hl NS h4) λl' g' e'=>⟨l',_,_,λz hz=>hr z (ae _ hz),g',by exact O3 [.eq (aD+(aH+1)) aO] (.eq (aD+1+aH) aO) [[1,0,1],[1,1]] rfl h3,by exact O3 [.eq aD aH,.eq aO aD] (.eq aO aH) [[1,0,1,0,1],[1,1,0,1]] rfl h4 e',rfl⟩⟩)
    λe m us ⟨L,o6,o7,_,gL,_,h4,hu⟩ V=>V.nil ⟨L,_,_,_,_,_,gL,by exact O4 [.eq aD (aH+aO),.eq cA aD] (.eq cA (aH+aO)) [[1,0,1,0,1],[1,1,0,1]] rfl NS h4,hu⟩⟩)
  λe us ⟨l,_,_,_,_,_,gl,h2,hu⟩ V=>by
   subst hu;exact⟨_,λz hz=>gl z (dm hz),by rw[bp];exact O4 [.eq aD (aH+aO),.eq (cA+aH) aD] (.eq cA aO) [[1,0,1,0,1],[1,1,0,1]] rfl h2 (lV (O3 [.eq aD (aH+aO)] (.le aH aD) [[1,0,1]] rfl h2)),bM (E1 (K40.aC.L3 (V.var rfl) (aC.Ij (V.var rfl) (hJ d)) (GZ l d.length)) (iT _))⟩
noncomputable def ln(a j:Nat):Nat:=if nb a-rm a%nb a<=j then rm a / nb a+1 else rm a / nb a
noncomputable def ord(a:Nat):List (Nat×Nat):=(bv 48).flatMap λk=>((bv (nb a)).filter λj=>decide (k<ln a j)).map λj=>(j,k)
theorem r2(g:Nat->Nat->Nat)(ha:a<5)(n:Nat):Pc.run fns gl 1000 (n+1) 2 [.lst ((bv (nb a)).map λj=>.lst (gD ((bv (ln a j)).map (g j))))]=.ok (.lst (gD ((ord a).map λp=>g p.1 p.2)),δ):=by
 rcases n5 ha with rfl|rfl|rfl|rfl|rfl<;>kernel_rfl
theorem shf:allB 5 (λa=>allB 4 λb=>decide ((SH a b).length=nb a/\(ord a).length<=133/\RM a b<=115/\nb a<=3/\6<=RM a b)&&(ord a).all (λp=>decide (p.1<nb a/\p.2<ln a p.1))&&allB (nb a) λj=>decide (((SH a b).getD j (0,0)).1+((SH a b).getD j (0,0)).2=ln a j/\((SH a b).getD j (0,0)).2<=26))=δ:=by decide +kernel
structure Sh(a b:Nat):Prop where
 len:(SH a b).length=nb a
 ord:(ord a).length<=133
 rm:RM a b<=115
 nb:nb a<=3
 lo:6<=RM a b
 at':∀p∈K40.ord a,p.1<K40.nb a/\p.2<ln a p.1
 row:∀j,j<K40.nb a->((SH a b).getD j (0,0)).1+((SH a b).getD j (0,0)).2=ln a j/\((SH a b).getD j (0,0)).2<=26
theorem sh(ha:a<5)(hb:b<4):Sh a b:=by
 have h:=bE (bE shf a ha) b hb;rw[ai,ai]at h;obtain⟨h1,h2,h3,h4,h5⟩:=bg h.1.1;exact⟨h1,h2,h3,h4,h5,λp hp=>bg (cq.mp h.1.2 p hp),λj hj=>bg (bE h.2 j hj)⟩
theorem DK{α:Type}(l:List α)(x:α):l=(bv l.length).map λk=>l.getD k x:=i0 (by simp) λi h1 h2=>by simp[h1]
theorem map_len{α:Type}{l:List α}(x:α)(h:l.length=n):l=(bv n).map λk=>l.getD k x:=h ▸ DK l x
theorem pN(l:List Nat)(s x:Nat):xA (.lst (gD l)) (ζ (s:Int)) (ζ ((s+x:Nat):Int))=ζ (.lst (gD ((l.drop s).take x))):=by
 rw[Fv,Ð,iz]
noncomputable abbrev rD(rows:List (List Nat)):List D:=rows.map λr=>D.lst (gD r)
theorem yu(l:List Nat)(k:Nat)(h:k<l.length):(l.take (k+1)).sum=(l.take k).sum+l.getD k 0:=by
 rw[List.take_succ_eq_append_getElem h,YB,ο,ω h];simp
theorem h39(n:Nat)(ha:a<5)(hb:b<4){dt:List Nat}(hd:Gr dt)(hl:dt.length=RM a b):∃gs,Gr gs/\gs.length<=133/\(T (n+5)).cl 39 [.lst (gD dt),cW a,.int (b:Int)]=.ok (.lst (gD gs),δ):=by
 have S:=sh ha hb;rw[fN,aN (F:=⟨3,8,Ux⟩) rfl rfl];have V:=Tv.start [.lst (gD dt),cW a,.int (b:Int)] 8;refine V.sA (T:=T (n+4)) (Q:=λf=>∃gs,Gr gs/\gs.length<=133/\Rd (.lst (gD gs)) f) (d:=.lst (rD [])) mD λe V=>V.sA (d:=.int ((0:Nat):Int)) (by rw[ev];rfl) λe V=>uD (n:=nb a) (g:=λj=>.tup [.int (((SH a b).getD j (0,0)).1:Int),.int (((SH a b).getD j (0,0)).2:Int)]) (R:=[]) (by rw[cU,bR (V.var rfl) (V.var rfl) (up (r0 ha hb) (n+4)),aA];(conv=>lhs;rw[map_len (0,0) S.len,gc]);rfl) (by rw[bN];exact V)
  (λk us=>∃(RR:List (List Nat)) (s:Nat) (v5 v6 v7:_),RR.length=k/\s=(((SH a b).map (·.1)).take k).sum/\(∀r∈RR,Gr r)/\(∀j,j<k->(RR.getD j []).length=ln a j)/\us=[lo dt,ζ (cW a,γ),no b,ζ (.lst (rD RR),δ),no s δ,v5,v6,v7]) ⟨[],0,_,_,_,rfl,rfl,λ_ h=>(nomatch h),λ_ h=>absurd h (i8 _),rfl⟩ (λk us e hk ⟨RR,s,v5,v6,v7,hR,hs,gR,lR,hu⟩ V=>by
   subst hu;obtain⟨q1,q2⟩:=S.row k hk;have kl:k<((SH a b).map (·.1)).length:=by rw[aj,S.len];exact hk
   have ts:=yu ((SH a b).map (·.1)) k kl;have g1:((SH a b).map (·.1)).getD k 0=((SH a b).getD k (0,0)).1:=by
    rw[ο,ο,τ];cases(SH a b)[k]?<;>rfl
   have tl:(((SH a b).map (·.1)).take (k+1)).sum<=dt.length:=by
    rw[hl];unfold RM
    conv=>rhs;rw[<-List.take_append_drop (k+1) ((SH a b).map (·.1)),YB]
    exact O2 [] (.le aD (aD+aH)) [[1]] rfl
   generalize((SH a b).getD k (0,0)).1=x at *;generalize((SH a b).getD k (0,0)).2=c at *;rw[g1]at ts;have pl:((dt.drop s).take x).length=x:=by rw[cn,bp];omega
   have gp:Gr ((dt.drop s).take x):=λz hz=>hd z (dm (cv hz))
   have VS:ln a k<=48:=by
    have:allB 5 (λa=>allB (nb a) λj=>decide (ln a j<=48))=δ:=by decide
    exact bg (bE (bE this a ha) k hk)
   obtain⟨cs,c1,c2,c3⟩:=h38 n gp (c:=c) (by exact O1 [.le aD 26] (.le aD 60) [[1,1]] rfl q2) (by exact O4 [.eq (aD+aH) aO,.eq cA aD,.le aO 48] (.le cA 200) [[1,1,1,0,1]] rfl q1 pl VS);obtain⟨e1,z,V⟩:=V.JZ (i:=5) (j:=6) [] (x:=.int (x:Int)) (y:=.int (c:Int)) rfl rfl;exact⟨e1,z,V.sA (d:=.lst (gD ((dt.drop s).take x))) (E1 (aC.sl (V.var rfl) (V.var rfl) (fO (V.var rfl) (V.var rfl)) (pN dt _ _)) (iT _)) λe V=>V.sM rfl (u7 (V.var rfl) (aC.of (bR (V.var rfl) (V.var rfl) c3)) (by exact O5 [.eq (aD+aH) aO,.eq cA aD,.le aO 48,.eq iB aH] (.le (cA+iB) 1000) [[1,1,0,1,1,0,1]] rfl q1 pl VS c2)) (by simp[hR];have:=S.nb;exact O2 [.lt aD aH,.le aH 3] (.lt aD 10000) [[1,1,1]] rfl hk this) λe V=>V.sG rfl (V.var rfl) λe V=>V.nil ⟨RR ++ [(dt.drop s).take x++cs],s+x,_,_,_,by simp[hR],by rw[ts,hs],λr hr=>(i9.mp hr).elim (gR r) λh=>by rw[gr.mp h];exact gp.append c1,λj hj=>by
    rw[ο];by_cases Ry:j<k
    .rw[Ψ (by exact O3 [.eq aD aH,.lt aO aH] (.lt aO aD) [[1,1,0,1]] rfl hR Ry),<-ο];exact lR j Ry
    .obtain rfl:j=k:=by exact O2 [.lt aD (aH+1),.L9 aD aH] (.eq aD aH) [[1,1],[1,0,1]] rfl hj Ry
     rw[am (by exact O2 [.eq aD aH] (.le aD aH) [[1,1]] rfl hR),hR,Zp];show((dt.drop s).take x++cs).length=_;rw[aw];exact O5 [.eq aD aH,.eq aO cA,.eq (aH+cA) iB] (.eq (aD+aO) iB) [[1,0,1,0,1,0,1],[1,1,0,1,0,1]] rfl pl c2 q1,by rw[rD,rD,dq];rfl⟩⟩)
  λe us ⟨RR,s,v5,v6,v7,hR,_,gR,lR,hu⟩ V=>?_
 subst hu;have eR:rD RR=(bv (nb a)).map λj=>.lst (gD ((bv (ln a j)).map λk=>(RR.getD j []).getD k 0)):=by
  conv=>lhs;rw[map_len [] hR,rD,gc]
  refine gj λj hj=>?_
  show D.lst (gD (RR.getD j []))=_
  conv=>lhs;rw[map_len 0 (lR j (Tk.mp hj))]
 refine⟨_,λz hz=>?_,?_,bM (bZ (V.var rfl) (by rw[eR];exact up (r2 (λj k=>(RR.getD j []).getD k 0) ha) (n+4)))⟩
 .obtain⟨p,hp,rfl⟩:=gt.mp hz;obtain⟨p1,p2⟩:=S.at' p hp;have h2:p.2<(RR.getD p.1 []).length:=by rw[lR _ p1];exact p2
  have h1:p.1<RR.length:=by exact O3 [.eq aD aH,.lt aO aH] (.lt aO aD) [[1,1,0,1]] rfl hR p1
  refine gR (RR.getD p.1 []) (by rw[ο,ω h1];exact c7 h1) _ ?_;rw[ο (l:=RR.getD p.1 []),ω h2];exact c7 h2
 .rw[aj];exact S.ord
theorem lp{s:Int}:∀{n:Nat}{d:D}{a:Int},d∈bA a s n->∃t:Nat,t<n/\d=.int (a+s*t)
 |0,d,a,h=>nomatch h
 |n+1,d,a,h=>by
  rcases c9.mp h with rfl|h
  .exact⟨0,by omega,by simp⟩
  .obtain⟨t,h1,rfl⟩:=lp h;refine⟨t+1,by omega,?_⟩;rw[Int.natCast_add,Int.mul_add,show s*((1:Nat):Int)=s by simp,Int.add_comm (s*(t:Int)) s,Int.add_assoc]
theorem fQ(s:Int):∀(n:Nat) (a:Int),(bA a s n).length=n
 |0,a=>rfl
 |n+1,a=>by rw[bA,av,fQ s n]
theorem tN{T:Tb}{a b c:Ex}{i j k:Int}(h1:aC T a env (.int i))(h2:aC T b env (.int j))(h3:aC T c env (.int k))(hi : -1000<=i/\i<=1000)(hj : -1000<=j/\j<=1000)(hk:k≠0)(Jk:k.natAbs<1000):cU T (.Jf a b c) env=.ok (bA i k (Γ i j k).toNat,[]):=by
 obtain⟨_,h1⟩:=h1;obtain⟨_,h2⟩:=h2;obtain⟨_,h3⟩:=h3;rw[cU,h1,aA,h2,aA,h3,aA];show(if(eK i&&eK j&&k != 0&&decide (k.natAbs<1073741824))=δ then _ else _)=_;rw[if_pos];have o:∀i:Int,-1000<=i/\i<=1000->eK i=δ:=λi h=>bt ⟨by omega,by omega⟩
 rw[o i hi,o j hj,bne_iff_ne.mpr hk,bt (by omega)];rfl
theorem iW(n:Nat):(Γ ((n:Int)-1) (-1) (-1)).toNat=n:=by
 unfold Γ;rw[if_neg (by decide)];by_cases h:0<n
 .rw[if_pos (by omega),show(-(-1):Int)=1 from rfl,Int.ediv_one];omega
 .rw[if_neg (by omega)];omega
noncomputable abbrev Bt(l:List Nat):Prop:=∀b∈l,b<2
theorem h3(n x c:Nat)(hc:c<=60):∃bs,Bt bs/\bs.length=c/\(T (n+1)).cl 3 [.int (x:Int),.int (c:Int)]=.ok (.lst (gD bs),δ):=by
 rw[fN,aN (F:=⟨2,2,b3⟩) rfl rfl];have V:=Tv.start [.int (x:Int),.int (c:Int)] 2;have hit:=tN (T:=T n) (aC.bin (op:=.Sub) (V.var (i:=1) rfl) (aC.cst (.int 1)) (z:=.int ((c:Int)-1)) rfl) (show aC (T n) (.neg Hv) _ (.int (-1))from⟨_,rfl⟩) (show aC (T n) (.neg Hv) _ (.int (-1))from⟨_,rfl⟩) (by omega) (by omega) (by decide) (by decide);obtain⟨m,h1,h2,_,h3⟩:=V.vw.IW (T:=T n) (pick:=[0]) (c:=.none) (e:=.bin .BitAnd (.bin .RShift HJ HG) Hv) (λd=>∃i:Nat,d=.int (i:Int)/\i<2) hit (by rw[fQ (-1),iW];omega) λa ha W w=>by
  obtain⟨t,ht,rfl⟩:=lp ha;rw[iW]at ht;refine⟨δ,by rw[jv],λ_=>⟨_,_,dO (d:=.int ((x / 2 ^ (c-1-t) &&& 1:Nat):Int)) (aC.bin (aC.bin (w.var rfl) (w.var rfl) (z:=.int ((x / 2 ^ (c-1-t):Nat):Int)) ?_) (aC.cst _) ?_) rfl,rfl,_,rfl,gq Nat.and_le_right (by decide)⟩⟩
  .show (if 0<=(c:Int)-1 + -1*(t:Int)then ζ ((x:Int) / 2 ^ ((c:Int)-1 + -1*(t:Int)).toNat)else ε).map D.int=_;rw[if_pos (by omega),show((c:Int)-1 + -1*(t:Int)).toNat=c-1-t by omega];show ζ (D.int _)=_;rw[Yv,Int.natCast_pow];rfl
  .show ζ (D.int (W1 _ ((1:Nat):Int)))=_;rw[lJ]
 obtain⟨gs,rfl,hg⟩:=pS h2;have:=h3 rfl;rw[aj,fQ (-1),iW]at this;exact⟨gs,hg,this,bM h1⟩
theorem h26(n:Nat)(gs:List Nat)(hl:gs.length<=133):∃bs,Bt bs/\bs.length=6*gs.length/\(T (n+2)).cl 26 [.lst (gD gs)]=.ok (.lst (gD bs),δ):=by
 rw[fN,aN (F:=⟨1,3,UL⟩) rfl rfl];exact(Tv.start [.lst (gD gs)] 3).sA (T:=T (n+1)) (Q:=λf=>∃bs,Bt bs/\bs.length=6*gs.length/\Rd (.lst (gD bs)) f) (d:=.lst (gD [])) mD λe V=>V.sS rfl (λm us=>∃l o,Bt l/\l.length+6*m.length=6*gs.length/\us=[lo gs,lo l δ,o]) ⟨[],ε,λ_ h=>(nomatch h),by simp,rfl⟩
  (λg m us e ⟨l,o,h1,h2,hu⟩ _=>by
   subst hu;rw[av]at h2;obtain⟨bs,q1,q2,q3⟩:=h3 n g 6 (by decide);exact⟨rfl,λe1 V=>V.M0 rfl (bR (V.var rfl) (aC.Ic 25) q3) (by omega) λe V=>V.nil ⟨l++bs,_,λb hb=>(i9.mp hb).elim (h1 b) (q1 b),by rw[aw];omega,rfl⟩⟩)
  λe us ⟨l,o,h1,h2,hu⟩ V=>by
   subst hu;exact⟨l,h1,by simpa using h2,V.ret rfl⟩
variable {r:Nat}
theorem oG(h:r<100):small (r:Int)=δ:=wD (by omega) (by omega)
variable {c:Nat}
theorem h28(n:Nat){m:Nat}(hr:r<100)(hc:c<100):∃b,(T (n+1)).cl 28 [.int (m:Int),.int (r:Int),.int (c:Int)]=.ok (.bl b,δ):=by
 rw[fN,aN (F:=⟨3,3,UJ⟩) rfl rfl];have V:=Tv.start [.int (m:Int),.int (r:Int),.int (c:Int)] 3;have R:∀{e:Ex}{k:Bool},aC (T n) e (aJ [.int (m:Int),.int (r:Int),.int (c:Int)] 3) (.bl k)->∀{a b:Ex}{op:Ya},e=.cmp op a b->∃b,Pc.ret (aP (T n) (.cons (.ret e) .nil) (aJ [.int (m:Int),.int (r:Int),.int (c:Int)] 3))=.ok (.bl b,δ):=λ{e k} h {a b op} z=>by
  subst z;obtain⟨R,h⟩:=h;have h':=h;rw[ev]at h;obtain⟨p,_,h⟩:=bK h;obtain⟨q,_,h⟩:=bK h;obtain⟨y,_,h⟩:=bK h;cases h;exact⟨k,bM h'⟩
 have go:∀{k:Int}{e:Ex}{r':bV},(∃b,Pc.ret (aP (T n) (.cons (.ret e) .nil) (aJ [.int (m:Int),.int (r:Int),.int (c:Int)] 3))=.ok (.bl b,δ))->(∃b,Pc.ret (aP (T n) r' (aJ [.int (m:Int),.int (r:Int),.int (c:Int)] 3))=.ok (.bl b,δ))->∃b,Pc.ret (aP (T n) (.cons (.ite (.cmp .Eq HG (.cst (.int k))) (.cons (.ret e) .nil) .nil) r') (aJ [.int (m:Int),.int (r:Int),.int (c:Int)] 3))=.ok (.bl b,δ):=λ{k e r'} h1 h2=>by
  have hc:aC (T n) (.cmp .Eq HG (.cst (.int k))) (aJ [.int (m:Int),.int (r:Int),.int (c:Int)] 3) (.bl ((m:Int)==k)):=aC.cmp (V.var rfl) (aC.cst _) rfl;rw[aP,pQ hc];cases(m:Int)==k with
  |true=>
   obtain⟨b,h1⟩:=h1;refine⟨b,?_⟩;rw[if_pos rfl];generalize aP (T n) (.cons (.ret e) .nil) _=f at h1;cases f with
   |nx e=>cases h1
   |_=>exact h1
  |false=>rw[if_neg (by decide),aP,tF];exact h2
 have v1:=V.var (T:=T n) (i:=1) rfl;have v2:=V.var (T:=T n) (i:=2) rfl;have c1:=λk=>aC.cst (T:=T n) (env:=aJ [.int (m:Int),.int (r:Int),.int (c:Int)] 3) (.int k)
 have md:=λ{e:Ex}{i:Int}(k:Int) (hk:0<k) (h:aC (T n) e (aJ [.int (m:Int),.int (r:Int),.int (c:Int)] 3) (.int i))=>aC.bin (op:=.Mod) h (c1 k) (z:=.int (i%k)) (by show(if 0<k then ζ (i%k)else ε).map D.int=_;rw[if_pos hk];rfl)
 have dv:=λ{e:Ex}{i:Int}(k:Int) (hk:0<k/\k<1073741824) (h:aC (T n) e (aJ [.int (m:Int),.int (r:Int),.int (c:Int)] 3) (.int i))=>aC.bin (op:=.FloorDiv) h (c1 k) (z:=.int (i / k)) (by show(if 0<k/\k<1073741824 then ζ (i / k)else ε).map D.int=_;rw[if_pos hk];rfl)
 refine go (R (aC.cmp (md 2 (by decide) v1) (c1 0) rfl) rfl) (go (R (aC.cmp (md 2 (by decide) v2) (c1 0) rfl) rfl) (go (R (aC.cmp (md 2 (by decide) (aC.bin v1 v2 (z:=.int ((r:Int)+c)) rfl)) (c1 0) rfl) rfl) (go (R (aC.cmp (md 3 (by decide) (aC.bin v1 (aC.bin (c1 2) v2 (z:=.int (2*(c:Int))) rfl) (z:=.int ((r:Int)+2*c)) rfl)) (c1 0) rfl) rfl)
  (go (R (aC.cmp (md 2 (by decide) (aC.bin (dv 3 (by decide) v1) (dv 2 (by decide) v2) (z:=.int ((r:Int) / 3+(c:Int) / 2)) rfl)) (c1 0) rfl) rfl) (go (R (aC.cmp (md 2 (by decide) (md 5 (by decide) (aC.bin v1 v2 (Ac (.inl (oG hr)))))) (c1 0) rfl) rfl) (go (R (aC.cmp (md 4 (by decide) (aC.bin (aC.bin v1 v1 (Ac (.inl (oG hr)))) v2 (z:=.int ((r:Int)*r+c)) rfl)) (c1 2) rfl) rfl) (R (aC.cmp (md 7 (by decide) (aC.bin v1 (aC.bin v2 v2 (Ac (.inl (oG hc)))) (z:=.int ((r:Int)+c*c)) rfl)) (c1 3) rfl) rfl)))))))
theorem h32(n:Nat){v:Int}{m r c:Nat}(hr:r<100)(hc:c<100):∃u:Int,(T (n+2)).cl 32 [.int v,.int (m:Int),.tup [.int (r:Int),.int (c:Int)]]=.ok (.int u,δ):=by
 obtain⟨b,h⟩:=h28 n (m:=m) hr hc;rw[fN,aN (F:=⟨3,3,UE⟩) rfl rfl];have V:=Tv.start [.int v,.int (m:Int),.tup [.int (r:Int),.int (c:Int)]] 3;have h1:aC (T (n+1)) (.and (.cmp .IsNot HG (.cst .Ii)) (.call 28 (HS HJ (.ix HH Ht) (.ix HH Hv)))) (aJ [.int v,.int (m:Int),.tup [.int (r:Int),.int (c:Int)]] 3) (.bl b):=
  aC.and (k:=δ) (aC.cmp (V.var rfl) (aC.cst _) rfl) (λ_=>aC.JY (V.var rfl) (aC.ix (V.var rfl) (aC.cst _) rfl) (aC.ix (V.var rfl) (aC.cst _) rfl) h) (λh=>by cases h)
 cases b with
 |true=>exact⟨1-v,Wp.NI h1 (dO (aC.bin (aC.cst _) (V.var rfl) rfl) rfl)⟩
 |false=>exact⟨v,Wp.ite (Q:=Rd _) h1 (λh=>by cases h) λ_=>bM (eZ (V.var rfl) rfl)⟩
variable {d:D}
theorem lz(h:pl n d=δ):∃r c:Nat,d=.tup [.int (r:Int),.int (c:Int)]/\r<n/\c<n:=by
 unfold pl at h;split at h
 .rw[ai]at h;obtain⟨r,rfl,hr⟩:=oV h.1;obtain⟨c,rfl,hc⟩:=oV h.2;exact⟨r,c,rfl,hr,hc⟩
 .cases h
theorem rE(h:ce n d=δ):∃(r c:Nat) (v:Int),d=.tup [.int (r:Int),.int (c:Int),.int v]/\r<n/\c<n:=by
 unfold ce at h;split at h
 .rw[ai,ai]at h;obtain⟨r,rfl,hr⟩:=oV h.1.1;obtain⟨c,rfl,hc⟩:=oV h.1.2;obtain⟨v,rfl⟩:=ui h.2;exact⟨r,c,v,rfl,hr,hc⟩
 .cases h
theorem uo(h:i<n):rg n (.int (i:Int))=δ:=bt (by omega)
theorem CC(hr:r<n)(hc:c<n):pl n (.tup [.int (r:Int),.int (c:Int)])=δ:=by
 show(rg n _&&rg n _)=δ;rw[uo hr,uo hc];rfl
theorem Ct(v:Int)(hr:r<n)(hc:c<n):ce n (.tup [.int (r:Int),.int (c:Int),.int v])=δ:=by
 show(rg n _&&rg n _&&FP (.int v))=δ;rw[uo hr,uo hc];rfl
theorem pE(h:ce n d=δ):d.flat=δ:=by obtain⟨r,c,v,rfl,_⟩:=rE h;rfl
variable {f:D->Bool}{l:List D}
theorem qB(h:∀x∈l,f x=δ)(hd:f d=δ):∀x∈l ++ [d],f x=δ:=λx hx=>(i9.mp hx).elim (h x) λe=>by rw[gr.mp e];exact hd
theorem R5{n:Nat}(ha:a<5){l:List D}(hl:∀d∈l,pl 31 d=δ)(hn:l.length<=2000)(hd:d=.IA []\/∃ks,d=.IK ks)(RZ:(T n).cl 13 [cW a]=.ok (d,δ))(RY:(T n).cl 14 [cW a]=.ok (.lst l,δ)):∃m,(∀d∈m,d∈l)/\m.length<=l.length/\(T (n+1)).cl 12 [cW a]=.ok (.lst m,δ):=by
 rw[fN,aN (F:=⟨1,2,UZ⟩) rfl rfl];refine(Tv.start [cW a] 2).sA (T:=T n) (Q:=λf=>∃m:List D,(∀d∈m,d∈l)/\m.length<=l.length/\Rd (.lst m) f) (bZ ((Tv.start [cW a] 2).var rfl) RZ) λe V=>?_
 obtain⟨m,h1,h2,h3,_⟩:=V.vw.IW (T:=T n) (pick:=[1]) (c:=.some (.cmp .NotIn HG HJ)) (it:=.seq (.call 14 (HQ HG))) (e:=.var 0) (λd=>d∈l) (by rw[cU,bZ (V.var rfl) RY,aA];rfl) (by exact O1 [.le aD 2000] (.le aD 10000) [[1,1]] rfl hn) λx hx W w=>by
  obtain⟨i,j,rfl,_⟩:=lz (hl x hx);have:∃k,inD (.tup [.int (i:Int),.int (j:Int)]) d=ζ k:=by
   rcases hd with rfl|⟨ks,rfl⟩
   .exact⟨γ,rfl⟩
   .exact⟨_,rfl⟩
  obtain⟨k,hk⟩:=this;obtain⟨R,q⟩:=w.var (T:=T n) (i:=0) rfl;exact⟨!k,Tn (aC.cmp (w.var rfl) (w.var rfl) (by show(inD _ d).map _=_;rw[hk];rfl)),λ_=>⟨_,R,q,rfl,hx⟩⟩
 exact⟨m,h2,h3,bM h1⟩
theorem Qu{d:D}(hd:d=.IA []\/∃ks,d=.IK ks/\ks.length<=900){i j:Nat}(hi:i<31):∃ks,sT d (.tup [.int (i:Int),.int (j:Int)]) (.bl δ)=ζ (.IK ks)/\ks.length<=(match d with|.IK ks=>ks.length|_=>0)+1:=by
 have p:iL (i:Int) (j:Int)=δ:=by
  unfold iL;rw[show((i:Int)==42)=γ from beq_eq_false_iff_ne.mpr (by omega)];rfl
 rcases hd with rfl|⟨ks,rfl,hk⟩
 .exact⟨_,by show(if(qg (.bl δ)&&iL (i:Int) j)=δ then _ else _)=_;rw[p];rfl,ao _⟩
 .refine⟨sD ks [i,j],by show(if((qg (.bl δ)&&iL (i:Int) j)&&decide (ks.length<lim))=δ then _ else _)=_;rw[p,bt (gq hk (by decide))];rfl,?_⟩;unfold sD;split<;>simp
def dM(n:Nat)(d:D):Prop:=d=.IA []\/∃ks,d=.IK ks/\ks.length<=n
theorem zB(h:dM n d)(hn:n<=900){i j:Nat}(hi:i<31):∃d',sT d (.tup [.int (i:Int),.int (j:Int)]) (.bl δ)=ζ d'/\dM (n+1) d':=by
 obtain⟨ks,h1,h2⟩:=Qu (d:=d) (h.imp id λ⟨ks,e,l⟩=>⟨ks,e,by exact O2 [.le aD 900,.le aH aD] (.le aH 900) [[1,1,1]] rfl hn l⟩) (i:=i) (j:=j) hi;refine⟨_,h1,.inr ⟨ks,rfl,?_⟩⟩;rcases h with rfl|⟨Mh,rfl,l⟩
 .exact a8 h2 (by simp)
 .exact a8 h2 (by simp;exact O2 [.le aD aH] (.le aD aH) [[1,1]] rfl l)
variable {l1 l2 l3:List D}
theorem RZ{n:Nat}(ha:a<5)(m1:∀d∈l1,ce (sz a) d=δ)(m2:∀d∈l2,ce (sz a) d=δ)(m3:∀d∈l3,pl (sz a) d=δ)(n1:l1.length<=100)(n2:l2.length<=50)(n3:l3.length<=16)(h7:(T n).cl 7 [cW a]=.ok (.lst l1,δ))(R7:(T n).cl 10 [cW a]=.ok (.lst l2,δ))(R6:(T n).cl 11 [cW a]=.ok (.lst l3,δ)):∃d,dM 200 d/\(T (n+1)).cl 13 [cW a]=.ok (d,δ):=by
 rw[fN,aN (F:=⟨1,6,UY⟩) rfl rfl];have mm:∀d∈l1++l2,ce (sz a) d=δ:=λd h=>(i9.mp h).elim (m1 d) (m2 d)
 have V:=Tv.start [cW a] 6;refine V.sA (T:=T n) (Q:=λf=>∃d,dM 200 d/\Rd d f) (d:=.IA []) rfl λe V=>lG (α:=D) (g:=id) (R:=[]) (l:=l1++l2) (λm us=>(∀x∈m,ce (sz a) x=δ)/\∃d o2 o3 o4 o5,dM (150-m.length) d/\m.length<=150/\us=[ζ (cW a,γ),ζ (d,δ),o2,o3,o4,o5]) (by rw[cU,AV (aC.Jm (V.var rfl) h7) (aC.Jm (V.var rfl) R7) (by exact O2 [.le aD 100,.le aH 50] (.le (aD+aH) 10000) [[1,1,1]] rfl n1 n2) λd hd=>pE (mm d hd),aA,ip];rfl) (by rw[bN];exact V) ⟨mm,_,_,_,_,_,.inl rfl,by simp;exact O2 [.le aD 100,.le aH 50] (.le (aD+aH) 150) [[1,1,1]] rfl n1 n2,rfl⟩ (λx m us e ⟨hm,d,o2,o3,o4,o5,hd,ml,hu⟩ V=>?_) λe us ⟨_,d,o2,o3,o4,o5,hd,_,hu⟩ V=>?_
 .subst hu;obtain⟨r,c,v,rfl,hr,hc⟩:=rE (hm _ ah);rw[av]at hd ml;obtain⟨d',q1,q2⟩:=zB hd (by exact O1 [.le aD 150] (.le aD 900) [[1,1]] rfl zT) (i:=r) (j:=c) (by have:r<15+4*a:=hr;exact O2 [.lt aD 5,.lt aH (15+(Ol 4 aD))] (.lt aH 31) [[1,1,4]] rfl ha this);obtain⟨e1,z,V⟩:=V.LY (i:=2) (j:=3) (k:=4) [] (x:=.int (r:Int)) (y:=.int (c:Int)) (z:=.int v) rfl rfl rfl;exact⟨e1,z,V.sP rfl (aC.of (DF (eZ (V.var rfl) rfl) (eZ (V.var rfl) rfl))) (aC.cst _) q1 λe V=>V.nil ⟨λx hx=>hm x (ae _ hx),d',_,_,_,_,by rw[show 150-m.length=150-(m.length+1)+1 by exact O3 [.eq (aD+aH) 150,.eq (aO+(aH+1)) 150] (.eq aD (aO+1)) [[1,1,0,0,1],[1,0,1,1]] rfl (lV (O1 [.le (aD+1) 150] (.le aD 150) [[1,1]] rfl ml)) (lV (O1 [.le (aD+1) 150] (.le (aD+1) 150) [[1,1]] rfl ml))];exact q2,by exact O1 [.le (aD+1) 150] (.le aD 150) [[1,1]] rfl ml,rfl⟩⟩
 .subst hu;refine lG (α:=D) (g:=id) (R:=[]) (l:=l3) (λm us=>(∀x∈m,pl (sz a) x=δ)/\∃d o2 o3 o4 o5,dM (170-m.length) d/\m.length<=16/\us=[ζ (cW a,γ),ζ (d,δ),o2,o3,o4,o5]) (by rw[cU,bZ (V.var rfl) R6,aA,ip];rfl) (by rw[bN];exact V) ⟨m3,_,_,_,_,_,hd.imp id λ⟨ks,e,l⟩=>⟨ks,e,by simp at l;exact O3 [.le aD 16,.le aH 150,.le 170 (aO+aD)] (.le aH aO) [[1,1,1,1]] rfl n3 l Dd⟩,n3,rfl⟩ (λx m us e ⟨hm,d,o2,o3,o4,o5,hd,ml,hu⟩ V=>?_) λe us ⟨_,d,o2,o3,o4,o5,hd,_,hu⟩ V=>by
   subst hu;exact⟨d,hd.imp id λ⟨ks,e,l⟩=>⟨ks,e,by simp at l;exact O1 [.le aD 170] (.le aD 200) [[1,1]] rfl l⟩,V.ret rfl⟩
  subst hu;obtain⟨r,c,rfl,hr,hc⟩:=lz (hm _ ah);rw[av]at hd ml;obtain⟨d',q1,q2⟩:=zB hd (by exact O1 [.le aD 170] (.le aD 900) [[1,1]] rfl zT) (i:=r) (j:=c) (by have:r<15+4*a:=hr;exact O2 [.lt aD 5,.lt aH (15+(Ol 4 aD))] (.lt aH 31) [[1,1,4]] rfl ha this);obtain⟨e1,z,V⟩:=V.IX (i:=5) [] (d:=.tup [.int (r:Int),.int (c:Int)]) rfl;exact⟨e1,z,V.sP rfl (V.var rfl) (aC.cst _) q1 λe V=>V.nil ⟨λx hx=>hm x (ae _ hx),d',_,_,_,_,by rw[show 170-m.length=170-(m.length+1)+1 by exact O3 [.eq (aD+aH) 170,.eq (aO+(aH+1)) 170] (.eq aD (aO+1)) [[1,1,0,0,1],[1,0,1,1]] rfl (lV (O1 [.le (aD+1) 16] (.le aD 170) [[1,1]] rfl ml)) (lV (O1 [.le (aD+1) 16] (.le (aD+1) 170) [[1,1]] rfl ml))];exact q2,by exact O1 [.le (aD+1) 16] (.le aD 16) [[1,1]] rfl ml,rfl⟩⟩
theorem Qm{T:Tb}{b c:Ex}{d:D}(h:aC T b env (.int (n:Int)))(h':aC T c env (.int 3))(hn:n<=31):∃l,cU T (.Jf Ht b c) env=.ok (l,[])/\l.length<=11/\∀d∈l,∃t:Nat,d=.int (t:Int)/\t<n:=by
 refine⟨_,tN (aC.cst _) h h' (by omega) (by omega) (by decide) (by decide),?_,λd hd=>?_⟩
 .unfold Γ;rw[fQ 3,if_pos (by decide)];split<;>omega
 .obtain⟨t,ht,rfl⟩:=lp hd;unfold Γ at ht;rw[if_pos (by decide)]at ht;exact⟨3*t,by rw[Ě,Ò];rfl,by split at ht<;>omega⟩
theorem RY{n:Nat}(ha:a<5):∃l,(∀d∈l,pl (sz a) d=δ)/\l.length<=1100/\(T (n+1)).cl 14 [cW a]=.ok (.lst l,δ):=by
 rw[fN,aN (F:=⟨1,7,UX⟩) rfl rfl];have e0:cW a=.int ((sz a:Nat):Int):=by show D.int (15+4*(a:Int))=D.int (((15+4*a:Nat)):Int);congr 1
 have Lm:sz a<=31:=by show 15+4*a<=31;exact O1 [.lt aD 5] (.le (15+(Ol 4 aD)) 31) [[1,4]] rfl ha
 rw[e0];generalize sz a=s at Lm ⊢;have V:=Tv.start [.int (s:Int)] 7;refine V.sA (T:=T n) (Q:=λf=>∃l:List D,(∀d∈l,pl s d=δ)/\l.length<=1100/\Rd (.lst l) f) (d:=.lst []) mD λe V=>V.sA (d:=.bl γ) rfl λe V=>?_
 obtain⟨l,hit,ll,hl⟩:=Qm (T:=T n) (d:=.Ii) (V.var (i:=0) rfl) (aC.Ic 13) Lm;refine lG (α:=D) (g:=id) (R:=[]) (l:=l) (λm us=>(∀d∈m,∃t:Nat,d=.int (t:Int)/\t<s)/\∃(L:List D) (k:Bool) (o3 o4 o5 o6:_),(∀d∈L,pl s d=δ)/\L.length+93*m.length<=1023/\us=[no s,ζ (.lst L,δ),ζ (.bl k,δ),o3,o4,o5,o6]) (by rw[hit,ip]) (by rw[bN];exact V) ⟨hl,[],_,_,_,_,_,λ_ h=>(nomatch h),by simp;exact O1 [.le aD 11] (.le (Ol 93 aD) 1023) [[1,93]] rfl ll,rfl⟩ (λx m us e ⟨hm,L,k,o3,o4,o5,o6,hL,lL,hu⟩ V=>?_) λe us ⟨_,L,k,o3,o4,o5,o6,hL,lL,hu⟩ V=>by
  subst hu;exact⟨L,hL,by omega,V.ret rfl⟩
 subst hu;obtain⟨t,rfl,ht⟩:=hm _ ah;rw[av]at lL;obtain⟨e1,z,V⟩:=V.IX (i:=3) [] (d:=.int (t:Int)) rfl;refine⟨e1,z,V.sR (V.var rfl) (by exact O1 [.le aD 31] (.le aD 1000) [[1,1]] rfl Lm) (λp us=>∃(L':List D) (o4 o5 o6:_),(∀d∈L',pl s d=δ)/\L'.length<=L.length+3*p/\us=[no s,ζ (.lst L',δ),ζ (.bl k,δ),no t δ,o4,o5,o6]) ⟨L,_,_,_,hL,ao _,rfl⟩ (λp us e hp ⟨L',o4,o5,o6,RS,VR,hu⟩ _=>?_) λe us ⟨L',o4,o5,o6,RS,VR,hu⟩ V=>by
  subst hu;exact V.sA (bnM (V.var rfl)) λe V=>V.nil ⟨λd hd=>hm d (ae _ hd),L',_,_,_,_,_,RS,by exact O4 [.le aD 31,.le (aH+(Ol 93 (aO+1))) 1023,.le cA (aH+(Ol 3 aD))] (.le (cA+(Ol 93 aO)) 1023) [[1,1,1,3]] rfl Lm lL VR,rfl⟩⟩
 subst hu;refine⟨rfl,λe1 V=>?_⟩;have hc:∃c:Nat,c<s/\ev (T n) (.ite HH (.bin .Sub (.bin .Sub HG Hv) HL) HL) e1=.ok (.int (c:Int),.mv []):=by
  obtain⟨R,h2⟩:=V.var (T:=T n) (i:=2) rfl;rw[ev,h2,aA];cases k with
  |true=>exact⟨s-1-p,by exact O4 [.eq (aD+1) aH,.eq (aO+cA) aD] (.lt aO aH) [[1,1,0,1]] rfl (lV (O2 [.lt aD aH] (.le 1 aH) [[1,1]] rfl hp)) (lV (O3 [.lt aD aH,.eq (aO+1) aH] (.le aD aO) [[1,0,1,1]] rfl hp (lV (O2 [.lt aD aH] (.le 1 aH) [[1,1]] rfl hp)))),dO (T:=T n) (yY (yY (n:=1) (V.var rfl) (aC.cst _) (by exact O2 [.lt aD aH] (.le 1 aH) [[1,1]] rfl hp)) (V.var rfl) (by exact O3 [.lt aD aH,.le aH (aO+1)] (.le aD aO) [[1,1,1]] rfl hp Dd)) rfl⟩
  |false=>exact⟨p,hp,eZ (T:=T n) (V.var rfl) rfl⟩
 obtain⟨c,Pn,hc⟩:=hc;refine V.sA hc λe V=>?_
 have hit:=zi (T:=T n) (V.var (i:=3) rfl) (aC.OF (k:=.min2) (V.var (i:=3) rfl |> λh=>fO h (aC.Ic (T:=T n) (env:=e) 13)) (V.var (i:=0) rfl) (z:=.int ((min (t+3) s:Nat):Int)) (by
  show ζ (D.int (if(s:Int)<((t+3:Nat):Int)then(s:Int)else((t+3:Nat):Int)))=_;congr 2;split<;>omega)) (by exact O2 [.le aD 31,.lt aH aD] (.le aH 1000) [[1,1,1]] rfl Lm ht) (by exact O2 [.le aD 31,.le aH aD] (.le aH 1000) [[1,1,1]] rfl Lm WQ)
 refine lG (α:=Nat) (g:=λk=>.int (k:Int)) (R:=[]) (l:=W2 t (min (t+3) s-t)) (λm us=>(∀r∈m,r<s)/\∃(M:List D) (o6:_),(∀d∈M,pl s d=δ)/\M.length+m.length<=L.length+3*(p+1)/\us=[no s,ζ (.lst M,δ),ζ (.bl k,δ),no t δ,no p δ,no c δ,o6]) hit (by rw[bN];exact V) ⟨λr hr=>by have:=å.mp hr;omega,L',_,RS,by rw[ig];omega,rfl⟩ (λr m us e ⟨hm,M,o6,hM,lM,hu⟩ V=>?_) λe us ⟨_,M,o6,hM,lM,hu⟩ V=>by
  subst hu;exact V.nil ⟨M,_,_,_,hM,by simpa using lM,rfl⟩
 subst hu;rw[av]at lM;obtain⟨e1,z,V⟩:=V.IX (i:=6) [] (d:=.int (r:Int)) rfl;exact⟨e1,z,V.sM rfl (DF (eZ (V.var rfl) rfl) (eZ (V.var rfl) rfl)) (by exact O6 [.le aD 31,.le (aH+(Ol 93 (aO+1))) 1023,.lt cA aD,.le (iB+(zR+1)) (aH+(Ol 3 (cA+1)))] (.lt iB 10000) [[1,1,3,1,3]] rfl Lm lL hp lM) λe V=>V.nil ⟨λr hr=>hm r (ae _ hr),_,_,qB hM (CC (hm r ah) Pn),by simp;exact O4 [.le (aD+(aH+1)) (aO+(Ol 3 (cA+1)))] (.le (aD+1+aH) (aO+(Ol 3 (cA+1)))) [[1,1]] rfl lM,rfl⟩⟩
theorem jj(l:List Nat):(tx l).length=l.length:=by simp[tx,Ĺ]
variable {cs:List Nat}
theorem wQ(h:cs.length<=1000):(tx cs).length<=lim:=by rw[jj];exact nu h
theorem VW(hl:cs.length<=1000)(h:i<cs.length):tf (.str (tx cs)) (.int (i:Int))=ζ (.str (tx [cs[i]])):=by
 show(if(tx cs).length<=lim then((Pc.iZ cs.length (i:Int)).bind λj=>cs[j]?).map λc=>D.str ⟨#[c]⟩else ε)=_;rw[if_pos (wQ hl),fK h];show(cs[i]?).map _=_;rw[ω h];rfl
theorem pb(hl:cs.length<=1000):eA .len [.str (tx cs)]=ζ (.int (cs.length:Int)):=by
 show(if(tx cs).length<=lim then ζ (D.int ((tx cs).length:Int))else ε)=_;rw[if_pos (wQ hl),jj]
theorem om:∀c,c<128->∀k,k<4->GJ (tx [c]) (KS k)=jd k c:=by decide +kernel
theorem DY:∀c,c<128\/jd 3 c=γ:=λc=>by
 have:(KS 3).cps.toList.all (λc=>decide (c<128))=δ:=by decide +kernel
 cases h:jd 3 c with
 |false=>exact .inr rfl
 |true=>exact .inl (bg (cq.mp this c (jp.mp h)))
noncomputable abbrev Good(t:List Nat):Prop:=∀c∈t,jd 3 c=δ
theorem low(h:jd 3 c=δ):c<128:=(DY c).elim id λe=>by rw[h]at e;cases e
noncomputable def fb(m:Nat):Nat:=if m=0 then 0 else 3*m+1
noncomputable def l9(k c:Nat):Nat:=if k=1 then 8+10*(c / 3)+fb (c%3)else 8+(if k=2 then 5 else 7)*c
noncomputable def QP(v:Nat):Rs (D×Bool)->Bool
 |.ok (.int i,δ)=>decide (i=(v:Int))
 |_=>γ
theorem Dm{v:Nat}{r:Rs (D×Bool)}(h:QP v r=δ):r=.ok (.int (v:Int),δ):=by
 unfold QP at h;split at h
 .rw[bg h]
 .cases h
theorem f15(n:Nat):allB 3 (λk=>allB 65 λc=>QP (l9 (k+1) c) (Pc.run fns gl 1000 (n+1) 15 [.int ((k+1:Nat):Int),.int (c:Int)]))=δ:=by kernel_rfl
theorem Fx(n:Nat)(h1:1<=k)(h3:k<=3)(hc:c<=64):(T (n+1)).cl 15 [.int (k:Int),.int (c:Int)]=.ok (.int ((l9 k c:Nat):Int),δ):=by
 obtain⟨j,rfl⟩:∃j,k=j+1:=⟨k-1,by omega⟩;exact Dm (bE (bE (f15 n) j (by omega)) c (by omega))
noncomputable abbrev Q4:=Nat×Nat×Nat×Nat
noncomputable def q4(q:Q4):D:=.tup [.int (q.1:Int),.int (q.2.1:Int),.int (q.2.2.1:Int),.int (q.2.2.2:Int)]
noncomputable abbrev z4:Q4:=(0,0,0,0)
noncomputable def one(k c:Nat)(q:Q4):Q4:=(l9 k c+q.1,1+q.2.1,k,c)
noncomputable def pH(k:Nat)(B:List Q4)(s m:Nat):List Q4:=(bv m).map λj=>one k (j+1) (B.getD (s+(j+1)) z4)
theorem wX(k:Nat)(B:List Q4)(s m:Nat):pH k B s (m+1)=pH k B s m ++ [one k (m+1) (B.getD (s+(m+1)) z4)]:=by unfold pH;rw[List.range_succ,dq];rfl
noncomputable abbrev oq(l:List Q4)(b:Bool:=γ):Option (D×Bool):=ζ (.lst (l.map q4),b)
theorem zc(l m:List Q4)(b:Bool):oq (l++m) b=ζ (.lst (l.map q4++m.map q4),b):=by rw[oq,dq]
theorem CZ(l:List Q4)(i:Nat)(q:Q4)(b:Bool):oq (l.set i q) b=ζ (.lst ((l.map q4).set i (q4 q)),b):=by rw[oq,Za]
variable {B:List Q4}
theorem Et(h:i<B.length):tf (.lst (B.map q4)) (.int (i:Int))=ζ (q4 (B.getD i z4)):=by
 show(Pc.iZ (B.map q4).length (i:Int)).bind (λj=>(B.map q4)[j]?)=_;rw[fK (by rw[aj];exact h)];show(B.map q4)[i]? = _;rw[τ,ο,ω h];rfl
theorem B7{T:Tb}{a b c e:Ex}{u v w:D}(h:ev T a env=.ok (u,.mv []))(h':ev T b env=.ok (v,.mv []))(h2:ev T c env=.ok (w,.mv []))(h3:ev T e env=.ok (x,.mv [])):ev T (.tup (.cons a (.cons b (.cons c (.cons e .nil))))) env=.ok (.tup [u,v,w,x],.mv []):=by
 rw[ev,aT,h,aA,aT,h',aA,aT,h2,aA,aT,h3,aA,aT,aA,aA,aA,aA,aA];rfl
theorem GN{T:Tb}{a b:Ex}{x y:Nat}(h:aC T a env (.int (x:Int)))(h':aC T b env (.int (y:Int))):aC T (.blt .min2 (.cons a (.cons b .nil))) env (.int ((min x y:Nat):Int)):=aC.OF h h' (by
 show ζ (D.int (if(y:Int)<(x:Int)then(y:Int)else(x:Int)))=_;congr 2;split<;>omega)
variable {s:Nat}
theorem h22(n:Nat)(h1:1<=k)(h3:k<=3)(hB:s+min r 64<B.length)(hr:r<=900):(T (n+2)).cl 22 [.lst (B.map q4),.int (s:Int),.int (k:Int),.int (r:Int)]=.ok (.lst ((pH k B s (min r 64)).map q4),δ):=by
 rw[fN,aN (F:=⟨4,7,UP⟩) rfl rfl];have V:=Tv.start [.lst (B.map q4),.int (s:Int),.int (k:Int),.int (r:Int)] 7;refine V.sA (T:=T (n+1)) (Q:=Rd _) (d:=.lst (([]:List Q4).map q4)) mD λe V=>uD (n:=min r 64) (g:=λj=>.int ((j+1:Nat):Int)) (R:=[]) (by
  refine(zi (m:=1) (n:=min r 64+1) (aC.cst _) (fO (n:=1) (GN (y:=64) (V.var rfl) (aC.Ic 22)) (aC.cst _)) (by decide) (by omega)).trans ?_;rw[Yg,gD,List.range'_eq_map_range,gc];congr 3;funext j;show D.int ((1+j:Nat):Int)=_;rw[fh]) (by rw[bN];exact V)
  (λm us=>∃o5 o6,us=[oq B,no s,no k,no r,oq (pH k B s m) δ,o5,o6]) ⟨_,_,rfl⟩ (λm us e hm ⟨o5,o6,hu⟩ V=>?_) λe us ⟨o5,o6,hu⟩ V=>by subst hu;exact V.ret rfl
 subst hu;obtain⟨e1,z,V⟩:=V.IX (i:=5) [] (d:=.int ((m+1:Nat):Int)) rfl;have hs:s+(m+1)<B.length:=by omega
 refine⟨e1,z,V.sA (vR (aC.ix (V.var rfl) (fO (V.var rfl) (V.var rfl)) (Et hs)) rfl) λe V=>V.sM rfl (B7 (dO (fO (aC.JB (V.var rfl) (V.var rfl) (Fx n h1 h3 (by omega))) (aC.ix (V.var rfl) (aC.cst (.int 0)) rfl)) rfl) (dO (fO (m:=1) (aC.cst _) (aC.ix (V.var rfl) (aC.cst (.int 1)) rfl)) rfl) (eZ (V.var rfl) rfl) (eZ (V.var rfl) rfl)) (by simp[pH];omega) λe V=>V.nil ⟨_,_,by rw[wX,zc];rfl⟩⟩
theorem mf{lt:Nat->Nat->Bool}{f:Nat->Nat}(h1:∀i j,lt i j=δ->f i<=f j)(h2:∀i j,lt i j=γ->f j<=f i):∀(k j m:Nat),m<j->f (cD lt k j m)<=f m/\(∀i,j<=i->i<j+k->f (cD lt k j m)<=f i)/\cD lt k j m<j+k
 |0,j,m,h=>⟨ao _,λi a b=>by omega,h⟩
 |k+1,j,m,h=>by
  unfold cD;cases e:lt j m with
  |true=>
   obtain⟨a,b,c⟩:=mf h1 h2 k (j+1) j (by omega);rw[if_pos rfl];exact⟨a8 a (h1 _ _ e),λi p q=>(æ p).elim (λz=>z ▸ a) λz=>b i z (by omega),by omega⟩
  |false=>
   obtain⟨a,b,c⟩:=mf h1 h2 k (j+1) m (by omega);rw[if_neg (by decide)];exact⟨a,λi p q=>(æ p).elim (λz=>z ▸ a8 a (h2 _ _ e)) λz=>b i z (by omega),by omega⟩
noncomputable def k4(q:Q4):List Int:=[(q.1:Int),(q.2.1:Int),(q.2.2.1:Int),(q.2.2.2:Int)]
theorem vU:∀l:List Q4,me (l.map q4)=ζ (l.map k4)
 |[]=>rfl
 |q::l=>by
  show(vh [.int (q.1:Int),.int (q.2.1:Int),.int (q.2.2.1:Int),.int (q.2.2.2:Int)]).bind (λk=>if k.isEmpty then ε else(me (l.map q4)).map (k :: ·))=_;rw[vU l];rfl
theorem CB(a b:Q4):(eN (k4 a) (k4 b)=δ->a.1<=b.1)/\(eN (k4 a) (k4 b)=γ->b.1<=a.1):=by
 have e:eN (k4 a) (k4 b)=if((a.1:Int)==b.1)=δ then eN [(a.2.1:Int),a.2.2.1,a.2.2.2] [(b.2.1:Int),b.2.2.1,b.2.2.2]else decide ((a.1:Int)<b.1):=rfl
 rw[e];by_cases h:(a.1:Int)=b.1
 .exact⟨λ_=>by omega,λ_=>by omega⟩
 .rw[if_neg (by rw[eo];exact h),bz,decide_eq_false_iff_not];exact⟨λ_=>by omega,λ_=>by omega⟩
theorem FZ{l:List Q4}(h:l≠[]):∃q∈l,(∀p∈l,q.1<=p.1)/\eA .min2 [.lst (l.map q4)]=ζ (q4 q):=by
 have h0:0<l.length:=List.length_pos_iff.mpr h;have g:∀i,((l.map k4).getD i [])=if i<l.length then k4 (l.getD i z4)else[]:=λi=>by
  rw[ο,τ];split
  .rw[ω ‹_›,ο,ω ‹_›];rfl
  .rw[XH (by omega)];rfl
 obtain⟨a,b,c⟩:=mf (lt:=λi j=>eN (k4 (l.getD i z4)) (k4 (l.getD j z4))) (f:=λi=>(l.getD i z4).1) (λi j=>(CB _ _).1) (λi j=>(CB _ _).2) (l.length-1) 1 0 (by decide);have eb:∀(k j m:Nat),m<j->j+k<=l.length->cD (λi j=>eN ((l.map k4).getD i []) ((l.map k4).getD j [])) k j m=cD (λi j=>eN (k4 (l.getD i z4)) (k4 (l.getD j z4))) k j m:=by
  intro k
  induction k with
  |zero=>exactλ_ _ _ _=>rfl
  |succ k ih=>
   intro j m h1 h2;show cD _ k (j+1) (if eN ((l.map k4).getD j []) ((l.map k4).getD m [])then j else m)=cD _ k (j+1) (if eN (k4 (l.getD j z4)) (k4 (l.getD m z4))then j else m);rw[g j,g m,if_pos (show j<l.length by omega),if_pos (show m<l.length by omega)];exact ih _ _ (by split<;>omega) (by omega)
 generalize hb:cD (λi j=>eN (k4 (l.getD i z4)) (k4 (l.getD j z4))) (l.length-1) 1 0=B at a b c;have hB:B<l.length:=by omega
 have gB:l.getD B z4=l[B]:=by rw[ο,ω hB];rfl
 refine⟨l.getD B z4,by rw[gB];exact c7 hB,λp hp=>?_,?_⟩
 .obtain⟨i,hi,rfl⟩:=XQ.mp hp;have gi:l.getD i z4=l[i]:=by rw[ο,ω hi];rfl
  rw[<-gi];by_cases z:i=0
  .subst z;exact a
  .exact b i (by omega) (by omega)
 .show minD (l.map q4)=_;unfold minD;rw[if_neg (by rw[Xz];simpa using h)];rw[vU];show(l.map q4)[cD _ ((l.map q4).length-1) 1 0]? = _;rw[aj,eb _ _ _ (by decide) (by omega),hb,τ,ω hB,gB];rfl
structure Pz(t:List Nat)(i k c:Nat):Prop where
 k1:1<=k
 k3:k<=3
 c1:1<=c
 Lj:c<=64
 le:i+c<=t.length
 al:∀x∈(t.drop i).take c,jd k x=δ
structure sj(t:List Nat)(s:Nat)(B:List Q4):Prop where
 len:B.length=t.length+1
 z:B.getD t.length z4=z4
 le:∀i k c,s<=i->Pz t i k c->(B.getD i z4).1<=l9 k c+(B.getD (i+c) z4).1
 eq:∀i,s<=i->i<t.length->Pz t i (B.getD i z4).2.2.1 (B.getD i z4).2.2.2/\(B.getD i z4).1=l9 (B.getD i z4).2.2.1 (B.getD i z4).2.2.2+(B.getD (i+(B.getD i z4).2.2.2) z4).1
noncomputable def rn(k:Nat):List Nat->Nat
 |[]=>0
 |c::r=>if jd k c then rn k r+1 else 0
theorem ud(k:Nat):∀t:List Nat,rn k t<=t.length
 |[]=>ao _
 |c::r=>by
  have:=ud k r;unfold rn;rw[av];split<;>omega
theorem qZ(k:Nat):∀(t:List Nat) (c:Nat),c<=t.length->(c<=rn k t↔∀x∈t.take c,jd k x=δ)
 |t,0,_=>⟨λ_ x h=>by simp at h,λ_=>cf _⟩
 |[],c+1,h=>by simp at h
 |y::r,c+1,h=>by
  have ih:=qZ k r c (by simpa using h);unfold rn;rw[ZJ];by_cases hy:jd k y=δ
  .rw[if_pos hy];exact⟨λq x hx=>(c9.mp hx).elim (λe=>e ▸ hy) (ih.mp (by omega) x),λq=>by have:=ih.mpr λx hx=>q x (ae _ hx);omega⟩
  .rw[if_neg hy];exact⟨λq=>by omega,λq=>absurd (q y ah) hy⟩
variable {m:Nat}{q:Q4}
theorem AL:q∈pH k B s m↔∃c,1<=c/\c<=m/\q=one k c (B.getD (s+c) z4):=by
 unfold pH;rw[gt];constructor
 .rintro⟨j,hj,rfl⟩;exact⟨j+1,by omega,by have:=Tk.mp hj;omega,rfl⟩
 .rintro⟨c,h1,h2,rfl⟩;exact⟨c-1,Tk.mpr (by omega),by rw[ä h1]⟩
noncomputable def Cb(t:List Nat)(s:Nat)(B:List Q4):List Q4:=pH 1 B s (min (rn 1 (t.drop s)) 64)++pH 2 B s (min (rn 2 (t.drop s)) 64)++pH 3 B s (min (rn 3 (t.drop s)) 64)
variable {t:List Nat}
theorem oZ(hs:s<=t.length):q∈Cb t s B↔∃k c,Pz t s k c/\q=one k c (B.getD (s+c) z4):=by
 have key:∀k,1<=k->k<=3->(q∈pH k B s (min (rn k (t.drop s)) 64)↔∃c,Pz t s k c/\q=one k c (B.getD (s+c) z4)):=λk h1 h3=>by
  have l:=ud k (t.drop s);rw[bp]at l;rw[AL];constructor
  .rintro⟨c,a,b,e⟩;exact⟨c,⟨h1,h3,a,by omega,by omega,(qZ k _ c (by rw[bp];omega)).mp (by omega)⟩,e⟩
  .rintro⟨c,p,e⟩;have p1:=p.c1;have p2:=p.Lj;have p3:=p.le;have:=(qZ k (t.drop s) c (by rw[bp];omega)).mpr p.al;exact⟨c,p1,by omega,e⟩
 unfold Cb;rw[i9,i9,key 1 (by decide) (by decide),key 2 (by decide) (by decide),key 3 (by decide) (by decide)];constructor
 .rintro ((⟨c,h⟩|⟨c,h⟩)|⟨c,h⟩)
  .exact⟨1,c,h⟩
  .exact⟨2,c,h⟩
  .exact⟨3,c,h⟩
 .rintro⟨k,c,h⟩;have h1:=h.1.k1;have h3:=h.1.k3;rcases(by omega:k=1\/k=2\/k=3)with rfl|rfl|rfl
  .exact .inl (.inl ⟨c,h⟩)
  .exact .inl (.inr ⟨c,h⟩)
  .exact .inr ⟨c,h⟩
theorem sj.step(h:sj t (s+1) B)(hs:s<t.length)(hq:q∈Cb t s B)(hm:∀p∈Cb t s B,q.1<=p.1):sj t s (B.set s q):=by
 have hl:=h.len;have ne:∀i,s<i->(B.set s q).getD i z4=B.getD i z4:=λi hi=>by rw[ο,Θ (by omega),<-ο]
 have eq:(B.set s q).getD s z4=q:=by rw[ο,Β (by omega)];rfl
 refine⟨by rw[ba];exact hl,by rw[ne _ hs];exact h.z,λi k c hi p=>?_,λi hi Ip=>?_⟩
 .have p1:=p.c1;rw[ne (i+c) (by omega)];by_cases z:i=s
  .subst z;rw[eq];exact hm _ ((oZ (gx hs)).mpr ⟨k,c,p,rfl⟩)
  .rw[ne i (by omega)];exact h.le i k c (by omega) p
 .by_cases z:i=s
  .subst z;obtain⟨k,c,p,rfl⟩:=(oZ (gx hs)).mp hq;have p1:=p.c1;rw[eq];refine⟨p,?_⟩;show l9 k c+(B.getD (i+c) z4).1=l9 k c+((B.set i (one k c (B.getD (i+c) z4))).getD (i+c) z4).1;rw[ne (i+c) (by omega)]
  .obtain⟨p,e⟩:=h.eq i (by omega) Ip;have p1:=p.c1;rw[ne i (by omega),ne _ (by omega)];exact⟨p,e⟩
noncomputable def rD3(a b c:Nat):D:=.IA [(1,.int (a:Int)),(2,.int (b:Int)),(3,.int (c:Int))]
noncomputable def rF(f:Nat->Nat):D:=rD3 (f 1) (f 2) (f 3)
theorem Hf(f:Nat->Nat)(h1:1<=k)(h3:k<=3)(v:Nat):sT (rF f) (.int (k:Int)) (.int (v:Int))=ζ (rF λj=>if j=k then v else f j):=by
 rcases(by omega:k=1\/k=2\/k=3)with rfl|rfl|rfl<;>rfl
theorem E8(f:Nat->Nat)(h1:1<=k)(h3:k<=3):tf (rF f) (.int (k:Int))=ζ (.int (f k:Int)):=by
 rcases(by omega:k=1\/k=2\/k=3)with rfl|rfl|rfl<;>rfl
theorem ixK(h1:1<=k)(h3:k<=3):tf (gl 18) (.int (k:Int))=ζ (.str (KS k)):=by
 rcases(by omega:k=1\/k=2\/k=3)with rfl|rfl|rfl<;>rfl
theorem QN{T:Tb}{c a b:Ex}{k:Bool}(hc:aC T c env (.bl k))(h1:k=δ->aC T a env d)(h2:k=γ->aC T b env d):aC T (.ite c a b) env d:=by
 obtain⟨R,hc⟩:=hc;cases k with
 |true=>obtain⟨R',h⟩:=h1 rfl;exact⟨R',by rw[ev,hc,aA];exact h⟩
 |false=>obtain⟨R',h⟩:=h2 rfl;exact⟨R',by rw[ev,hc,aA];exact h⟩
noncomputable def rs(t:List Nat)(s k j:Nat):Nat:=if j<k then rn j (t.drop s)else rn j (t.drop (s+1))
noncomputable def Ak(t:List Nat)(s:Nat)(B:List Q4)(k:Nat):List Q4:=(W2 1 (k-1)).flatMap λj=>pH j B s (min (rn j (t.drop s)) 64)
theorem kT:∀l:List Q4,D.Ig (l.map q4)=δ
 |[]=>rfl
 |q::l=>by rw[a9,D.Ig,kT l];rfl
theorem t8(h:s<t.length):t.drop s=t[s]::t.drop (s+1):=gg h
theorem h21(n:Nat)(ht:t.length<=300)(hG:Good t):∃B,sj t 0 B/\(T (n+3)).cl 21 [.str (tx t)]=.ok (.lst (B.map q4),δ):=by
 rw[fN,aN (F:=⟨1,6,UQ⟩) rfl rfl];have V:=Tv.start [.str (tx t)] 6;have z0:sj t t.length (π (t.length+1) z4):=by
  refine⟨by simp,by rw[ο,u8,if_pos (by omega)];rfl,λi k c hi p=>?_,λi hi Ip=>by omega⟩;have:=p.c1;have:=p.le;omega
 refine V.sA (T:=T (n+2)) (Q:=λf=>∃B,sj t 0 B/\Rd (.lst (B.map q4)) f) (d:=.lst ((π (t.length+1) z4).map q4)) (dO (aC.bin (aC.Kw (aC.of (B7 (by rw[ev]) (by rw[ev]) (by rw[ev]) (by rw[ev])))) (fO (n:=1) (aC.Ij (V.var rfl) (pb (by omega))) (aC.cst _)) ?_) (kT _)) λe V=>V.sA (d:=rF λj=>rn j (t.drop t.length)) (by rw[i4];rfl) λe V=>?_
 .rw[Z6];exact Gq rfl (cu _) (by omega)
 have hit:=tN (T:=T (n+2)) (aC.bin (op:=.Sub) (aC.Ij (V.var (i:=0) rfl) (pb (by omega))) (aC.cst (.int 1)) (z:=.int ((t.length:Int)-1)) rfl) (show aC (T (n+2)) (.neg Hv) e (.int (-1))from⟨_,by rw[ev,ev,aA]⟩) (show aC (T (n+2)) (.neg Hv) e (.int (-1))from⟨_,by rw[ev,ev,aA]⟩) (by omega) (by omega) (by decide) (by decide);rw[iW]at hit;have hl:bA ((t.length:Int)-1) (-1) t.length=(bv t.length).map λj=>D.int ((t.length-1-j:Nat):Int):=by
  refine i0 (by rw[fQ (-1),aj,fv]) λi h1 h2=>?_
  rw[List.getElem_map,List.getElem_range];have:∀(m:Nat) (a:Int) (i:Nat) (h:i<(bA a (-1) m).length),(bA a (-1) m)[i]=.int (a-i):=by
   intro m
   induction m with
   |zero=>intro a i h;cases h
   |succ m ih=>
    intro a i h;cases i with
    |zero=>show D.int a=_;simp
    |succ i=>exact(ih (a + -1) i (by simpa[bA]using h)).trans (by congr 1;omega)
  rw[this];congr 1;rw[fQ (-1)]at h1;omega
 rw[hl]at hit;refine uD (n:=t.length) (R:=[]) hit (by rw[bN];exact V) (λj us=>∃B o3 o4 o5,sj t (t.length-j) B/\us=[ζ (.str (tx t),γ),oq B δ,ζ (rF λk=>rn k (t.drop (t.length-j)),δ),o3,o4,o5]) ⟨_,_,_,_,z0,rfl⟩ (λj us e hj ⟨B,o3,o4,o5,hB,hu⟩ V=>?_) λe us ⟨B,o3,o4,o5,hB,hu⟩ V=>by
  subst hu;rw[Zp]at hB;exact⟨B,hB,V.ret rfl⟩
 subst hu;obtain⟨s,hs⟩:∃s,s=t.length-1-j:=⟨_,rfl⟩;have e1:t.length-j=s+1:=by omega
 have e2:t.length-(j+1)=s:=by omega
 have sl:s<t.length:=by omega
 rw[e1]at hB V;rw[e2];show∃e1,bP [] (.nm 3) (.int ((t.length-1-j:Nat):Int)) e=_/\_;rw[<-hs];obtain⟨e1,z,V⟩:=V.IX (i:=3) [] (d:=.int (s:Int)) rfl;refine⟨e1,z,V.sA (d:=.lst ((Ak t s B 1).map q4)) mD λe V=>?_⟩;have Bl:=hB.len;have cl:∀k,k<=4->(Ak t s B k).length<=64*(k-1):=λk hk=>by
  unfold Ak;rw[List.length_flatMap];have:∀l:List Nat,(l.map λj=>(pH j B s (min (rn j (t.drop s)) 64)).length).sum<=64*l.length:=λl=>by
   induction l with
   |nil=>exact ao _
   |cons a l ih=>
    rw[a9,X2,av];have:(pH a B s (min (rn a (t.drop s)) 64)).length=min (rn a (t.drop s)) 64:=by unfold pH;simp
    omega
  have:=this (W2 1 (k-1))
  rwa [ig]at this
 refine uD (n:=3) (g:=λj=>.int ((j+1:Nat):Int)) (R:=[]) (by rw[cU,G5 (aC.Ij (V.var (i:=2) rfl) (z:=.lst [.int 1,.int 2,.int 3]) (by rfl)) rfl,aA];rfl) (by rw[bN];exact V) (λk us=>∃o5,us=[ζ (.str (tx t),γ),oq B δ,ζ (rF (rs t s (k+1)),δ),no s δ,oq (Ak t s B (k+1)) δ,o5]) ⟨_,by
   show[_,_,_,_,_,_]=_;have:rF (rs t s (0+1))=rF λk=>rn k (t.drop (s+1)):=by unfold rF rs;simp
   rw[this]⟩ (λk us e hk ⟨o5,hu⟩ V=>?_) λe us ⟨o5,hu⟩ V=>?_
 .subst hu;have r1:=ud (k+1) (t.drop (s+1));have r2:=ud (k+1) (t.drop s);rw[bp]at r1 r2;obtain⟨e1,z,V⟩:=V.IX (i:=5) [] (d:=.int ((k+1:Nat):Int)) rfl;have hc:=low (hG t[s] (c7 sl));have ek:rn (k+1) (t.drop s)=if jd (k+1) t[s]then rn (k+1) (t.drop (s+1))+1 else 0:=by rw[t8 sl];rfl
  refine⟨e1,z,V.sP (u:=.int ((k+1:Nat):Int)) (v:=.int ((rn (k+1) (t.drop s):Nat):Int)) rfl (V.var rfl) (QN (k:=jd (k+1) t[s]) (aC.cmp (aC.ix (V.var rfl) (V.var rfl) (VW (by omega) sl)) (aC.ix (aC.Ic 18) (V.var rfl) (ixK (by omega) (by omega))) (by
    show inD (.str (tx [t[s]])) (.str (KS (k+1)))=_;show ζ (GJ _ _)=_;rw[om _ hc _ (by omega)])) (λh=>by
     rw[ek,if_pos h];exact fO (n:=1) (aC.ix (V.var rfl) (V.var rfl) (by rw[E8 _ (by omega) (by omega),rs,if_neg (by omega)])) (aC.cst _)) λh=>by
     rw[ek,if_neg (by rw[h];decide)];exact aC.cst _) (Hf _ (by omega) (by omega) _) λe V=>V.sX rfl (jM (V.var rfl) (V.var rfl) (V.var rfl) (aC.ix (V.var rfl) (V.var rfl) (by rw[E8 _ (by omega) (by omega),if_pos rfl])) (h22 n (by omega) (by omega) (by omega) (by omega))) (kT _) (by rw[aj,aj];have:=cl (k+1) (by omega);simp[pH];omega) λe V=>V.nil ⟨no (k+1) δ,?_⟩⟩
  have f1:(λj=>if j=k+1 then rn (k+1) (t.drop s)else rs t s (k+1) j)=rs t s (k+1+1):=by
   funext j;unfold rs;by_cases h:j=k+1
   .subst h;rw[if_pos rfl,if_pos (by omega)]
   .rw[if_neg h];by_cases h':j<k+1
    .rw[if_pos h',if_pos (by omega)]
    .rw[if_neg h',if_neg (by omega)]
  have f2:Ak t s B (k+1+1)=Ak t s B (k+1)++pH (k+1) B s (min (rn (k+1) (t.drop s)) 64):=by
   unfold Ak;rw[Yg,Yg,List.range'_concat,List.flatMap_append,List.flatMap_singleton];simp[fh]
  rw[f2,zc,<-f1];rfl
 .subst hu;have f3:Ak t s B (3+1)=Cb t s B:=by unfold Ak Cb;simp[W2]
  have f4:rF (rs t s (3+1))=rF λk=>rn k (t.drop s):=by unfold rF rs;simp
  rw[f3,f4]at V;have ne:Cb t s B≠[]:=λz=>by
   have:one 3 1 (B.getD (s+1) z4)∈Cb t s B:=(oZ (gx sl)).mpr ⟨3,1,⟨by decide,by decide,by decide,by decide,by omega,λx hx=>by
    rw[t8 sl,ZJ,Ñ,gr]at hx;rw[hx];exact hG _ (c7 sl)⟩,rfl⟩
   rw[z]at this;cases this
  obtain⟨q,q1,q2,q3⟩:=FZ ne;exact V.sI rfl (V.var rfl) (by rw[aj];omega) (by rw[aj];omega) (G5 (aC.Ij (V.var rfl) q3) rfl) λe V=>V.nil ⟨B.set s q,_,_,_,hB.step sl q1 q2,by rw[CZ];rfl⟩
noncomputable def rR:Option D->Bool
 |some (.int i)=>decide (0<=i)
 |_=>γ
theorem jF{o:Option D}(h:rR o=δ):∃v:Nat,o=ζ (.int (v:Int)):=by
 unfold rR at h;split at h
 .rename_i i;exact⟨i.toNat,by rw[Z5 (bg h)]⟩
 .cases h
noncomputable def kn(k:Nat):List Nat:=(KS k).cps.toList
theorem cX2:(kn 2).all (λc=>rR (oU .Iu (.str (KS 2)) [.str (tx [c])]))=δ:=by decide +kernel
theorem cX3:(kn 3).all (λc=>rR (oU .Iu (.str (KS 3)) [.str (tx [c])]))=δ:=by decide +kernel
theorem D3(hk:k=2\/k=3)(hc:jd k c=δ):∃v:Nat,oU .Iu (.str (KS k)) [.str (tx [c])]=ζ (.int (v:Int)):=by
 have hc:=jp.mp hc;rcases hk with rfl|rfl
 .exact jF (cq.mp cX2 c hc)
 .exact jF (cq.mp cX3 c hc)
theorem cV1:(kn 1).all (λa=>rR (eA .int [.str (tx [a])]))=δ:=by decide +kernel
theorem cV2:(kn 1).all (λa=>(kn 1).all λb=>rR (eA .int [.str (tx [a,b])]))=δ:=by decide +kernel
theorem cV3:(kn 1).all (λa=>(kn 1).all λb=>(kn 1).all λc=>rR (eA .int [.str (tx [a,b,c])]))=δ:=by decide +kernel
theorem Ea{g:List Nat}(h0:0<g.length)(h3:g.length<=3)(hg:∀c∈g,jd 1 c=δ):∃v:Nat,eA .int [.str (tx g)]=ζ (.int (v:Int)):=by
 have hg:∀c∈g,c∈kn 1:=λc hc=>jp.mp (hg c hc)
 match g,h0,h3,hg with
 |[a],_,_,hg=>exact jF (cq.mp cV1 a (hg a (by simp)))
 |[a,b],_,_,hg=>exact jF (cq.mp (cq.mp cV2 a (hg a (by simp))) b (hg b (by simp)))
 |[a,b,c],_,_,hg=>exact jF (cq.mp (cq.mp (cq.mp cV3 a (hg a (by simp))) b (hg b (by simp))) c (hg c (by simp)))
theorem Ax{α:Type}(l:List α)(s x:Nat):cut l (ζ (s:Int)) (ζ ((s+x:Nat):Int))=(l.drop s).take x:=by
 unfold cut eO;simp only;rw[if_neg (by omega),if_neg (by omega),cu,cu];by_cases h:s<=l.length
 .rw[dn h];by_cases h2:s+x<=l.length
  .rw[dn h2,iz]
  .rw[dh (by omega),cw (by rw[bp];omega),cw (by rw[bp];omega)]
 .rw[dh (show l.length<=s by omega),fi (ao _),fi (show l.length<=s by omega)];simp
theorem Vu(hl:cs.length<=1000)(s x:Nat):xA (.str (tx cs)) (ζ (s:Int)) (ζ ((s+x:Nat):Int))=ζ (.str (tx ((cs.drop s).take x))):=by
 show(if(tx cs).length<=lim then ζ (D.str ⟨(cut cs _ _).toArray⟩)else ε)=_;rw[if_pos (wQ hl),Ax];rfl
theorem h20(n:Nat)(ht:t.length<=300)(hG:Good t):(T (n+1)).cl 20 [.str (tx t)]=.ok (.Ii,δ):=by
 rw[fN,aN (F:=⟨1,3,UR⟩) rfl rfl];have V:=Tv.start [.str (tx t)] 3;refine wU (T:=T n) (Q:=Rd .Ii) (l:=(t.map λc=>D.str (tx [c])).zipIdx.map λq=>.tup [.int q.2,q.1]) (by rw[cU,eZ (V.var rfl) rfl,aA];rfl) V (λus=>∃o1 o2,us=[ζ (.str (tx t),γ),o1,o2]) ⟨_,_,rfl⟩ (λd hd us e ⟨o1,o2,hu⟩ V=>?_) λe us _ V=>by show Pc.ret (aP _ .nil e)=_;rw[aP];rfl
 subst hu;obtain⟨q,hq,rfl⟩:=gt.mp hd;obtain⟨c,hc,e1⟩:=gt.mp (Ι (List.mem_zipIdx_iff_getElem?.mp hq));rw[<-e1];obtain⟨e2,z,V⟩:=V.JZ (i:=1) (j:=2) [] (x:=.int (q.2:Int)) (y:=.str (tx [c])) rfl rfl;refine⟨e2,z,Wp.ite (k:=γ) (aC.cmp (V.var rfl) (aC.ix (aC.Ic 18) (aC.Ic 17) rfl) ?_) (λh=>by cases h) λ_=>V.nil ⟨_,_,rfl⟩⟩;show(ζ (GJ (tx [c]) (KS 3))).map (λb=>!b)=_;rw[om _ (low (hG c hc)) 3 (by decide),hG c hc];rfl
noncomputable abbrev Pe:=Nat×List Nat
noncomputable def pD(p:Pe):D:=.tup [.int (p.1:Int),.str (tx p.2)]
structure Piece(p:Pe):Prop where
 k1:1<=p.1
 k3:p.1<=3
 c1:1<=p.2.length
 Lj:p.2.length<=64
 al:∀x∈p.2,jd p.1 x=δ
noncomputable def pc(p:Pe):Nat:=l9 p.1 p.2.length
theorem h19(n:Nat){t:List Nat}(ht:t.length<=300)(hG:Good t):∃(B:List Q4) (P:List Pe),sj t 0 B/\(∀p∈P,Piece p)/\(P.map pc).sum=(B.getD 0 z4).1/\(T (n+4)).cl 19 [.str (tx t)]=.ok (.lst (P.map pD),δ):=by
 obtain⟨B,hB,c21⟩:=h21 n ht hG;rw[fN,aN (F:=⟨1,6,US⟩) rfl rfl];have V:=Tv.start [.str (tx t)] 6;have Bl:=hB.len;refine Wp.st (T:=T (n+3)) (Q:=λf=>∃(B:List Q4) (P:List Pe),sj t 0 B/\(∀p∈P,Piece p)/\(P.map pc).sum=(B.getD 0 z4).1/\Rd (.lst (P.map pD)) f) (by rw[cP,bZ (V.var rfl) (h20 (n+2) ht hG),bD]) (V.sA (bZ (V.var rfl) c21) λe V=>V.sA (d:=.lst (([]:List Pe).map pD)) mD λe V=>V.sA (d:=.int ((0:Nat):Int)) (by rw[ev];rfl) λe V=>V.sW (n:=t.length) (λm us=>∃(P:List Pe) (s:Nat) (o4 o5:_),t.length<=s+m/\s<=t.length/\P.length<=s/\(∀p∈P,Piece p)/\(P.map pc).sum+(B.getD s z4).1=(B.getD 0 z4).1/\us=[ζ (.str (tx t),γ),oq B δ,ζ (.lst (P.map pD),δ),no s δ,o4,o5]) (by show t.length<1000;omega) ⟨[],0,_,_,by omega,by omega,ao _,λ_ h=>(nomatch h),by simp,rfl⟩ (λm us e ⟨P,s,o4,o5,hs,hs',lP,hP,hc,hu⟩ V=>?_) λm e us ⟨P,s,o4,o5,hs,hs',lP,hP,hc,hu⟩ V c=>?_)
 .subst hu;refine⟨decide ((s:Int)<(t.length:Int)),aC.cmp (V.var rfl) (aC.Ij (V.var rfl) (pb (by omega))) rfl,λh=>?_⟩;have sl:s<t.length:=by have:=bg h;omega
  obtain⟨p,eq⟩:=hB.eq s (cf _) sl;have V0:s<B.length:=by omega
  generalize hk:(B.getD s z4).2.2.1=k at p eq;generalize hx:(B.getD s z4).2.2.2=x at p eq;have p1:=p.c1;have p2:=p.le;have f2:tf (q4 (B.getD s z4)) (.int 2)=ζ (.int (k:Int)):=by rw[<-hk];rfl
  have f3:tf (q4 (B.getD s z4)) (.int 3)=ζ (.int (x:Int)):=by rw[<-hx];rfl
  have tl:((t.drop s).take x).length=x:=by rw[cn,bp];omega
  obtain⟨j,rfl⟩:∃j,m=j+1:=⟨m-1,by omega⟩;refine⟨j,rfl,V.sA (vR (aC.ix (aC.ix (V.var rfl) (V.var rfl) (Et V0)) (aC.cst _) f2) rfl) λe V=>V.sA (dO (fO (V.var rfl) (aC.ix (aC.ix (V.var rfl) (V.var rfl) (Et V0)) (aC.cst _) f3)) rfl) λe V=>V.sM rfl (DF (eZ (V.var rfl) rfl) (E1 (aC.sl (V.var rfl) (V.var rfl) (V.var rfl) (Vu (by omega) s x)) rfl)) (by simp;omega) λe V=>V.sA (eZ (V.var rfl) rfl) λe V=>V.nil ?_⟩;refine⟨P ++ [(k,(t.drop s).take x)],s+x,_,_,by omega,p2,by simp;omega,λp' hp'=>(i9.mp hp').elim (hP p') λz=>?_,?_,by rw[dq];rfl⟩
  .rw[gr.mp z];exact⟨p.k1,p.k3,by rw[tl];exact p1,by rw[tl];exact p.Lj,p.al⟩
  .rw[dq,YB,<-hc,eq];show _+([l9 k ((t.drop s).take x).length].sum)+_=_;rw[tl];simp;omega
 .subst hu;have:¬ s<t.length:=λz=>by
   have:=(aC.cmp (T:=T (n+3)) (op:=.Lt) (V.var (i:=3) rfl) (aC.Ij (V.var (i:=0) rfl) (pb (by omega))) (k:=decide ((s:Int)<(t.length:Int))) rfl).K7 c;rw[bt (by omega)]at this;cases this
  obtain rfl:s=t.length:=by omega
  rw[hB.z]at hc;exact⟨B,P,hB,hP,by simpa using hc,V.ret rfl⟩
theorem step_size(n k:Nat)(hk:0<k):(Γ 0 (n:Int) (k:Int)).toNat=(n+k-1) / k:=by
 unfold Γ;rw[if_pos (by omega)];by_cases h:0<n
 .rw[if_pos (by omega),show((n:Int)-0-1)=((n-1:Nat):Int) by omega,<-Yv,show(((n-1) / k:Nat):Int)+1=(((n-1) / k+1:Nat):Int) by omega,cu,<-Nat.add_div_right _ hk];congr 1;exact O4 [.eq (aD+1) aH,.eq (aO+1) (aH+cA)] (.eq (aD+cA) aO) [[1,1,0,0,1],[1,0,1,1]] rfl (lV (O1 [.lt 0 aD] (.le 1 aD) [[1,1]] rfl h)) (lV (O2 [.lt 0 aD] (.le 1 (aH+aD)) [[1,1]] rfl hk))
 .obtain rfl:n=0:=by exact O1 [.L9 0 aD] (.eq aD 0) [[1],[1,1]] rfl h
  rw[if_neg (by omega),fg,Nat.div_eq_of_lt (by exact O2 [.eq (aD+1) aH] (.lt aD aH) [[1,1]] rfl (lV (O1 [.lt 0 aD] (.le 1 aD) [[1,1]] rfl hk)))];rfl
theorem uy(k:Nat):∀(n a:Nat),bA (a:Int) (k:Int) n=(bv n).map λj=>D.int ((a+k*j:Nat):Int)
 |0,a=>rfl
 |n+1,a=>by
  rw[bA,i7,a9,gc,show(a:Int)+(k:Int)=((a+k:Nat):Int) by omega,uy k n (a+k)];congr 1;refine gj λj _=>?_
  show D.int ((a+k+k*j:Nat):Int)=D.int ((a+k*(j+1):Nat):Int);rw[ZG,ZH,Nat.add_assoc,fh k]
theorem wB{T:Tb}{b c:Ex}{k:Nat}(h:aC T b env (.int (n:Int)))(h':aC T c env (.int (k:Int)))(hn:n<=1000)(hk:0<k)(Jk:k<100):cU T (.Jf Ht b c) env=.ok ((bv ((n+k-1) / k)).map λj=>D.int ((k*j:Nat):Int),[]):=by
 rw[tN (aC.cst _) h h' (by omega) (by omega) (by omega) (by omega),step_size n k hk,show(0:Int)=((0:Nat):Int)from rfl,uy];simp only[fg]
theorem gG{a b:List Nat}(h:Bt a)(h':Bt b):Bt (a++b):=λx hx=>(i9.mp hx).elim (h x) (h' x)
theorem ixF(h:m<=3):tf (gl 23) (.int (m:Int))=ζ (.int ((fb m:Nat):Int)):=by
 rcases(by omega:m=0\/m=1\/m=2\/m=3)with rfl|rfl|rfl|rfl<;>rfl
theorem xE{m:Nat}(h:m<=3):fb m<=10:=by
 unfold fb;split<;>omega
theorem h17(n:Nat){cs:List Nat}(hc:∀x∈cs,jd 1 x=δ)(hl:cs.length<=64):∃bs,Bt bs/\bs.length=10*(cs.length / 3)+fb (cs.length%3)/\(T (n+2)).cl 17 [.str (tx cs)]=.ok (.lst (gD bs),δ):=by
 rw[fN,aN (F:=⟨1,4,UU⟩) rfl rfl];have V:=Tv.start [.str (tx cs)] 4;refine V.sA (T:=T (n+1)) (Q:=λf=>∃bs,Bt bs/\bs.length=10*(cs.length / 3)+fb (cs.length%3)/\Rd (.lst (gD bs)) f) (d:=.lst (gD [])) mD λe V=>uD (n:=(cs.length+3-1) / 3) (R:=[]) (wB (k:=3) (aC.Ij (V.var rfl) (pb (by exact O1 [.le aD 64] (.le aD 1000) [[1,1]] rfl hl))) (aC.Ic 24) (by exact O1 [.le aD 64] (.le aD 1000) [[1,1]] rfl hl) (by decide) (by decide)) (by rw[bN];exact V) (λj us=>∃bs o2 o3,Bt bs/\bs.length=10*(min (3*j) cs.length / 3)+fb (min (3*j) cs.length%3)/\us=[ζ (.str (tx cs),γ),lo bs δ,o2,o3]) ⟨[],_,_,λ_ h=>(nomatch h),by simp[fb],rfl⟩ (λj us e hj ⟨bs,o2,o3,hb,lb,hu⟩ V=>?_) λe us ⟨bs,o2,o3,hb,lb,hu⟩ V=>by
  subst hu;rw[dh (by exact O3 [.le (aD+3) (aH+1),.lt aH ((Ol 3 aO)+3)] (.le aD (Ol 3 aO)) [[1,1,1]] rfl Dd (E3 rfl))]at lb;exact⟨bs,hb,lb,V.ret rfl⟩
 subst hu;obtain⟨e1,z,V⟩:=V.IX (i:=2) [] (d:=.int ((3*j:Nat):Int)) rfl;have gl:((cs.drop (3*j)).take 3).length=min 3 (cs.length-3*j):=by rw[cn,bp]
 obtain⟨v,hv⟩:=Ea (g:=(cs.drop (3*j)).take 3) (by omega) (by exact O2 [.eq aD aH,.le aH 3] (.le aD 3) [[1,1,1]] rfl gl Fq) λc h=>hc c (dm (cv h))
 have fl:=xE (m:=((cs.drop (3*j)).take 3).length) (by exact O2 [.eq aD aH,.le aH 3] (.le aD 3) [[1,1,1]] rfl gl Fq);obtain⟨xs,x1,x2,x3⟩:=h3 n v (fb ((cs.drop (3*j)).take 3).length) (by exact O1 [.le aD 10] (.le aD 60) [[1,1]] rfl fl);have MJ:fb (min (3*j) cs.length%3)<=10:=xE (by exact O1 [.lt aD 3] (.le aD 3) [[1,1]] rfl (WR rfl));refine⟨e1,z,V.sA (E1 (aC.sl (V.var rfl) (V.var rfl) (fO (n:=3) (V.var rfl) (aC.Ic 24)) (Vu (by exact O1 [.le aD 64] (.le aD 1000) [[1,1]] rfl hl) (3*j) 3)) rfl) λe V=>V.M0 rfl (bR (aC.Ij (V.var rfl) hv) (aC.ix (aC.Ic 23) (aC.Ij (V.var rfl) (pb (by exact O2 [.eq aD aH,.le aH 3] (.le aD 1000) [[1,1,1]] rfl gl Fq))) (ixF (by exact O2 [.eq aD aH,.le aH 3] (.le aD 3) [[1,1,1]] rfl gl Fq))) x3) (by exact O7 [.le aD 64,.eq aH ((Ol 10 aO)+cA),.le iB 10,.eq zR iB,.le cA 10,.le PB aD,.le (Ol 3 aO) PB] (.le (aH+zR) 10000) [[3,10,10,3,3,0,3,3,0,10]] rfl hl lb fl x2 MJ WQ mq) λe V=>V.nil ⟨bs++xs,_,_,gG hb x1,?_,rfl⟩⟩;rw[aw,lb,x2,gl];rw[dn (show 3*j<=cs.length by exact O4 [.lt aD aH,.le aO (cA+3),.le (Ol 3 aH) aO] (.le (Ol 3 aD) cA) [[1,1,1,3]] rfl hj zT mq),Zb _ (by decide),ô];by_cases h:3*(j+1)<=cs.length
 .rw[dn (show 3<=cs.length-3*j by exact O3 [.le (Ol 3 (aD+1)) aH,.le aH (aO+(Ol 3 aD))] (.le 3 aO) [[1,1,1]] rfl h Dd),dn h,Zb _ (by decide),ô];show 10*j+0+10=10*(j+1)+0;exact O1 [] (.eq ((Ol 10 aD)+0+10) ((Ol 10 (aD+1))+0)) [[1],[1]] rfl
 .rw[dh (show cs.length-3*j<=3 by exact O3 [.J6 (Ol 3 (aD+1)) aH,.eq (aO+(Ol 3 aD)) aH] (.le aO 3) [[1,1,0,1]] rfl h (lV (O4 [.lt aD aH,.le aO (cA+3),.le (Ol 3 aH) aO] (.le (Ol 3 aD) cA) [[1,1,1,3]] rfl hj zT mq))),dh (by exact O2 [.J6 (Ol 3 (aD+1)) aH] (.le aH (Ol 3 (aD+1))) [[1,1]] rfl h),show cs.length / 3=j by exact O5 [.lt aD aH,.J6 (Ol 3 (aD+1)) aO,.le (Ol 3 cA) aO,.lt aO ((Ol 3 cA)+3),.le iB (aO+3),.le (Ol 3 aH) iB] (.eq cA aD) [[3,1,1,1,0,0,3],[3,0,0,0,1,1]] rfl hj h mq (E3 rfl) zT mq,show cs.length%3=cs.length-3*j by omega];rfl
theorem h18(n:Nat){k:Nat}(hk:k=2\/k=3){cs:List Nat}(hc:∀x∈cs,jd k x=δ)(hl:cs.length<=64):∃bs,Bt bs/\bs.length=(if k=2 then 5 else 7)*cs.length/\(T (n+2)).cl 18 [.int (k:Int),.str (tx cs)]=.ok (.lst (gD bs),δ):=by
 rw[fN,aN (F:=⟨2,4,UT⟩) rfl rfl];have V:=Tv.start [.int (k:Int),.str (tx cs)] 4;generalize hw:(if k=2 then 5 else 7)=w;have VX:w<=7:=by rw[<-hw];split<;>omega
 have e19:tf (gl 19) (.int (k:Int))=ζ (.int (w:Int)):=by rcases hk with rfl|rfl<;>subst hw<;>rfl
 have e18:tf (gl 18) (.int (k:Int))=ζ (.str (KS k)):=by rcases hk with rfl|rfl<;>rfl
 refine V.sA (T:=T (n+1)) (Q:=λf=>∃bs,Bt bs/\bs.length=w*cs.length/\Rd (.lst (gD bs)) f) (d:=.lst (gD [])) mD λe V=>lG (α:=Nat) (g:=λc=>.str (tx [c])) (l:=cs) (R:=[]) (λm us=>(∀x∈m,jd k x=δ)/\∃bs o3,Bt bs/\bs.length+w*m.length=w*cs.length/\us=[no k,ζ (.str (tx cs),γ),lo bs δ,o3]) (by rw[cU,eZ (V.var rfl) rfl,aA];show(ku (if(tx cs).length<=lim then ζ _ else ε)).bind _=_;rw[if_pos (wQ (by exact O1 [.le aD 64] (.le aD 1000) [[1,1]] rfl hl))];rfl) (by rw[bN];exact V) ⟨hc,[],_,λ_ h=>(nomatch h),by simp,rfl⟩ (λc m us e ⟨hm,bs,o3,hb,lb,hu⟩ V=>?_) λe us ⟨_,bs,o3,hb,lb,hu⟩ V=>by
  subst hu;exact⟨bs,hb,by simpa using lb,V.ret rfl⟩
 subst hu;obtain⟨v,hv⟩:=D3 hk (hm c ah);obtain⟨e1,z,V⟩:=V.IX (i:=3) [] (d:=.str (tx [c])) rfl;obtain⟨xs,x1,x2,x3⟩:=h3 n v w (by exact O1 [.le aD 7] (.le aD 60) [[1,1]] rfl VX);rw[av,ZG,ZH]at lb;have:w*cs.length<=7*64:=Û VX hl;exact⟨e1,z,V.M0 rfl (bR (aC.of (E9 (aC.ix (aC.Ic 18) (V.var rfl) e18) (V.var rfl) hv rfl)) (aC.ix (aC.Ic 19) (V.var rfl) e19) x3) (by exact O5 [.eq (aD+(aH+aO)) cA,.eq iB aO,.le cA (Ol 7 64)] (.le (aD+iB) 10000) [[1,1,1,0,1]] rfl lb x2 this) λe V=>V.nil ⟨λx hx=>hm x (ae _ hx),bs++xs,_,gG hb x1,by rw[aw];exact O5 [.eq (aD+(aH+aO)) cA,.eq iB aO] (.eq (aD+iB+aH) cA) [[1,0,1,0,1],[1,1,0,1]] rfl lb x2,rfl⟩⟩
theorem h16(n:Nat){p:Pe}(hp:Piece p):∃bs,Bt bs/\bs.length=pc p/\(T (n+3)).cl 16 [pD p]=.ok (.lst (gD bs),δ):=by
 rw[fN,aN (F:=⟨1,4,UW⟩) rfl rfl];have k1:=hp.k1;have k3:=hp.k3;have c1:=hp.c1;have Lj:=hp.Lj;obtain⟨k,cs⟩:=p;have V:=Tv.start [pD (k,cs)] 4;dsimp only at k1 k3 c1 Lj;obtain⟨x1,a1,a2,a3⟩:=h3 (n+1) k 2 (by decide);obtain⟨x2,b1,b2,b3⟩:=h3 (n+1) (cs.length-1) 6 (by decide);refine V.sA (T:=T (n+2)) (Q:=λf=>∃bs,Bt bs/\bs.length=pc (k,cs)/\Rd (.lst (gD bs)) f) (d:=.int (k:Int)) (vR (aC.ix (V.var rfl) (aC.cst _) rfl) rfl) λe V=>V.sA (d:=.str (tx cs)) (vR (aC.ix (V.var rfl) (aC.cst _) rfl) rfl) λe V=>V.sA (u7 (aC.of (bR (V.var rfl) (aC.Ic 20) a3)) (aC.of (bR (yY (n:=1) (aC.Ij (V.var rfl) (pb (by exact O1 [.le aD 64] (.le aD 1000) [[1,1]] rfl Lj))) (aC.cst _) (by exact O1 [.le 1 aD] (.le 1 aD) [[1,1]] rfl c1)) (aC.Ic 21) b3)) (by exact O2 [.eq aD 2,.eq aH 6] (.le (aD+aH) 1000) [[1,1,0,1]] rfl a2 b2)) λe V=>?_
 by_cases h:k=1
 .subst h;obtain⟨y,y1,y2,y3⟩:=h17 n (cs:=cs) hp.al Lj;exact⟨(x1++x2)++y,gG (gG a1 b1) y1,by rw[aw,aw,a2,b2,y2];show _=8+10*(cs.length / 3)+fb (cs.length%3);exact O2 [] (.eq (2+6+((Ol 10 aD)+aH)) (8+(Ol 10 aD)+aH)) [[1],[1]] rfl,Wp.NI (aC.cmp (V.var rfl) (aC.Ic 15) rfl) (u7 (V.var rfl) (aC.of (bZ (V.var rfl) y3)) (by have:=xE (m:=cs.length%3) (by exact O1 [.lt aD 3] (.le aD 3) [[1,1]] rfl (WR rfl));rw[aw];exact O6 [.le aD 64,.eq aH 2,.eq aO 6,.eq cA ((Ol 10 iB)+zR),.le zR 10,.le (Ol 3 iB) aD] (.le (aH+aO+cA) 1000) [[3,10,3,3,0,3,0,3,0,10]] rfl Lj a2 b2 y2 this mq))⟩
 .obtain⟨y,y1,y2,y3⟩:=h18 n (k:=k) (cs:=cs) (by omega) hp.al Lj;have yl:y.length<=448:=by rw[y2];split<;>omega
  exact⟨(x1++x2)++y,gG (gG a1 b1) y1,by rw[aw,aw,a2,b2,y2];show _=l9 k cs.length;unfold l9;rw[if_neg h],Wp.ite (Q:=Rd _) (k:=γ) (aC.cmp (V.var rfl) (aC.Ic 15) (by show ζ ((k:Int)==1)=_;rw[beq_eq_false_iff_ne.mpr (by omega)])) (λh=>by cases h) λ_=>bM (u7 (V.var rfl) (aC.of (bR (V.var rfl) (V.var rfl) y3)) (by rw[aw];exact O3 [.eq aD 2,.eq aH 6,.le aO 448] (.le (aD+aH+aO) 1000) [[1,1,1,0,1]] rfl a2 b2 yl))⟩
theorem h4(n:Nat){bs:List Nat}(hb:Bt bs)(hl:bs.length<=6):∃g:Nat,g<64/\(T (n+1)).cl 4 [.lst (gD bs)]=.ok (.int (g:Int),δ):=by
 rw[fN,aN (F:=⟨1,3,b4⟩) rfl rfl];have V:=Tv.start [.lst (gD bs)] 3;refine V.sA (T:=T n) (Q:=λf=>∃g:Nat,g<64/\Rd (.int (g:Int)) f) (d:=.int ((0:Nat):Int)) (by rw[ev];rfl) λe V=>V.sS rfl (λm us=>∃(g:Nat) (o:_),Bt m/\(g+1)*2 ^ m.length<=64/\us=[lo bs,no g δ,o]) ⟨0,_,hb,by rw[fg,ĭ];exact Nat.pow_le_pow_right (by decide) hl,rfl⟩ (λb m us e ⟨g,o,hm,hg,hu⟩ _=>?_) λe us ⟨g,o,_,hg,hu⟩ V=>by
  subst hu;exact⟨g,by simp at hg;exact O1 [.le aD 63] (.lt aD 64) [[1,1]] rfl hg,V.ret rfl⟩
 subst hu;have hb:=hm b ah;refine⟨rfl,λe V=>V.sA (d:=.int ((2*g+b:Nat):Int)) (dO (aC.bin (aC.bin (aC.cst (.int 2)) (V.var rfl) (z:=.int (2*(g:Int))) rfl) (V.var rfl) rfl) rfl) λe V=>V.nil ⟨_,_,λx hx=>hm x (ae _ hx),a8 (ZI _ (show 2*g+b+1<=(g+1)*2 by exact O2 [.lt aD 2] (.le ((Ol 2 aH)+aD+1) (Oq (aH+1) 2)) [[1,1]] rfl hb)) ?_,rfl⟩⟩;rw[ď,<-Nat.pow_succ'];exact hg
theorem h25(n:Nat){bs:List Nat}(hb:Bt bs)(hl:bs.length<=1000):∃gs,Gr gs/\gs.length=(bs.length+5) / 6/\(T (n+2)).cl 25 [.lst (gD bs)]=.ok (.lst (gD gs),δ):=by
 rw[fN,aN (F:=⟨1,1,UM⟩) rfl rfl];have V:=Tv.start [.lst (gD bs)] 1;have hit:=wB (T:=T (n+1)) (k:=6) (aC.Ij (V.var (i:=0) rfl) (hJ bs)) (aC.Ic 25) hl (by decide) (by decide);obtain⟨m,h1,h2,_,h3⟩:=V.vw.IW (T:=T (n+1)) (pick:=[0]) (c:=.none) (e:=.call 4 (HQ (.sl HJ (.some HG) (.some (.bin .Add HG (.Ic 25)))))) (λd=>∃i:Nat,d=.int (i:Int)/\i<64) hit (by simp;exact O2 [.le aD 1000,.le (Ol 6 aH) (aD+5)] (.le aH 10000) [[6,1,1]] rfl hl mq) λa ha W w=>by
  obtain⟨j,_,rfl⟩:=gt.mp ha;obtain⟨g,g1,g2⟩:=h4 n (bs:=(bs.drop (6*j)).take 6) (λx hx=>hb x (dm (cv hx))) (by rw[cn];exact O1 [.le aD 6] (.le aD 6) [[1,1]] rfl Fq);exact⟨δ,by rw[jv],λ_=>⟨_,_,bZ (aC.sl (w.var rfl) (w.var rfl) (fO (n:=6) (w.var rfl) (aC.Ic 25)) (pN bs _ _)) g2,rfl,g,rfl,g1⟩⟩
 obtain⟨gs,rfl,hg⟩:=pS h2;have:=h3 rfl;simp only[aj,fv]at this;exact⟨gs,hg,by exact O5 [.eq aD aH,.le (Ol 6 aO) (cA+5),.lt (cA+5) ((Ol 6 aO)+6),.le (Ol 6 aH) iB,.lt iB ((Ol 6 aH)+6),.eq (iB+1) (cA+6)] (.eq aD aO) [[6,0,1,1,0,0,1,0,6],[6,1,0,0,1,1,0,6]] rfl this mq (E3 rfl) mq (E3 rfl) (lV (O1 [] (.le 1 (aD+6)) [[1]] rfl)),bM h1⟩
variable {l':List D}
theorem uc(h:x∈(l.zip l').map λz=>D.tup [z.1,z.2]):∃p∈l,∃v∈l',x=.tup [p,v]:=by
 obtain⟨z,hz,rfl⟩:=gt.mp h;exact⟨z.1,(fm hz).1,z.2,(fm hz).2,rfl⟩
theorem h30{n:Nat}{l4:List D}(m1:∀d∈l1,ce (sz a) d=δ)(m2:∀d∈l2,ce (sz a) d=δ)(m3:∀d∈l3,pl (sz a) d=δ)(m4:∀d∈l4,FP d=δ)(n1:l1.length<=100)(n2:l2.length<=50)(n3:l3.length<=16)(h7:(T n).cl 7 [cW a]=.ok (.lst l1,δ))(R7:(T n).cl 10 [cW a]=.ok (.lst l2,δ))(R6:(T n).cl 11 [cW a]=.ok (.lst l3,δ))(h5:(T n).cl 5 [.int (b:Int),.int (m:Int)]=.ok (.lst l4,δ)) :
  ∃l,(∀d∈l,ce (sz a) d=δ)/\l.length<=200/\(T (n+1)).cl 30 [cW a,.int (b:Int),.int (m:Int)]=.ok (.lst l,δ):=by
 rw[fN,aN (F:=⟨3,6,UH⟩) rfl rfl];have mm:∀d∈l1++l2,ce (sz a) d=δ:=λd h=>(i9.mp h).elim (m1 d) (m2 d)
 have V:=Tv.start [cW a,.int (b:Int),.int (m:Int)] 6;have zl:((l3.zip l4).map λz=>D.tup [z.1,z.2]).length<=16:=by rw[aj,Yz];omega
 refine V.sA (T:=T n) (Q:=λf=>∃l:List D,(∀d∈l,ce (sz a) d=δ)/\l.length<=200/\Rd (.lst l) f) (AV (aC.Jm (V.var rfl) h7) (aC.Jm (V.var rfl) R7) (by omega) λd hd=>pE (mm d hd)) λe V=>lG (α:=D) (g:=id) (R:=[]) (l:=(l3.zip l4).map λz=>D.tup [z.1,z.2]) (λk us=>(∀x∈k,∃p∈l3,∃v∈l4,x=.tup [p,v])/\∃(l:List D) (o4 o5:_),(∀d∈l,ce (sz a) d=δ)/\l.length+k.length<=166/\us=[ζ (cW a,γ),no b,no m,ζ (.lst l,δ),o4,o5]) (by rw[cU,bZ (V.var rfl) R6,aA,bR (V.var rfl) (V.var rfl) h5,aA,ip];rfl) (by rw[bN];exact V) ⟨λx hx=>uc hx,_,_,_,mm,by rw[aw];omega,rfl⟩ (λx k us e ⟨hm,l,o4,o5,hl,ll,hu⟩ V=>?_) λe us ⟨_,l,o4,o5,hl,ll,hu⟩ V=>by
  subst hu;exact⟨l,hl,by omega,V.ret rfl⟩
 subst hu;obtain⟨p,hp,v,hv,rfl⟩:=hm _ ah;obtain⟨r,c,rfl,hr,hc⟩:=lz (m3 p hp);obtain⟨i,rfl⟩:=ui (m4 v hv);rw[av]at ll;obtain⟨e1,z,V⟩:=V.JZ (i:=4) (j:=5) [] (x:=.tup [.int (r:Int),.int (c:Int)]) (y:=.int i) rfl rfl;exact⟨e1,z,V.sM rfl (zu (vR (aC.ix (V.var rfl) (aC.cst (.int 0)) rfl) rfl) (vR (aC.ix (V.var rfl) (aC.cst (.int 1)) rfl) rfl) (eZ (V.var rfl) rfl)) (by omega) λe V=>V.nil ⟨λx hx=>hm x (ae _ hx),_,_,_,qB hl (Ct i hr hc),by simp;omega,rfl⟩⟩
variable {gs:List Nat}
theorem h31{n m:Nat}(ha:a<5)(hg:gs.length<=133)(hl:∀d∈l,pl (sz a) d=δ)(ll:l.length<=1100)(h12:(T (n+2)).cl 12 [cW a]=.ok (.lst l,δ)) :
  ∃l,(∀d∈l,ce (sz a) d=δ)/\l.length<=2000/\(T (n+3)).cl 31 [.lst (gD gs),cW a,.int (m:Int)]=.ok (.lst l,δ):=by
 obtain⟨bs,b1,b2,b3⟩:=h26 n gs hg;rw[fN,aN (F:=⟨3,5,UG⟩) rfl rfl];have V:=Tv.start [.lst (gD gs),cW a,.int (m:Int)] 5;have len:∀l:List D,eA .len [.lst l]=ζ (.int (l.length:Int)):=λ_=>rfl
 refine V.sA (T:=T (n+2)) (Q:=λf=>∃l:List D,(∀d∈l,ce (sz a) d=δ)/\l.length<=2000/\Rd (.lst l) f) (bZ (V.var rfl) h12) λe V=>V.sA (bZ (V.var rfl) b3) λe V=>V.M0 (ys:=π (l.length-bs.length) 0) rfl (dO (aC.bin (aC.Kw (aC.cst _)) (aC.bin (aC.Ij (V.var rfl) (len l)) (aC.Ij (V.var rfl) (hJ bs)) (z:=.int ((l.length:Int)-bs.length)) rfl) (G8 _ _ (by omega) (by omega))) (iT _)) (by rw[dg];omega) λe V=>?_
 obtain⟨R,hit,_⟩:=V.walk2 (T:=T (n+2)) (i:=3) (j:=4) rfl rfl;obtain⟨t,q2,_⟩:=V.at' 2 _ _ rfl;have zl:(((l.zip (gD (bs++π (l.length-bs.length) 0))).map λz=>D.tup [z.1,z.2])).length<=1100:=by rw[aj,Yz];omega
 obtain⟨k,h1,h2,h3,_⟩:=Cn (T:=T (n+2)) (own:=2) (pick:=[2]) (t:=.tp [0,1]) (c:=.none) (e:=.tup (HS (.ix HG Ht) (.ix HG Hv) (.call 32 (HS HJ HH HG)))) (λd=>ce (sz a) d=δ) hit (by omega) λx hx=>by
  obtain⟨p,hp,v,hv,rfl⟩:=uc hx;obtain⟨r,c,rfl,hr,hc⟩:=lz (hl p hp);obtain⟨i,_,rfl⟩:=gt.mp hv;have hp:bG e 2 [2]=[ε,ε,ζ (.int (m:Int),.sh [])]:=by
   unfold bG;simp only[π,a9,g9,q2];rfl
  have Mn:r<15+4*a:=hr;have J8:c<15+4*a:=hc;obtain⟨u,hu⟩:=h32 n (v:=i) (m:=m) (r:=r) (c:=c) (by omega) (by omega);have W:Vw [ζ (.tup [.int (r:Int),.int (c:Int)],.own),ζ (.int (i:Int),.own),ζ (.int (m:Int),.sh [])] [ζ (.tup [.int (r:Int),.int (c:Int)]),ζ (.int (i:Int)),ζ (.int (m:Int))]:=⟨rfl,λj d q=>by
   match j,q with
   |0,q=>cases q;exact⟨_,rfl⟩
   |1,q=>cases q;exact⟨_,rfl⟩
   |2,q=>cases q;exact⟨_,rfl⟩
   |j+3,q=>cases q⟩
  exact⟨_,δ,by rw[hp];rfl,by rw[jv],λ_=>⟨_,_,zu (vR (aC.ix (W.var rfl) (aC.cst (.int 0)) rfl) rfl) (vR (aC.ix (W.var rfl) (aC.cst (.int 1)) rfl) rfl) (jk (W.var rfl) (W.var rfl) (W.var rfl) hu),rfl,Ct u hr hc⟩⟩
 exact⟨k,h2,by omega,bM h1⟩
structure Sq(n:Nat)(q:List D):Prop where
 len:q.length=n
 row:∀r∈q,∃l:List Int,r=.lst (l.map D.int)/\l.length=n
theorem Sq.set{r c:Nat}{q:List D}(h:Sq n q)(hr:r<n)(hc:c<n)(v:Int):∃ys,q[r]? = ζ (.lst ys)/\ys.length=n/\Sq n (q.set r (.lst (ys.set c (.int v)))):=by
 have Mn:r<q.length:=by rw[h.len];exact hr
 obtain⟨l,e,ll⟩:=h.row _ (c7 Mn);refine⟨l.map D.int,by rw[ω Mn,e],by rw[aj,ll],by rw[ba];exact h.len,λx hx=>?_⟩;rcases il hx with hx|rfl
 .exact h.row x hx
 .exact⟨l.set c v,by rw[Za],by rw[ba];exact ll⟩
theorem h29{n:Nat}(ha:a<5)(hl:∀d∈l,ce (sz a) d=δ)(LB:∀d∈l',ce (sz a) d=δ)(ll:l.length<=200)(ll':l'.length<=2000)(OE:(T n).cl 30 [cW a,.int (b:Int),.int (m:Int)]=.ok (.lst l,δ))(OD:(T n).cl 31 [.lst (gD gs),cW a,.int (m:Int)]=.ok (.lst l',δ)) :
  ∃q,Sq (sz a) q/\(T (n+1)).cl 29 [.lst (gD gs),cW a,.int (b:Int),.int (m:Int)]=.ok (.lst q,δ):=by
 rw[fN,aN (F:=⟨4,8,UI⟩) rfl rfl];have e0:cW a=.int ((sz a:Nat):Int):=by show D.int (15+4*(a:Int))=D.int (((15+4*a:Nat)):Int);congr 1
 have Lm:sz a<=31:=by show 15+4*a<=31;omega
 rw[e0]at OE OD ⊢;generalize sz a=s at Lm hl LB OE OD ⊢;have mm:∀d∈l++l',ce s d=δ:=λd h=>(i9.mp h).elim (hl d) (LB d)
 have V:=Tv.start [.lst (gD gs),.int (s:Int),.int (b:Int),.int (m:Int)] 8;obtain⟨q0,h1,h2,_,h3⟩:=V.vw.IW (T:=T n) (pick:=[1]) (c:=.none) (it:=.Iq HJ) (e:=.bin .Mult (.lst (HQ Ht)) HJ) (λr=>∃l:List Int,r=.lst (l.map D.int)/\l.length=s) (BO (V.var rfl) (by omega)) (by simp;omega) λx hx W w=>⟨δ,by rw[jv],λ_=>⟨_,_,dO (aC.bin (aC.Kw (aC.cst _)) (w.var rfl) (jT s (by omega))) (iT _),by rfl,_,by rw[zJ],by simp⟩⟩
 refine V.sA (T:=T n) (Q:=λf=>∃q:List D,Sq s q/\Rd (.lst q) f) h1 λe V=>wU (l:=l++l') (by rw[cU,AV (aC.JY (V.var rfl) (V.var rfl) (V.var rfl) OE) (aC.JY (V.var rfl) (V.var rfl) (V.var rfl) OD) (by omega) λd hd=>pE (mm d hd),aA];rfl) V (λus=>∃(q:List D) (o4 o6 o7:_),Sq s q/\us=[lo gs,no s,no b,no m,o4,ζ (.lst q,δ),o6,o7]) ⟨_,_,_,_,⟨by rw[h3 rfl];simp,h2⟩,rfl⟩ (λx hx us e ⟨q,o4,o6,o7,hq,hu⟩ V=>?_) λe us ⟨q,o4,o6,o7,hq,hu⟩ V=>by
  subst hu;exact⟨q,hq,V.ret rfl⟩
 subst hu;obtain⟨r,c,v,rfl,hr,hc⟩:=rE (mm x hx);obtain⟨ys,y1,y2,y3⟩:=hq.set hr hc v;obtain⟨e1,z,V⟩:=V.LY (i:=4) (j:=6) (k:=7) [] (x:=.int (r:Int)) (y:=.int (c:Int)) (z:=.int v) rfl rfl rfl;exact⟨e1,z,V.sQ rfl (V.var rfl) y1 (V.var rfl) (by omega) (by omega) (eZ (V.var rfl) rfl) λe V=>V.nil ⟨_,_,_,_,y3,rfl⟩⟩
theorem f7a(n:Nat):vP (ce 15) 100 100 (Pc.run fns gl 1000 (n+3) 7 [.int 15])=δ:=by kernel_rfl
theorem f7b(n:Nat):vP (ce 19) 100 100 (Pc.run fns gl 1000 (n+3) 7 [.int 19])=δ:=by kernel_rfl
theorem f7c(n:Nat):vP (ce 23) 100 100 (Pc.run fns gl 1000 (n+3) 7 [.int 23])=δ:=by kernel_rfl
theorem f7d(n:Nat):vP (ce 27) 100 100 (Pc.run fns gl 1000 (n+3) 7 [.int 27])=δ:=by kernel_rfl
theorem f7e(n:Nat):vP (ce 31) 100 100 (Pc.run fns gl 1000 (n+3) 7 [.int 31])=δ:=by kernel_rfl
theorem Wu(ha:a<5)(n:Nat):vP (ce (sz a)) 1 50 (Pc.run fns gl 1000 (n+1) 10 [cW a])=δ:=by
 rcases n5 ha with rfl|rfl|rfl|rfl|rfl<;>kernel_rfl
theorem Wt(ha:a<5)(n:Nat):vP (pl (sz a)) 16 16 (Pc.run fns gl 1000 (n+1) 11 [cW a])=δ:=by
 rcases n5 ha with rfl|rfl|rfl|rfl|rfl<;>kernel_rfl
theorem f5{b:Nat}(hb:b<4)(hm:m<8)(n:Nat):vP FP 16 16 (Pc.run fns gl 1000 (n+3) 5 [.int (b:Int),.int (m:Int)])=δ:=by
 rcases n4 hb with rfl|rfl|rfl|rfl<;>rcases(by omega:m=0\/m=1\/m=2\/m=3\/m=4\/m=5\/m=6\/m=7)with rfl|rfl|rfl|rfl|rfl|rfl|rfl|rfl<;>kernel_rfl
theorem f7(ha:a<5)(n:Nat):vP (ce (sz a)) 100 100 (Pc.run fns gl 1000 (n+3) 7 [cW a])=δ:=by
 rcases n5 ha with rfl|rfl|rfl|rfl|rfl
 .exact f7a n
 .exact f7b n
 .exact f7c n
 .exact f7d n
 .exact f7e n
theorem DX{ds:List D}(h:∀n,vP f i j (Pc.run fns gl 1000 (n+k) g ds)=δ)(m:Nat)(hm:k<=m):∃l,(T m).cl g ds=.ok (.lst l,δ)/\(∀d∈l,f d=δ)/\l.length<=j:=by
 obtain⟨n,rfl⟩:=iy hm;obtain⟨l,a,b,_,c⟩:=DI (h n);exact⟨l,by rw[fN,fh];exact a,b,c⟩
theorem LQ(n:Nat)(ha:a<5)(hb:b<4)(hm:m<8)(hg:gs.length<=133):∃q,Sq (sz a) q/\(T (n+7)).cl 29 [.lst (gD gs),cW a,.int (b:Int),.int (m:Int)]=.ok (.lst q,δ):=by
 obtain⟨l1,c1,m1,n1⟩:=DX (f7 ha) (n+3) (by omega);obtain⟨l2,c2,m2,n2⟩:=DX (Wu ha) (n+3) (by omega);obtain⟨l3,c3,m3,n3⟩:=DX (Wt ha) (n+3) (by omega);obtain⟨d,hd,c13⟩:=RZ (n:=n+3) ha m1 m2 m3 n1 n2 n3 c1 c2 c3;obtain⟨l,p1,p2,c14⟩:=RY (n:=n+3) ha;obtain⟨k,q1,q2,c12⟩:=R5 (n:=n+4) ha (l:=l) (λx hx=>by
  obtain⟨r,c,rfl,hr,hc⟩:=lz (p1 x hx);have hr:r<15+4*a:=hr;have hc:c<15+4*a:=hc;exact CC (by omega) (by omega)) (by omega) (hd.imp id λ⟨ks,e,_⟩=>⟨ks,e⟩) c13 c14
 obtain⟨L,r1,r2,OD⟩:=h31 (n:=n+3) (m:=m) ha hg (λx hx=>p1 x (q1 x hx)) (by omega) c12;obtain⟨l1,c1,m1,n1⟩:=DX (f7 ha) (n+5) (by omega);obtain⟨l2,c2,m2,n2⟩:=DX (Wu ha) (n+5) (by omega);obtain⟨l3,c3,m3,n3⟩:=DX (Wt ha) (n+5) (by omega);obtain⟨l4,c4,m4,_⟩:=DX (f5 hb hm) (n+5) (by omega);obtain⟨M,s1,s2,OE⟩:=h30 (n:=n+5) m1 m2 m3 m4 n1 n2 n3 c1 c2 c3 c4;exact h29 (n:=n+6) ha s1 r1 s2 r2 OE OD
end K40
end
section
namespace Pc
open PySem
def mE{α:Type}(x y:Rs α):Prop:=∀a,x=.ok a->y=.ok a
def r6(a b:Fl):Prop:=a=.bad\/a=b
theorem mE.refl{α:Type}(x:Rs α):mE x x:=λ_ h=>h
theorem r6.refl(x:Fl):r6 x x:=.inr rfl
theorem mE.bind{α β:Type}{x y:Rs α}{f g:α->Rs β}(h:mE x y)(k:∀a,mE (f a) (g a)):mE (x.bind f) (y.bind g):=λb e=>by
 cases x with
 |ok a=>rw[h a rfl];exact k a b e
 |bad=>cases e
theorem r6.on{α:Type}{env:En}{x y:Rs α}{f g:α->Fl}(h:mE x y)(k:∀a,r6 (f a) (g a)):r6 (gU env x f) (gU env y g):=by
 cases x with
 |ok a=>rw[h a rfl];exact k a
 |bad=>exact .inl rfl
theorem r6.then{a b:Fl}{f g:En->Fl}(h:r6 a b)(k:∀e,r6 (f e) (g e)):r6 (a.andThen f) (b.andThen g):=by
 rcases h with rfl|rfl
 .exact .inl rfl
 .cases a with
  |nx e=>exact k e
  |_=>exact .refl _
theorem m7{f g:D->Rs (Option (D×Rt))}(h:∀d,mE (f d) (g d)):∀l,mE (fH f l) (fH g l)
 |[]=>.refl _
 |d::r=>by
  unfold fH;exact(h d).bind λo=>(m7 h r).bind λl=>.refl _
variable {c c':En->Rs Bool}
theorem qm{o:Option En}{e e':En->Rs (D×Rt)}(h:∀n,mE (c n) (c' n))(k:∀n,mE (e n) (e' n)):mE (cZ o c e) (cZ o c' e'):=by
 cases o with
 |none=>exact .refl _
 |some env=>
  unfold cZ;refine(h env).bind λb=>?_
  cases b
  .exact .refl _
  .exact (k env).bind λq=>.refl _
variable {b b':En->Fl}
theorem qN{t:kh}{R:List Nat}(h:∀e,r6 (b e) (b' e)):∀(l:List D) (e:En),r6 (hV t R b l e) (hV t R b' l e)
 |[],e=>.refl _
 |d::r,e=>by
  unfold hV;cases bP R t d e with
  |none=>exact .refl _
  |some e1=>
   dsimp only;rcases h e1 with q|q
   .rw[q];exact .inl rfl
   .rw[<-q];cases b e1 with
    |nx e2=>exact qN h r e2
    |_=>exact .refl _
theorem pK(h:∀e,mE (c e) (c' e))(k:∀e,r6 (b e) (b' e)):∀(n:Nat) (e:En),r6 (iO c b n e) (iO c' b' n e)
 |0,e=>.refl _
 |n+1,e=>by
  unfold iO;refine .on (h e) λx=>?_
  cases x
  .exact .refl _
  .simp only[if_true];rcases k e with q|q
   .rw[q];exact .inl rfl
   .rw[<-q];cases b e with
    |nx e2=>exact pK h k n e2
    |_=>exact .refl _
section
variable {c c':Nat->List D->Rs (D×Bool)}{gl:Nat->D}{fuel:Nat}(h:∀f ds,mE (c f ds) (c' f ds))
include h
mutual
theorem aU:∀(e:Ex) (env:En),mE (ev ⟨c,gl,fuel⟩ e env) (ev ⟨c',gl,fuel⟩ e env)
 |.var i,env=>by rw[ev,ev];exact .refl _
 |.cst d,env=>by rw[ev,ev];exact .refl _
 |.Ic k,env=>by rw[ev,ev];exact .refl _
 |.bin op a b,env=>by rw[ev,ev];exact(aU a env).bind λp=>(aU b env).bind λq=>.refl _
 |.neg a,env=>by rw[ev,ev];exact(aU a env).bind λp=>.refl _
 |.cmp op a b,env=>by rw[ev,ev];exact(aU a env).bind λp=>(aU b env).bind λq=>.refl _
 |.and a b,env=>by
  rw[ev,ev];refine(aU a env).bind λp=>?_
  split
  .exact aU b env
  .exact .refl _
  .exact .refl _
 |.or a b,env=>by
  rw[ev,ev];refine(aU a env).bind λp=>?_
  split
  .exact .refl _
  .exact aU b env
  .exact .refl _
 |.not a,env=>by rw[ev,ev];exact(aU a env).bind λp=>.refl _
 |.ite d a b,env=>by
  rw[ev,ev];refine(aU d env).bind λp=>(mE.refl _).bind λk=>?_
  cases k
  .exact aU b env
  .exact aU a env
 |.lst es,env=>by rw[ev,ev];exact(gZ es env).bind λl=>.refl _
 |.tup es,env=>by rw[ev,ev];exact(gZ es env).bind λl=>.refl _
 |.ix a i,env=>by rw[ev,ev];exact(aU a env).bind λp=>(aU i env).bind λq=>.refl _
 |.sl a lo hi,env=>by rw[ev,ev];exact(aU a env).bind λp=>(oz lo env).bind λq=>(oz hi env).bind λr=>.refl _
 |.call f es,env=>by rw[ev,ev];exact(gZ es env).bind λl=>(h f _).bind λr=>.refl _
 |.blt b es,env=>by rw[ev,ev];exact(gZ es env).bind λl=>.refl _
 |.Lo m o es,env=>by rw[ev,ev];exact(aU o env).bind λp=>(gZ es env).bind λl=>.refl _
 |.comp own pick t it d e,env=>by
  rw[ev,ev];exact(yO it env).bind λp=>(m7 (λd'=>qm (λn=>CS d n) (λn=>aU e n)) _).bind λl=>.refl _
 |.KC,env=>by rw[ev,ev];exact .refl _
 |.K5 l,env=>by rw[ev,ev];exact .refl _
 |.app g es,env=>by rw[ev,ev];exact(gZ es env).bind λl=>.refl _
theorem gZ:∀(es:jR) (env:En),mE (aT ⟨c,gl,fuel⟩ es env) (aT ⟨c',gl,fuel⟩ es env)
 |.nil,env=>by rw[aT,aT];exact .refl _
 |.cons e es,env=>by rw[aT,aT];exact(aU e env).bind λp=>(gZ es env).bind λl=>.refl _
theorem oz:∀(o:jS) (env:En),mE (iX ⟨c,gl,fuel⟩ o env) (iX ⟨c',gl,fuel⟩ o env)
 |.none,env=>by rw[iX,iX];exact .refl _
 |.some e,env=>by rw[iX,iX];exact(aU e env).bind λp=>.refl _
theorem CS:∀(o:jS) (env:En),mE (jv ⟨c,gl,fuel⟩ o env) (jv ⟨c',gl,fuel⟩ o env)
 |.none,env=>by rw[jv,jv];exact .refl _
 |.some e,env=>by rw[jv,jv];exact(aU e env).bind λp=>.refl _
theorem yO:∀(it:oY) (env:En),mE (cU ⟨c,gl,fuel⟩ it env) (cU ⟨c',gl,fuel⟩ it env)
 |.seq e,env=>by rw[cU,cU];exact(aU e env).bind λp=>.refl _
 |.Iq a,env=>by rw[cU,cU];exact(aU a env).bind λp=>.refl _
 |.Jq a b,env=>by rw[cU,cU];exact(aU a env).bind λp=>(aU b env).bind λq=>.refl _
 |.Jf a b d,env=>by rw[cU,cU];exact(aU a env).bind λp=>(aU b env).bind λq=>(aU d env).bind λr=>.refl _
 |.enum e,env=>by rw[cU,cU];exact(aU e env).bind λp=>.refl _
 |.zip a b,env=>by rw[cU,cU];exact(aU a env).bind λp=>(aU b env).bind λq=>.refl _
end
mutual
theorem EX:∀(s:St) (env:En),r6 (cP ⟨c,gl,fuel⟩ s env) (cP ⟨c',gl,fuel⟩ s env)
 |.asg t e mv,env=>by rw[cP,cP];exact .on (aU h e env) λp=>.refl _
 |.mut x path m es,env=>by
  rw[cP,cP];cases ownAt env x with
  |none=>exact .refl _
  |some d=>
   refine .on (oz h path env) λp=>?_
   cases d.Jn p with
   |none=>exact .refl _
   |some xs=>exact .on (gZ h es env) λl=>.refl _
 |.JN x i v,env=>by
  rw[cP,cP];cases ownAt env x with
  |none=>exact .refl _
  |some d=>exact .on (aU h v env) λu=>.on (aU h i env) λp=>.refl _
 |.Ir x path i e,env=>by
  rw[cP,cP];cases ownAt env x with
  |none=>exact .refl _
  |some d=>
   refine .on (aU h e env) λv=>.on (oz h path env) λp=>?_
   cases d.Jn p with
   |none=>exact .refl _
   |some xs=>exact .on (aU h i env) λl=>.refl _
 |.aug x op e,env=>by
  rw[cP,cP];cases intAt env x with
  |none=>exact .refl _
  |some a=>exact .on (aU h e env) λp=>.refl _
 |.expr e,env=>by rw[cP,cP];exact .on (aU h e env) λp=>.refl _
 |.ite d a b,env=>by
  rw[cP,cP];refine .on (aU h d env) λp=>?_
  split
  .exact iP a env
  .exact iP b env
  .exact .refl _
 |.Ie t it b,env=>by
  rw[cP,cP];refine .on (yO h it env) λp=>?_
  rcases qN (t:=t) (R:=p.2) (λe=>iP b e) p.1 (lock p.2 env)with q|q
  .rw[q];exact .inl rfl
  .rw[<-q];exact .refl _
 |.K8 d b,env=>by
  rw[cP,cP];exact pK (λe=>(aU h d e).bind λp=>.refl _) (λe=>iP b e) fuel env
 |.ret e,env=>by rw[cP,cP];exact .on (aU h e env) λp=>.refl _
theorem iP:∀(s:bV) (env:En),r6 (aP ⟨c,gl,fuel⟩ s env) (aP ⟨c',gl,fuel⟩ s env)
 |.nil,env=>by rw[aP,aP];exact .refl _
 |.cons s r,env=>by rw[aP,aP];exact(EX s env).then λe=>iP r e
end
end
theorem zO(fns:List Fn)(gl:Nat->D)(fuel:Nat):∀(n f:Nat) (ds:List D),mE (run fns gl fuel n f ds) (run fns gl fuel (n+1) f ds)
 |0,f,ds=>λa e=>by cases e
 |n+1,f,ds=>λa e=>by
  unfold run at e ⊢;cases hF:fns[f]? with
  |none=>rw[hF]at e;cases e
  |some F=>
   rw[hF]at e;dsimp only at e ⊢;by_cases hl:ds.length=F.ps
   .rw[if_pos hl]at e ⊢;rcases iP (gl:=gl) (fuel:=fuel) (zO fns gl fuel n) F.body (aJ ds F.slots)with q|q
    .rw[q]at e;cases e
    .rw[<-q];exact e
   .rw[if_neg hl]at e;cases e
theorem yz{fns:List Fn}{gl:Nat->D}{fuel n f:Nat}{ds:List D}{r:D×Bool}(h:run fns gl fuel n f ds=.ok r):∀k,run fns gl fuel (n+k) f ds=.ok r
 |0=>h
 |k+1=>zO fns gl fuel (n+k) f ds r (yz h k)
end Pc
end
section
namespace K40
open PySem Pc Pc.Sm Pc.Gr Pc.Lw Pc.Vw Fl64
variable {B:List Q4}{t:List Nat}
theorem qc(h:sj t 0 B)(hG:Good t):∀(m i:Nat),i+m=t.length->(B.getD i z4).1<=7*m+8*((m+63) / 64):=by
 intro m
 induction m using YJ with
 |_ m ih=>
  intro i hi;by_cases h0:m=0
  .subst h0;obtain rfl:i=t.length:=by exact O2 [.eq (aD+0) aH] (.eq aD aH) [[1,0,1],[1,1]] rfl hi
   rw[h.z];exact cf _
  .have key:∀c,1<=c->c<=64->c<=m->(B.getD i z4).1<=8+7*c+(B.getD (i+c) z4).1:=λc c1 c2 c3=>h.le i 3 c (cf _) ⟨by decide,by decide,c1,c2,by exact O4 [.eq (aD+aH) aO,.le cA aH] (.le (aD+cA) aO) [[1,1,1]] rfl hi c3,λx hx=>hG x (dm (cv hx))⟩
   by_cases hm:m<=64
   .have:=key m (by omega) hm (ao _);have:=ih 0 (by omega) (i+m) (by exact O3 [.eq (aD+aH) aO] (.eq (aD+aH+0) aO) [[1,0,1],[1,1]] rfl hi);omega
   .have:=key 64 (by exact O0 [] (.le 1 64) [[1]] rfl) (by exact O0 [] (.le 64 64) [[1]] rfl) (by exact O1 [.J6 aD 64] (.le 64 aD) [[1,1]] rfl hm);have:=ih (m-64) (by exact O2 [.eq (aD+64) aH] (.lt aD aH) [[1,1]] rfl (lV (O1 [.J6 aD 64] (.le 64 aD) [[1,1]] rfl hm))) (i+64) (by exact O4 [.eq (aD+aH) aO,.eq (cA+64) aH] (.eq (aD+64+cA) aO) [[1,0,1,0,1],[1,1,0,1]] rfl hi (lV (O1 [.J6 aD 64] (.le 64 aD) [[1,1]] rfl hm)));omega
theorem wI(h:sj t 0 B)(hG:∀x∈t,jd 1 x=δ):∀(m i:Nat),i+m=t.length->(B.getD i z4).1<=10*((m+2) / 3)+8*((m+62) / 63):=by
 intro m
 induction m using YJ with
 |_ m ih=>
  intro i hi;by_cases h0:m=0
  .subst h0;obtain rfl:i=t.length:=by exact O2 [.eq (aD+0) aH] (.eq aD aH) [[1,0,1],[1,1]] rfl hi
   rw[h.z];exact cf _
  .have key:∀c,1<=c->c<=64->c<=m->(B.getD i z4).1<=8+10*(c / 3)+fb (c%3)+(B.getD (i+c) z4).1:=λc c1 c2 c3=>h.le i 1 c (cf _) ⟨by decide,by decide,c1,c2,by exact O4 [.eq (aD+aH) aO,.le cA aH] (.le (aD+cA) aO) [[1,1,1]] rfl hi c3,λx hx=>hG x (dm (cv hx))⟩
   have Ws:∀c,fb (c%3)+10*(c / 3)<=10*((c+2) / 3):=λc=>by unfold fb;split<;>omega
   by_cases hm:m<=63
   .have:=key m (by omega) (by exact O1 [.le aD 63] (.le aD 64) [[1,1]] rfl hm) (ao _);have:=Ws m;have:=ih 0 (by omega) (i+m) (by exact O3 [.eq (aD+aH) aO] (.eq (aD+aH+0) aO) [[1,0,1],[1,1]] rfl hi);omega
   .have:=key 63 (by exact O0 [] (.le 1 63) [[1]] rfl) (by exact O0 [] (.le 63 64) [[1]] rfl) (by exact O1 [.J6 aD 63] (.le 63 aD) [[1,1]] rfl hm);have:=Ws 63;have:=ih (m-63) (by exact O2 [.eq (aD+63) aH] (.lt aD aH) [[1,1]] rfl (lV (O1 [.J6 aD 63] (.le 63 aD) [[1,1]] rfl hm))) (i+63) (by exact O4 [.eq (aD+aH) aO,.eq (cA+63) aH] (.eq (aD+63+cA) aO) [[1,0,1,0,1],[1,1,0,1]] rfl hi (lV (O1 [.J6 aD 63] (.le 63 aD) [[1,1]] rfl hm)));omega
theorem xN(h:sj t 0 B)(hG:∀x∈t,x=126):∀(m i:Nat),i+m=t.length->7*m<=(B.getD i z4).1:=by
 intro m
 induction m using YJ with
 |_ m ih=>
  intro i hi;by_cases h0:m=0
  .subst h0;exact cf _
  .obtain⟨p,e⟩:=h.eq i (cf _) (by omega);generalize(B.getD i z4).2.2.1=k at p e;generalize(B.getD i z4).2.2.2=c at p e;have p1:=p.c1;have p2:=p.le;have hx:(t.drop i).take c≠[]:=λz=>by
    have:=fk XO z;rw[cn,bp,du]at this;omega
   obtain⟨x,r,hr⟩:=List.exists_cons_of_ne_nil hx;have xm:x∈(t.drop i).take c:=by rw[hr];exact ah
   have hk:=p.al x xm;rw[hG x (dm (cv xm))]at hk;have k1:=p.k1;have k3:=p.k3;obtain rfl:k=3:=by
    rcases(by omega:k=1\/k=2\/k=3)with rfl|rfl|rfl
    .exact absurd hk (by decide)
    .exact absurd hk (by decide)
    .rfl
   have:=ih (m-c) (by exact O3 [.le 1 aD,.eq (aH+aD) aO] (.lt aH aO) [[1,1,0,1]] rfl p1 (lV (O4 [.eq (aD+aH) aO,.le (aD+cA) aO] (.le cA aH) [[1,1,0,1]] rfl hi p2))) (i+c) (by exact O5 [.eq (aD+aH) aO,.eq (cA+iB) aH] (.eq (aD+iB+cA) aO) [[1,0,1,0,1],[1,1,0,1]] rfl hi (lV (O4 [.eq (aD+aH) aO,.le (aD+cA) aO] (.le cA aH) [[1,1,0,1]] rfl hi p2)));rw[e];show 7*m<=8+7*c+_;exact O4 [.le (Ol 7 aD) aH,.le aO (aD+cA)] (.le (Ol 7 aO) (8+(Ol 7 cA)+aH)) [[1,7,1]] rfl this Dd
theorem lo1(l:List Nat)(x:Nat)(b:Bool):lo (l ++ [x]) b=ζ (.lst (gD l ++ [.int (x:Int)]),b):=by rw[lo,jL];rfl
theorem RX(n:Nat){t:List Nat}(ht:t.length<=120)(hG:Good t):∃(B:List Q4) (gs:List Nat),sj t 0 B/\Gr gs/\gs.length=((B.getD 0 z4).1+7) / 6/\(T (n+5)).cl 24 [.str (tx t)]=.ok (.lst (gD gs),δ):=by
 obtain⟨B,P,hB,hP,hc,c19⟩:=h19 n (t:=t) (by exact O1 [.le aD 120] (.le aD 300) [[1,1]] rfl ht) hG;have ub:=qc hB hG t.length 0 (by exact O1 [] (.eq (0+aD) aD) [[1],[1]] rfl);obtain⟨z,z1,z2,z3⟩:=h3 (n+3) 0 2 (by decide);rw[fN,aN (F:=⟨1,3,UN⟩) rfl rfl];have V:=Tv.start [.str (tx t)] 3;refine V.sA (T:=T (n+4)) (Q:=λf=>∃(B:List Q4) (gs:List Nat),sj t 0 B/\Gr gs/\gs.length=((B.getD 0 z4).1+7) / 6/\Rd (.lst (gD gs)) f) (d:=.lst (gD [])) mD λe V=>lG (α:=Pe) (g:=pD) (l:=P) (R:=[]) (λm us=>(∀p∈m,Piece p)/\∃bs o2,Bt bs/\bs.length+(m.map pc).sum=(B.getD 0 z4).1/\us=[ζ (.str (tx t),γ),lo bs δ,o2]) (by rw[cU,bZ (V.var rfl) c19,aA];rfl) (by rw[bN];exact V) ⟨hP,[],_,λ_ h=>(nomatch h),by rw[hc];simp,rfl⟩ (λp m us e ⟨hm,bs,o2,hb,lb,hu⟩ V=>?_) λe us ⟨_,bs,o2,hb,lb,hu⟩ V=>?_
 .subst hu;obtain⟨xs,x1,x2,x3⟩:=h16 (n+1) (hm p ah);rw[a9,X2]at lb;obtain⟨e1,q,V⟩:=V.IX (i:=2) [] (d:=pD p) rfl;exact⟨e1,q,V.M0 rfl (bZ (V.var rfl) x3) (by exact O7 [.le aD 120,.le aH ((Ol 7 aD)+(Ol 8 aO)),.eq (cA+(iB+zR)) aH,.eq PB iB,.le (Ol 64 aO) (aD+63)] (.le (cA+PB) 10000) [[8,1,8,0,8,0,8,57]] rfl ht ub lb x2 mq) λe V=>V.nil ⟨λx hx=>hm x (ae _ hx),bs++xs,_,gG hb x1,by rw[aw];exact O5 [.eq (aD+(aH+aO)) cA,.eq iB aH] (.eq (aD+iB+aO) cA) [[1,0,1,0,1],[1,1,0,1]] rfl lb x2,rfl⟩⟩
 .subst hu;have lb:bs.length=(B.getD 0 z4).1:=by simpa using lb
  refine V.M0 rfl (bR (aC.Ic 14) (aC.Ic 20) z3) (by exact O5 [.le aD 120,.le aH ((Ol 7 aD)+(Ol 8 aO)),.eq cA 2,.eq iB aH,.le (Ol 64 aO) (aD+63)] (.le (iB+cA) 10000) [[8,1,8,0,8,0,8,57]] rfl ht ub z2 lb mq) λe V=>V.sW (n:=6) (λm us=>∃Ki o2,Bt Ki/\bs.length+2<=Ki.length/\Ki.length<=(bs.length+7) / 6*6/\bs.length+8<=Ki.length+m/\us=[ζ (.str (tx t),γ),lo Ki δ,o2]) (by show 6<1000;decide) ⟨bs++z,_,gG hb z1,by rw[aw];exact O2 [.eq aD 2] (.le (aH+2) (aH+aD)) [[1,0,1]] rfl z2,by rw[aw];exact O3 [.eq aD 2,.lt (aH+7) ((Ol 6 aO)+6)] (.le (aH+aD) (Oq aO 6)) [[1,1,1]] rfl z2 (E3 rfl),by rw[aw];exact O2 [.eq aD 2] (.le (aH+8) (aH+aD+6)) [[1,0,1]] rfl z2,rfl⟩ (λm us e ⟨Ki,o2,Jz,l1,l2,l3,hu⟩ V=>?_) λm e us ⟨Ki,o2,Jz,l1,l2,l3,hu⟩ V c=>?_
  .subst hu;refine⟨decide (Ki.length%6≠0),aC.cmp (iC (b:=6) (by decide) (aC.Ij (V.var rfl) (hJ Ki)) (aC.Ic 25)) (aC.cst (.int 0)) ?_,λh=>?_⟩
   .show (ζ (((Ki.length%6:Nat):Int)==0)).map (λb=>!b)=_;show ζ _=ζ _;congr 1;rw[ja];simp;omega
   .have h:=bg h;refine⟨m-1,by exact O2 [.eq (aD+1) aH] (.eq aH (aD+1)) [[1,1],[1,0,1]] rfl (lV (O4 [.le aD (Oq aH 6),.le (aO+8) (aD+cA),.le (Ol 6 aH) (aO+7)] (.le 1 cA) [[1,1,1,1]] rfl l2 l3 mq)),V.sM rfl (d:=.int ((0:Nat):Int)) (by rw[ev];rfl) (by rw[eY];exact O6 [.le aD 120,.le aH ((Ol 7 aD)+(Ol 8 aO)),.eq cA aH,.le iB (Oq zR 6),.le (Ol 64 aO) (aD+63),.le (Ol 6 zR) (cA+7)] (.lt iB 10000) [[8,8,1,8,8,0,8,57]] rfl ht ub lb l2 mq mq) λe V=>V.nil ⟨Ki ++ [0],_,gG Jz λx hx=>by rw[gr.mp hx];decide,by simp;exact O2 [.le (aD+2) aH] (.le (aD+1) aH) [[1,1]] rfl l1,by simp;omega,by simp;exact O4 [.le (aD+8) (aH+aO),.le aO (cA+1)] (.le (aD+8) (aH+1+cA)) [[1,1,1]] rfl l3 Dd,by rw[lo1];rfl⟩⟩
  .subst hu;have:(decide (Ki.length%6≠0))=γ:=(aC.cmp (T:=T (n+4)) (op:=.NotEq) (k:=decide (Ki.length%6≠0)) (iC (b:=6) (by decide) (aC.Ij (V.var (i:=1) rfl) (hJ Ki)) (aC.Ic 25)) (aC.cst (.int 0)) (by
    show(ζ (((Ki.length%6:Nat):Int)==0)).map (λb=>!b)=_;show ζ _=ζ _;congr 1;rw[ja];simp;omega)).K7 c
   have:=of_decide_eq_false this;obtain⟨gs,g1,g2,g3⟩:=h25 (n+2) Jz (by exact O6 [.le aD 120,.le aH ((Ol 7 aD)+(Ol 8 aO)),.eq cA aH,.le iB (Oq zR 6),.le (Ol 64 aO) (aD+63),.le (Ol 6 zR) (cA+7)] (.le iB 1000) [[8,8,1,8,8,0,8,57]] rfl ht ub lb l2 mq mq);exact⟨B,gs,hB,g1,by rw[g2,<-lb];exact O4 [.le (aD+2) aH,.le aH (Oq aO 6),.le (Ol 6 cA) (aH+5),.lt (aH+5) ((Ol 6 cA)+6),.le (Ol 6 aO) (aD+7)] (.eq cA aO) [[6,1,1,0,0,1],[6,0,0,1,1]] rfl l1 l2 mq (E3 rfl) mq,bM (bZ (V.var rfl) g3)⟩
theorem h27(n:Nat){gs:List Nat}(hg:Gr gs){r:Nat}(hl:gs.length<=r)(hr:r<=200):∃MH,Gr MH/\MH.length=r/\(T (n+1)).cl 27 [.lst (gD gs),.int (r:Int)]=.ok (.lst (gD MH),δ):=by
 rw[fN,aN (F:=⟨2,3,UK⟩) rfl rfl];have V:=Tv.start [.lst (gD gs),.int (r:Int)] 3;refine Wp.ite (T:=T n) (Q:=λf=>∃MH,Gr MH/\MH.length=r/\Rd (.lst (gD MH)) f) (k:=γ) (aC.cmp (aC.Ij (V.var rfl) (hJ gs)) (V.var rfl) (by show ζ (decide ((r:Int)<gs.length))=_;rw[bj (by omega)])) (λh=>by cases h) λ_=>V.sA (dO (yY (V.var rfl) (aC.Ij (V.var rfl) (hJ gs)) hl) rfl) λe V=>?_
 obtain⟨m,h1,h2,_,h3⟩:=V.vw.IW (T:=T n) (pick:=[]) (c:=.none) (it:=.Iq HH) (e:=.ix (.Ic 26) (.bin .Mod HG (HV (.Ic 26)))) (λd=>∃i:Nat,d=.int (i:Int)/\i<64) (BO (V.var rfl) (by exact O2 [.le aD 200,.le aH aD] (.le aH 1000) [[1,1,1]] rfl hr zT)) (by simp;exact O2 [.le aD 200] (.le aD (10000+aH)) [[1,1]] rfl hr) λa ha W w=>by
  obtain⟨j,_,rfl⟩:=gt.mp ha;have hm:=iC (T:=T n) (b:=2) (by decide) (w.var (i:=0) rfl) (aC.Ij (k:=.len) (z:=.int 2) (aC.Ic 26) rfl);rcases f9 j with e|e<;>rw[e]at hm
  .exact⟨δ,by rw[jv],λ_=>⟨_,_,vR (d:=.int ((42:Nat):Int)) (aC.ix (aC.Ic 26) hm rfl) rfl,rfl,42,rfl,by decide⟩⟩
  .exact⟨δ,by rw[jv],λ_=>⟨_,_,vR (d:=.int ((21:Nat):Int)) (aC.ix (aC.Ic 26) hm rfl) rfl,rfl,21,rfl,by decide⟩⟩
 obtain⟨fs,rfl,hf⟩:=pS h2;have:=h3 rfl;simp only[aj,fv]at this;exact⟨gs++fs,hg.append hf,by rw[aw];exact O4 [.eq aD aH,.eq (aH+aO) cA] (.eq (aO+aD) cA) [[1,0,1,0,1],[1,1,0,1]] rfl this (lV (O2 [.le aD aH] (.le aD aH) [[1,1]] rfl hl)),bM (u7 (V.var rfl) (aC.of h1) (by exact O4 [.le aD aH,.le aH 200,.eq aO cA,.le cA aH] (.le (aD+aO) 1000) [[1,1,1,0,2,1]] rfl hl hr this zT))⟩
structure Fits(t:List Nat)(a b:Nat):Prop where
 g:Good t
 l:t.length<=100
 f:∀B,sj t 0 B->(B.getD 0 z4).1+2<=6*RM a b
variable {m:Nat}
theorem DA{n f:Nat}{ds:List D}{r:D×Bool}(h:(T n).cl f ds=.ok r)(hm:n<=m:=by omega):(T m).cl f ds=.ok r:=by
 obtain⟨k,rfl⟩:=iy hm;exact yz h k
structure Wr(n:Nat)(t:List Nat)(a b m:Nat)(q:List D):Prop where
 sq:Sq (sz a) q
 Nh:(T (n+9)).cl 52 [.str (tx t),cW a,.int (b:Int),.int (m:Int)]=.ok (.lst q,δ)
 due:∃g w,(T (n+9)).cl 23 [.str (tx t),.int (RM a b:Nat)]=.ok (.lst (gD g),δ)/\(T (n+9)).cl 39 [.lst (gD g),cW a,.int (b:Int)]=.ok (.lst (gD w),δ)/\(T (n+9)).cl 29 [.lst (gD w),cW a,.int (b:Int),.int (m:Int)]=.ok (.lst q,δ)
variable {a b:Nat}
theorem written(n:Nat)(ha:a<5)(hb:b<4)(hm:m<8)(F:Fits t a b):∃q,Wr n t a b m q:=by
 have Fl:=F.l;have S1:=(sh ha hb).rm;obtain⟨B,gs,hB,g1,g2,Na⟩:=RX n (t:=t) (by exact O1 [.le aD 100] (.le aD 120) [[1,1]] rfl Fl) F.g;have Ff:=F.f B hB;obtain⟨fs,f1,f2,WC⟩:=h27 n g1 (r:=RM a b) (by exact O4 [.eq aD aH,.le (aO+2) (Ol 6 cA),.le (Ol 6 aH) (aO+7)] (.le aD cA) [[6,1,1,6]] rfl g2 Ff mq) (by exact O1 [.le aD 115] (.le aD 200) [[1,1]] rfl S1);obtain⟨ws,w1,w2,Pu⟩:=h39 n ha hb f1 f2;obtain⟨q,sq,Pw⟩:=LQ n ha hb hm w2;have c1:(T (n+5)).cl 1 [cW a,.int (b:Int)]=.ok (.int (RM a b:Nat),δ):=up (r1 ha hb) (n+5);have c41:(T (n+6)).cl 41 [.lst (gD gs),cW a,.int (b:Int)]=.ok (.lst (gD ws),δ):=by
  rw[fN,aN (F:=⟨3,3,Uv⟩) rfl rfl];have V:=Tv.start [.lst (gD gs),cW a,.int (b:Int)] 3;exact bM (jk (aC.JB (V.var rfl) (aC.JB (V.var rfl) (V.var rfl) c1) (DA WC)) (V.var rfl) (V.var rfl) Pu)
 have c40:(T (n+8)).cl 40 [.str (tx t),cW a,.int (b:Int),.int (m:Int)]=.ok (.lst q,δ):=by
  rw[fN,aN (F:=⟨4,4,Uw⟩) rfl rfl];have V:=Tv.start [.str (tx t),cW a,.int (b:Int),.int (m:Int)] 4;exact bM (jM (aC.JY (aC.Jm (V.var rfl) (DA Na)) (V.var rfl) (V.var rfl) (DA c41)) (V.var rfl) (V.var rfl) (V.var rfl) Pw)
 refine⟨q,sq,?_,fs,ws,?_,DA Pu,DA Pw⟩
 .rw[fN,aN (F:=⟨4,6,Uo⟩) rfl rfl];have V:=Tv.start [.str (tx t),cW a,.int (b:Int),.int (m:Int)] 6;exact V.sA (T:=T (n+8)) (Q:=Rd _) (d:=.Ii) (by rw[ev]) λe V=>Wp.ite (k:=δ) (aC.cst _) (λ_=>V.sA (jM (V.var rfl) (V.var rfl) (V.var rfl) (V.var rfl) c40) λe V=>Wp.K3 (V.ret rfl)) (λh=>by cases h)
 .rw[fN,aN (F:=⟨2,2,UO⟩) rfl rfl];have V:=Tv.start [.str (tx t),.int (RM a b:Nat)] 2;exact bM (bR (aC.Jm (V.var rfl) (DA Na)) (V.var rfl) (DA WC))
variable {k:Nat}
theorem r46(h1:1<=k)(h3:k<=3)(n:Nat):Pc.run fns gl 1000 (n+2) 46 [.int (k:Int)]=.ok (.str (KS k),δ):=by
 rcases(by omega:k=1\/k=2\/k=3)with rfl|rfl|rfl<;>kernel_rfl
noncomputable def MO(a b:Nat)(f:Bool):Nat:=if f then min 100 (3*((6*RM a b-2-8*(1+RM a b / 30)) / 10))else(6*RM a b-2-8*(1+RM a b / 75)) / 7
theorem VA(ha:a<5)(hb:b<4)(f:Bool)(n:Nat):Pc.run fns gl 1000 (n+1) 49 [.int (RM a b:Nat),.bl f]=.ok (.int (MO a b f:Nat),δ):=by
 rcases n5 ha with rfl|rfl|rfl|rfl|rfl<;>rcases n4 hb with rfl|rfl|rfl|rfl<;>cases f<;>kernel_rfl
theorem mof:allB 5 (λa=>allB 4 λb=>decide (7*MO a b γ+8*((MO a b γ+63) / 64)+2<=6*RM a b/\10*((MO a b δ+2) / 3)+8*((MO a b δ+62) / 63)+2<=6*RM a b/\MO a b δ<=100/\MO a b γ<=100))=δ:=by decide +kernel
theorem mo(ha:a<5)(hb:b<4):7*MO a b γ+8*((MO a b γ+63) / 64)+2<=6*RM a b/\10*((MO a b δ+2) / 3)+8*((MO a b δ+62) / 63)+2<=6*RM a b/\MO a b δ<=100/\MO a b γ<=100:=bg (bE (bE mof a ha) b hb)
noncomputable def SZ:List Nat:=[0,0,0,1,0,0,2,0,1,0,3,0,0,1,0,4]
theorem szf:allB 16 (λj=>decide (SZ.getD j 0<5))=δ:=by decide
theorem VU:allB 4 (λk=>decide (0<k->0<(KS k).cps.toList.length/\(KS k).cps.toList.length<100)&&(KS k).cps.toList.all (jd 3))=δ:=by decide +kernel
variable {cs:List Nat}
theorem QG(h:cs.length<=10000):(tx cs).length<=lim:=by rw[jj];exact a8 h (by decide)
theorem wd{T:Tb}{env:En}{a b:Ex}{x y:List Nat}(ha:aC T a env (.str (tx x)))(hb:aC T b env (.str (tx y)))(h:x.length+y.length<=10000):ev T (.bin .Add a b) env=.ok (.str (tx (x++y)),.mv []):=dO (aC.bin ha hb (by
 show ck ((tx x).length+(tx y).length) (.str (tx x++tx y))=_;unfold ck;rw[if_pos (by rw[jj,jj];exact a8 h (by decide))];show ζ (D.str ⟨x.toArray++y.toArray⟩)=_;rw[List.append_toArray];rfl)) rfl
theorem xo{α:Type}(l:List α)(n:Nat):cut l ε (ζ (n:Int))=l.take n:=by
 unfold cut eO;simp only[Í,ğ];rw[if_neg (by omega),cu];by_cases h:n<=l.length
 .rw[dn h]
 .rw[dh (by omega),cw (ao _),cw (by omega)]
theorem Qb(hl:cs.length<=10000)(n:Nat):xA (.str (tx cs)) ε (ζ (n:Int))=ζ (.str (tx (cs.take n))):=by
 show(if(tx cs).length<=lim then ζ (D.str ⟨(cut cs _ _).toArray⟩)else ε)=_;rw[if_pos (QG hl),xo];rfl
variable {i:Int}
section
variable {T:Tb}{env:En}{a b:Ex}{x:Nat}
theorem jY(k:Nat)(hk:0<k)(Jk:k<1073741824)(h:aC T a env (.int (x:Int))):aC T (.bin .FloorDiv a (.cst (.int (k:Int)))) env (.int ((x / k:Nat):Int)):=aC.bin h (aC.cst _) (by
 show((if 0<(k:Int)/\(k:Int)<1073741824 then ζ ((x:Int) / (k:Int))else ε).map D.int)=_;rw[if_pos (by omega),Yv];rfl)
theorem uB{i k:Int}(hk:0<k)(h:aC T a env (.int i))(h':aC T b env (.int k)):aC T (.bin .Mod a b) env (.int (i%k)):=aC.bin h h' (by
 show((if 0<k then ζ (i%k)else ε).map D.int)=_;rw[if_pos hk];rfl)
theorem Di{k:Int}(hk:small i=δ\/small k=δ)(h:aC T a env (.int i))(h':aC T b env (.int k)):aC T (.bin .Mult a b) env (.int (i*k)):=aC.bin h h' (Ac hk)
theorem AX{k:Int}(h:aC T a env (.int i))(h':aC T b env (.int k)):aC T (.bin .Add a b) env (.int (i+k)):=aC.bin h h' rfl
end
theorem natOf{i:Int}(k:Nat)(hk:0<k):∃v:Nat,i%(k:Int)=(v:Int)/\v<k:=by
 have h0:=Int.emod_nonneg i (show(k:Int)≠0 by omega);have h1:=Int.emod_lt_of_pos i (show(0:Int)<k by omega);exact⟨(i%(k:Int)).toNat,by omega,by omega⟩
theorem Wo(n:Nat)(c:Int){k:Nat}(hk:k<=64){f:Int}(hf:small f=δ):∃v:Nat,(T (n+1)).cl 42 [.int c,.int (k:Int),.int f]=.ok (.int (v:Int),δ):=by
 rw[fN,aN (F:=⟨3,3,Uu⟩) rfl rfl];have V:=Tv.start [.int c,.int (k:Int),.int f] 3;obtain⟨v,hv,_⟩:=natOf (i:=(c+(k:Int)*k+1)*f) 2305843009213693951 (by decide);refine⟨v,bM (dO ?_ rfl)⟩;rw[<-hv];exact uB (T:=T n) (by decide) (Di (.inr hf) (AX (AX (V.var rfl) (Di (.inl (oG (by omega))) (V.var rfl) (V.var rfl))) (aC.cst _)) (V.var rfl)) (aC.cst _)
theorem qL:∀{m:List D}{a:Int},(∀d∈m,∃i:Int,d=.int i)->∃s,zM a m=ζ s
 |[],a,_=>⟨a,rfl⟩
 |d::m,a,h=>by
  obtain⟨i,rfl⟩:=h d ah;exact qL (m:=m) (a:=a+i) λd hd=>h d (ae _ hd)
theorem Fi(l:List Int)(hl:l.length<=63):xA (.lst (l.map D.int)) ε (ζ 63)=ζ (.lst (l.map D.int)):=by
 show ζ (D.lst (cut _ ε (ζ ((63:Nat):Int))))=_;rw[xo,cw (by rw[aj];exact hl)]
theorem h43(n:Nat)(ns:List Int)(hl:ns.length<=63){f:Int}(hf:small f=δ):∃v:Nat,(T (n+2)).cl 43 [.lst (ns.map D.int),.int f]=.ok (.int (v:Int),δ):=by
 rw[fN,aN (F:=⟨2,2,Ut⟩) rfl rfl];have V:=Tv.start [.lst (ns.map D.int),.int f] 2;obtain⟨R,hit⟩:=GX (T:=T (n+1)) (aC.Nk (V.var (i:=0) rfl) (aC.cst (.int 63)) (Fi ns hl));obtain⟨m,h1,h2,_,_⟩:=V.vw.IW (T:=T (n+1)) (pick:=[]) (c:=.none) (e:=.bin .Mod HG (HF 1000003)) (λd=>∃i:Int,d=.int i) hit (by rw[aj];omega) λa ha W w=>by
  obtain⟨i,_,rfl⟩:=gt.mp ha;exact⟨δ,by rw[jv],λ_=>⟨_,_,dO (uB (i:=i) (by decide) (w.var rfl) (aC.cst _)) rfl,rfl,_,rfl⟩⟩
 obtain⟨s,hs⟩:=qL (a:=0) h2;obtain⟨v,hv⟩:=Wo n s (k:=ns.length%64) (by omega) hf;exact⟨v,bM (jk (aC.Ij (aC.of h1) (by show(zM 0 m).map D.int=_;rw[hs];rfl)) (iC (b:=64) (by decide) (aC.Ij (V.var rfl) (ua ns)) (aC.cst _)) (V.var rfl) hv)⟩
theorem h44(n v:Nat):∃a,a<5/\(T (n+1)).cl 44 [.int (v:Int)]=.ok (cW a,δ):=by
 rw[fN,aN (F:=⟨1,1,Us⟩) rfl rfl];have V:=Tv.start [.int (v:Int)] 1;have hj:v%16<16:=i5 _ (by decide);refine⟨SZ.getD (v%16) 0,bg (bE szf _ hj),bM (vR (aC.ix (x:=.lst (SZ.map cW)) ⟨.mv [],by rfl⟩ (iC (b:=16) (by decide) (V.var rfl) (aC.cst _)) ?_) rfl)⟩;show(Pc.iZ (SZ.map cW).length ((v%16:Nat):Int)).bind (λj=>(SZ.map cW)[j]?)=_;rw[fK (by exact hj)];show(SZ.map cW)[v%16]? = _;rw[τ,ο,ω (show v%16<SZ.length from hj)];rfl
theorem kl(h1:1<=k)(h3:k<=3):0<(KS k).cps.toList.length/\(KS k).cps.toList.length<100:=by
 have:=bE VU k (by omega);rw[ai]at this;exact bg this.1 (by omega)
theorem BV{c:Nat}(h3:k<=3)(h:jd k c=δ):jd 3 c=δ:=by
 have:=bE VU k (by omega);rw[ai]at this;exact cq.mp this.2 c (jp.mp h)
theorem Wn(n:Nat){k:Nat}(h1:1<=k)(h3:k<=3)(m:Int){c:Nat}(hc:c<=64):∃cs,cs.length=c/\(∀x∈cs,jd k x=δ)/\(T (n+3)).cl 47 [.int (k:Int),.int m,.int (c:Int)]=.ok (.str (tx cs),δ):=by
 rw[fN,aN (F:=⟨3,6,Ur⟩) rfl rfl];have V:=Tv.start [.int (k:Int),.int m,.int (c:Int)] 6;obtain⟨l0,l1⟩:=kl h1 h3;have e1:KS k=tx (KS k).cps.toList:=rfl;refine V.sA (T:=T (n+2)) (Q:=λf=>∃cs,cs.length=c/\(∀x∈cs,jd k x=δ)/\Rd (.str (tx cs)) f) (bZ (V.var rfl) (up (r46 h1 h3) (n+2))) λe V=>V.sA (d:=.str (tx [])) (by rw[ev];rfl) λe V=>V.sR (V.var rfl) (by omega) (λj us=>∃(m:Int) (w:Bool) (cs:List Nat) (o5:_),cs.length=j/\(∀x∈cs,jd k x=δ)/\us=[no k,ζ (.int m,w),no c,ζ (.str (KS k),δ),ζ (.str (tx cs),δ),o5]) ⟨m,_,[],_,rfl,λ_ h=>(nomatch h),rfl⟩ (λj us e hj ⟨m,w,cs,o5,hl,hk,hu⟩ _=>?_) λe us ⟨m,w,cs,o5,hl,hk,hu⟩ V=>by
  subst hu;exact⟨cs,hl,hk,V.ret rfl⟩
 subst hu;refine⟨rfl,λe V=>V.sA (dO (uB (by decide) (Di (.inr (by decide)) (AX (V.var rfl) (V.var rfl)) (aC.cst _)) (aC.cst _)) rfl) λe V=>?_⟩;generalize(m+(j:Int))*40692%2147483399=m' at V;obtain⟨v,hv,vl⟩:=natOf (i:=m' / 7) (KS k).cps.toList.length l0;have hx:=uB (T:=T (n+2)) (show(0:Int)<((KS k).cps.toList.length:Int) by omega) (aC.bin (op:=.FloorDiv) (V.var (i:=1) rfl) (aC.cst (.int 7)) (z:=.int (m' / 7)) rfl) (aC.Ij (V.var (i:=3) rfl) (by rw[e1];exact pb (by omega)));rw[hv]at hx;exact V.sA (wd (V.var rfl) (aC.ix (V.var rfl) hx (by rw[e1];exact VW (by omega) vl)) (by simp;omega)) λe V=>V.nil ⟨m',_,cs ++ [_],_,by simp[hl],λx hx=>(i9.mp hx).elim (hk x) λz=>by rw[gr.mp z];exact jp.mpr (c7 _),rfl⟩
theorem h48(n:Nat){cells:List Int}(hl:cells.length<=64)(M:Nat):∃cs,Good cs/\cs.length<=M/\(T (n+4)).cl 48 [.lst (cells.map D.int),.int (M:Int)]=.ok (.str (tx cs),δ):=by
 rw[fN,aN (F:=⟨2,6,Uq⟩) rfl rfl];have V:=Tv.start [.lst (cells.map D.int),.int (M:Int)] 6;refine V.sA (T:=T (n+3)) (Q:=λf=>∃cs,Good cs/\cs.length<=M/\Rd (.str (tx cs)) f) (d:=.str (tx [])) (by rw[ev];rfl) λe V=>V.sR (aC.Ij (V.var rfl) (ua cells)) (by omega) (λj us=>∃cs o3 o4 o5,Good cs/\cs.length<=40*j/\us=[ζ (.lst (cells.map D.int),γ),no M,ζ (.str (tx cs),δ),o3,o4,o5]) ⟨[],_,_,_,λ_ h=>(nomatch h),ao _,rfl⟩ (λj us e hj ⟨cs,o3,o4,o5,hG,lc,hu⟩ _=>?_) λe us ⟨cs,o3,o4,o5,hG,lc,hu⟩ V=>by
  subst hu;exact⟨cs.take M,λx hx=>hG x (cv hx),ZK ..,bM (E1 (aC.Nk (V.var rfl) (V.var rfl) (Qb (by omega) M)) rfl)⟩
 subst hu;obtain⟨v,hv⟩:=Wo (n+2) cells[j] (k:=j) (by omega) (f:=1234567890123456789) (by decide);have fin:∀(e:En) (c:Nat),c<=40->Tv e [ζ (.lst (cells.map D.int),γ),no M,ζ (.str (tx cs),δ),no j δ,no v δ,no c δ]->Wp (T (n+3)) (.cons (.asg (.nm 2) (.bin .Add HH (.call 47 (HS (.bin .Add Hv (.bin .Mod HL Hx)) (.bin .Mod (.bin .FloorDiv HL (HF 7560)) HD) HM))) γ) .nil) e (Nx λus=>∃cs o3 o4 o5,Good cs/\cs.length<=40*(j+1)/\us=[ζ (.lst (cells.map D.int),γ),no M,ζ (.str (tx cs),δ),o3,o4,o5]):=λe c hc V=>by
  obtain⟨ys,y1,y2,y3⟩:=Wn n (k:=1+v%3) (by omega) (by omega) (((v / 7560:Nat):Int)%2147483399) (c:=c) (by omega);exact V.sA (wd (V.var rfl) (aC.of (jk (fO (m:=1) (aC.cst _) (iC (b:=3) (by decide) (V.var rfl) (aC.cst _))) (uB (by decide) (jY 7560 (by decide) (by decide) (V.var rfl)) (aC.cst _)) (V.var rfl) y3)) (by omega)) λe V=>V.nil ⟨cs++ys,_,_,_,λx hx=>(i9.mp hx).elim (hG x) λh=>BV (by omega) (y2 x h),by rw[aw];omega,rfl⟩
 exact⟨rfl,λe V=>V.sA (jk (aC.ix (V.var rfl) (V.var rfl) (Gb hj)) (V.var rfl) (aC.cst _) hv) λe V=>V.sA (d:=.int ((1+v / 3%9:Nat):Int)) (dO (fO (m:=1) (aC.cst _) (iC (b:=9) (by decide) (jY 3 (by decide) (by decide) (V.var rfl)) (aC.cst _))) rfl) λe V=>Wp.ite (k:=((v / 27%7:Nat):Int)==1) (aC.cmp (iC (b:=7) (by decide) (jY 27 (by decide) (by decide) (V.var rfl)) (aC.cst _)) (aC.cst _) rfl) (λ_=>V.sA (d:=.int ((1+v / 189%40:Nat):Int)) (dO (fO (m:=1) (aC.cst _) (iC (b:=40) (by decide) (jY 189 (by decide) (by decide) (V.var rfl)) (aC.cst _))) rfl) λe V=>Wp.K3 (fin e _ (by omega) V)) λ_=>fin e _ (by omega) V⟩
end K40
end
section
namespace Pc.Vw
open PySem Pc Pc.Sm Pc.Gr Pc.Lw Fl64
variable {c:Ex}{d:D}
section
variable {T:Tb}{env:En}{vs:Vs}{Q:Fl->Prop}{r p q:bV}{e:Ex}{i j k:Nat}
theorem Wp.QO{k:Bool}(hc:aC T c env (.bl k))(h:k=δ->Wp T p env λf=>∃e,f=.nx e/\Wp T r e Q)(h':k=γ->Wp T q env λf=>∃e,f=.nx e/\Wp T r e Q):Wp T (.cons (.ite c p q) r) env Q:=by
 cases k with
 |true=>obtain⟨e,q,x⟩:=h rfl;exact .st (by rw[pQ hc];exact q) x
 |false=>obtain⟨e,q,x⟩:=h' rfl;exact .st (by rw[pQ hc];exact q) x
theorem Wp.QM{k:Bool}(hc:aC T c env (.bl k))(h:k=δ->Wp T p env (λf=>f=.rt d δ))(h':k=γ->Wp T r env (Rd d)):Wp T (.cons (.ite c p .nil) r) env (Rd d):=by
 cases k with
 |true=>
  have h:aP T p env=.rt d δ:=h rfl;show Pc.ret (aP T _ env)=_;rw[aP,pQ hc,if_pos rfl,h];rfl
 |false=>exact .st (by rw[pQ hc];exact(by rw[aP]:aP T .nil env=.nx env)) (h' rfl)
theorem D4(h:ev T e env=.ok (d,.mv [])):Wp T (.cons (.ret e) .nil) env (λf=>f=.rt d δ):=by
 show aP T _ env=_;rw[aP,cP,h,bD];rfl
theorem Tv.sT3(V:Tv env vs){x y z:D}(he:ev T e env=.ok (.tup [x,y,z],.mv []))(c:∀e',Tv e' (((vs.set i (ζ (x,δ))).set j (ζ (y,δ))).set k (ζ (z,δ)))->Wp T r e' Q)(hi:i<vs.length:=by exact ay rfl)(hj:j<vs.length:=by exact ay rfl)(hk:k<vs.length:=by exact ay rfl):Wp T (.cons (.asg (.tp [i,j,k]) e γ) r) env Q:=by
 have s:=λ{env:En}{vs:Vs}(V:Tv env vs) (i:Nat) (d:D) (hi:i<vs.length)=>(⟨by rw[V.len];exact hi,by rw[dD V.tm];exact V.set i _ .own δ (aQ _) λ_=>rfl⟩:i<env.length/\Tv (put env i d .own) (vs.set i (ζ (d,δ))))
 obtain⟨a1,V1⟩:=s V i x hi;obtain⟨a2,V2⟩:=s V1 j y (by rw[ba];exact hj);obtain⟨a3,V3⟩:=s V2 k z (by rw[ba,ba];exact hk);refine .st ?_ (c _ V3);rw[cP,he,bD];show xr (bindM (λ_=>.own) [i,j,k] [x,y,z] env)=_;rw[bindM,if_pos a1,bindM,if_pos a2,bindM,if_pos a3,bindM];rfl
theorem Tv.OG(V:Tv env vs)(d:D)(hi:i<vs.length:=by exact ay rfl):∃e,bP [] (.nm i) d env=ζ e/\Tv e (vs.set i (ζ (d,γ))):=
 ⟨_,xf V.tm (by rw[V.len];exact hi),V.set i _ _ γ (by unfold bQ;split;exact aQ _;exact t9 _) λh=>by cases h⟩
end
end Pc.Vw
namespace K40
open PySem Pc Pc.Sm Pc.Gr Pc.Lw Pc.Vw Fl64
variable {a b:Nat}{t:List Nat}
theorem wb(ha:a<5)(hb:b<4)(hG:Good t)(hl:t.length<=MO a b γ):Fits t a b:=by
 obtain⟨m1,m2,m3,m4⟩:=mo ha hb;refine⟨hG,by omega,λB hB=>?_⟩;have:=qc hB hG t.length 0 (by omega);have:8*((t.length+63) / 64)<=8*((MO a b γ+63) / 64):=g8 _ (XW (by omega));omega
theorem xJ(ha:a<5)(hb:b<4)(hG:∀x∈t,jd 1 x=δ)(hl:t.length<=MO a b δ):Fits t a b:=by
 obtain⟨m1,m2,m3,m4⟩:=mo ha hb;refine⟨λx hx=>BV (by decide) (hG x hx),by omega,λB hB=>?_⟩;have:=wI hB hG t.length 0 (by omega);have:8*((t.length+62) / 63)<=8*((MO a b δ+62) / 63):=g8 _ (XW (by omega));have:10*((t.length+2) / 3)<=10*((MO a b δ+2) / 3):=g8 _ (XW (by omega));omega
theorem CA:∀L:List (List Nat),YV (tx []) (L.map tx)=tx L.flatten
 |[]=>rfl
 |[x]=>by show tx x=tx (x ++ []);rw[bh]
 |x::y::L=>by
  show tx x++tx []++YV (tx []) ((y::L).map tx)=_;rw[CA (y::L)];show(⟨x.toArray ++ #[]++((y::L).flatten).toArray⟩:Str)=⟨(x++(y::L).flatten).toArray⟩;simp
theorem Cj:∀L:List (List Nat),qG (L.map λc=>D.str (tx c))=ζ (L.map tx)
 |[]=>rfl
 |x::L=>by show(qG (L.map λc=>D.str (tx c))).map _=_;rw[Cj L];rfl
theorem tw{P:List Nat->Prop}:∀{m:List D},(∀d∈m,∃cs,d=.str (tx cs)/\P cs)->∃L:List (List Nat),m=L.map (λc=>D.str (tx c))/\∀c∈L,P c
 |[],_=>⟨[],rfl,λ_ h=>(nomatch h)⟩
 |d::m,h=>by
  obtain⟨cs,rfl,hc⟩:=h d ah;obtain⟨L,rfl,hL⟩:=tw λd hd=>h d (ae _ hd)
  exact⟨cs::L,rfl,λc J8=>(c9.mp J8).elim (λe=>e ▸ hc) (hL c)⟩
theorem h50(n:Nat){ns:List Int}(hl:ns.length<=63)(v:Nat)(ha:a<5):∃t b m,b<4/\m<8/\Fits t a b/\(T (n+5)).cl 50 [.lst (ns.map D.int),.int (v:Int),cW a]=.ok (.tup [.str (tx t),.int ((b:Nat):Int),.int ((m:Nat):Int)],δ):=by
 rw[fN,aN (F:=⟨3,8,Up⟩) rfl rfl];have V:=Tv.start [.lst (ns.map D.int),.int (v:Int),cW a] 8;have hb:v / 16%4<4:=i5 _ (by decide);obtain⟨m1,m2,m3,m4⟩:=mo ha hb;have cells:∀{e:En}{us:Vs},Tv e us->us[0]? = ζ (ζ (.lst (ns.map D.int),γ))->(∃w,us[1]? = ζ (no v w))->ev (T (n+4)) (.bin .Add (.sl HG .none (.some HB)) (.lst (HQ HJ))) e=.ok (.lst ((ns ++ [(v:Int)]).map D.int),.mv []):=λ{e us} V h0 ⟨w,h1⟩=>by
  rw[dq];exact AV (aC.Nk (V.var h0) (aC.cst _) (Fi ns hl)) (aC.Kw (V.var h1)) (by simp;omega) λd hd=>by
   rcases i9.mp hd with h|h
   .obtain⟨i,_,rfl⟩:=gt.mp h;rfl
   .rw[gr.mp h];rfl
 have fin:∀(t:List Nat) (e:En) (o5 o6:_),Fits t a (v / 16%4)->Tv e [ζ (.lst (ns.map D.int),γ),no v,ζ (cW a,γ),no (v / 16%4) δ,no (RM a (v / 16%4)) δ,o5,o6,ζ (.str (tx t),δ)]->∃t b m,b<4/\m<8/\Fits t a b/\Pc.ret (aP (T (n+4)) (.cons (.ret (.tup (HS HK HI (.bin .Mod (.bin .FloorDiv HJ (HF 4096)) HE)))) .nil) e)=.ok (.tup [.str (tx t),.int ((b:Nat):Int),.int ((m:Nat):Int)],δ):=λt e o5 o6 F V=>
  ⟨t,v / 16%4,v / 4096%8,hb,i5 _ (by decide),F,bM (zu (eZ (V.var rfl) rfl) (eZ (V.var rfl) rfl) (dO (iC (b:=8) (by decide) (jY 4096 (by decide) (by decide) (V.var rfl)) (aC.cst _)) rfl))⟩
 refine V.sA (T:=T (n+4)) (Q:=λf=>∃t b m,b<4/\m<8/\Fits t a b/\Rd (.tup [.str (tx t),.int ((b:Nat):Int),.int ((m:Nat):Int)]) f) (dO (iC (b:=4) (by decide) (jY 16 (by decide) (by decide) (V.var rfl)) (aC.cst _)) rfl) λe V=>V.sA (bR (V.var rfl) (V.var rfl) (up (r1 ha hb) (n+4))) λe V=>Wp.QO (k:=((v / 64%4:Nat):Int)==1) (aC.cmp (iC (b:=4) (by decide) (jY 64 (by decide) (by decide) (V.var rfl)) (aC.cst _)) (aC.cst _) rfl) (λ_=>V.sA (bR (V.var rfl) (aC.cst _) (up (VA ha hb δ) (n+4))) λe V=>V.sA (cells V rfl ⟨_,rfl⟩) λe V=>?_) λ_=>V.sA (bR (V.var rfl) (aC.cst _) (up (VA ha hb γ) (n+4))) λe V=>?_
 .have cl:(ns ++ [(v:Int)]).length<=64:=by simp;omega
  obtain⟨m,h1,h2,Jc,_⟩:=V.vw.IW (T:=T (n+4)) (pick:=[6]) (c:=.none) (it:=.Iq (HV HN)) (e:=.call 47 (HS Hv (.bin .Add (.bin .Mod (.ix HJ HG) HD) HG) HE)) (λd=>∃cs,d=.str (tx cs)/\cs.length=8/\∀x∈cs,jd 1 x=δ) (BO (aC.Ij (V.var rfl) (ua (ns ++ [(v:Int)]))) (by omega)) (by rw[aj,fv];omega) λx hx W w=>by
   obtain⟨j,hj,rfl⟩:=gt.mp hx;have hj:=Tk.mp hj;obtain⟨cs,c1,c2,c3⟩:=Wn (n+1) (k:=1) (by decide) (by decide) ((ns ++ [(v:Int)])[j]%2147483399+(j:Int)) (c:=8) (by decide);exact⟨δ,by rw[jv],λ_=>⟨_,_,jk (aC.cst _) (AX (uB (by decide) (aC.ix (w.var rfl) (w.var rfl) (Gb hj)) (aC.cst _)) (w.var rfl)) (aC.cst _) c3,rfl,cs,rfl,c1,c2⟩⟩
  obtain⟨L,rfl,hL⟩:=tw h2;rw[aj,aj,fv]at Jc;have fl:∀L:List (List Nat),(∀c∈L,c.length=8/\∀x∈c,jd 1 x=δ)->L.flatten.length=8*L.length/\((L.map tx).map (·.length)).sum=8*L.length/\∀x∈L.flatten,jd 1 x=δ:=λL=>by
   induction L with
   |nil=>exactλ_=>⟨rfl,rfl,λ_ h=>(nomatch h)⟩
   |cons c L ih=>
    intro h;obtain⟨i1,i2,i3⟩:=ih λc hc=>h c (ae _ hc)
    obtain⟨j1,j2⟩:=h c ah;refine⟨by rw[cg,aw,av];omega,by rw[a9,a9,X2,av,jj];omega,λx hx=>?_⟩;rw[cg]at hx;exact(i9.mp hx).elim (j2 x) (i3 x)
  obtain⟨i1,i2,i3⟩:=fl L hL;have hj:oU .JM (.str ("" : ul)) [.lst (L.map λc=>D.str (tx c))]=ζ (.str (tx L.flatten)):=by
   show(qG (L.map λc=>D.str (tx c))).bind (λys=>if(ys.map (·.length)).sum+ys.length*(tx []).length<=lim then ζ (D.str (YV (tx []) ys))else ε)=_;rw[Cj,ZV,CA,if_pos];rw[i2,jj,du,ġ];exact a8 (show 8*L.length+0<=1000 by omega) (by decide)
  refine V.sA (E1 (aC.Nk (aC.of (E9 (aC.cst _) (aC.of h1) hj rfl)) (V.var rfl) (Qb (by omega) (MO a (v / 16%4) δ))) rfl) λe V=>⟨e,by rw[aP],fin _ e _ _ (xJ ha hb (λx hx=>i3 x (cv hx)) (ZK ..)) V⟩
 .have e1:∀M:Nat,∃M',M'<=M/\((M:Nat):Int)-((v / 256%(1+M / 2):Nat):Int)=(M':Int):=λM=>⟨M-v / 256%(1+M / 2),by omega,by have:=i5 (v / 256) (show 0<1+M / 2 by omega);omega⟩
  obtain⟨M',l1,l2⟩:=e1 (MO a (v / 16%4) γ);obtain⟨cs,c1,c2,c3⟩:=h48 n (cells:=ns ++ [(v:Int)]) (by simp;omega) M';exact V.sA (bR (aC.of (cells V rfl ⟨_,rfl⟩)) (aC.bin (V.var rfl) (iC (b:=1+MO a (v / 16%4) γ / 2) (by omega) (jY 256 (by decide) (by decide) (V.var rfl)) (fO (m:=1) (aC.cst _) (jY 2 (by decide) (by decide) (V.var rfl)))) (z:=.int (M':Int)) (by rw[<-l2];rfl)) c3) λe V=>⟨e,by rw[aP],fin _ e _ _ (wb ha hb c1 (by omega)) V⟩
end K40
end
section
namespace K40
open PySem Pc Pc.Sm Pc.Gr Pc.Lw Pc.Vw Fl64
theorem all_true:∀{m:List D},(∀d∈m,d=.bl δ)->eA .all [.lst m]=ζ (.bl δ)
 |m,h=>by
  have h1:m.all D.JR=δ:=cq.mpr λd hd=>by rw[h d hd];rfl
  have h2:∀{m:List D},(∀d∈m,d=.bl δ)->allB m=ζ δ:=λ{m}=>by
   induction m with
   |nil=>exactλ_=>rfl
   |cons d m ih=>intro h;rw[h d ah];exact ih λd hd=>h d (ae _ hd)
  show(if m.all D.JR then(allB m).map D.bl else ε)=_;rw[if_pos h1,h2 h];rfl
theorem Ck(a:Nat):((15+4*a:Nat):Int)=15+4*(a:Int):=by omega
variable {a:Nat}{q:List D}
theorem h54(n:Nat)(ha:a<5)(hq:Sq (sz a) q):(T (n+2)).cl 54 [.lst q,cW a]=.ok (.bl δ,δ):=by
 rw[fN,aN (F:=⟨2,3,Um⟩) rfl rfl];have V:=Tv.start [.lst q,cW a] 3;have c0:aC (T (n+1)) (.or (.not (.blt (.Lq "list") (HQ HG))) (.cmp .NotEq (HV HG) HJ)) (aJ [.lst q,cW a] 3) (.bl γ):=aC.or (k:=γ) (aC.not (k:=δ) (aC.Ij (V.var rfl) rfl)) (λ_=>aC.cmp (x:=.int (q.length:Int)) (aC.Ij (V.var rfl) rfl) (V.var rfl) (by
  show ζ (!((q.length:Int)==15+4*(a:Int)))=_;rw[hq.len,<-Ck a];simp)) (λh=>by cases h)
 refine Wp.ite (T:=T (n+1)) (Q:=Rd _) c0 (λh=>by cases h) λ_=>wU (l:=q) rfl V (λus=>∃o2,us=[ζ (.lst q,γ),ζ (cW a,γ),o2]) ⟨_,rfl⟩ (λr hr us e ⟨o2,hu⟩ V=>?_) λe us ⟨o2,hu⟩ V=>bM (by rw[ev])
 subst hu;obtain⟨l,rfl,ll⟩:=hq.row r hr;obtain⟨e1,z,V⟩:=V.OG (i:=2) (.lst (l.map D.int));obtain⟨R,hit⟩:=GX (T:=T (n+1)) (V.var (i:=2) rfl);obtain⟨m,h1,h2,_,_⟩:=V.vw.IW (T:=T (n+1)) (pick:=[]) (c:=.none) (e:=.call 51 (HQ HG)) (λd=>d=.bl δ) hit (by rw[aj,ll];show 15+4*a<=10000;omega) λx hx W w=>by
  obtain⟨i,_,rfl⟩:=gt.mp hx;have c51:(T (n+1)).cl 51 [.int i]=.ok (.bl δ,δ):=up (k:=1) (λn=>by kernel_rfl) (n+1);exact⟨δ,by rw[jv],λ_=>⟨_,_,bZ (w.var rfl) c51,rfl,rfl⟩⟩
 refine⟨e1,z,Wp.ite (k:=γ) (aC.or (k:=γ) (aC.not (k:=δ) (aC.Ij (V.var rfl) rfl)) (λ_=>aC.or (k:=γ) (aC.cmp (aC.Ij (V.var rfl) (ua l)) (V.var rfl) (by
  show ζ (!((l.length:Int)==15+4*(a:Int)))=_;rw[ll,<-Ck a];simp)) (λ_=>aC.not (k:=δ) (aC.Ij (aC.of h1) (all_true h2))) (λh=>by cases h)) (λh=>by cases h)) (λh=>by cases h) λ_=>V.nil ⟨_,rfl⟩⟩
theorem o8{f:D->D->Option Bool}:∀{l:List D},(∀d∈l,f d d=ζ δ)->vH f l l=ζ δ
 |[],_=>rfl
 |d::l,h=>by rw[vH,h d ah,o8 λd hd=>h d (ae _ hd)];rfl
variable {n:Nat}
theorem Cz(hq:Sq n q):qa .NotEq (.lst q) (.lst q)=ζ γ:=by
 have:D.JH 40 (.lst q) (.lst q)=ζ δ:=by
  show(if q.length=q.length then vH (D.JH 39) q q else ζ γ)=_;rw[if_pos rfl];refine o8 λr hr=>?_
  obtain⟨l,rfl,_⟩:=hq.row r hr;show(if(l.map D.int).length=(l.map D.int).length then vH (D.JH 38) (l.map D.int) (l.map D.int)else ζ γ)=_;rw[if_pos rfl];refine o8 λd hd=>?_
  obtain⟨i,_,rfl⟩:=gt.mp hd;show ζ (i==i)=_;rw[iw]
 show(D.JH 40 (.lst q) (.lst q)).map (!·)=_;rw[this];rfl
variable {b m:Nat}{t:List Nat}
theorem RV(n:Nat){d:D}(ha:a<5)(hb:b<4)(h:(∃k:Nat,d=.int (k:Int)/\PD t k)\/d=.Ii/\t=π (1+6*RM a b / 7) 126):(T (n+6)).cl 53 [.str (tx t),cW a,.int (b:Int),.int (m:Int),d]=.ok (.bl δ,δ):=by
 rw[fN,aN (F:=⟨5,6,E4⟩) rfl rfl];have V:=Tv.start [.str (tx t),cW a,.int (b:Int),.int (m:Int),d] 6;obtain⟨B,gs,_,_,_,Na⟩:=RX n (t:=[48]) (by decide) (λc hc=>by rw[gr.mp hc];decide);refine Wp.st (T:=T (n+5)) (Q:=Rd _) (by rw[cP,z6,bZ (aC.cst (.str ("0" : ul))) Na,bD]) (bM ?_);obtain⟨R0,v0⟩:=V.var (T:=T (n+5)) (i:=0) rfl;obtain⟨R1,v1⟩:=V.var (T:=T (n+5)) (i:=1) rfl;obtain⟨R2,v2⟩:=V.var (T:=T (n+5)) (i:=2) rfl;obtain⟨R3,v3⟩:=V.var (T:=T (n+5)) (i:=3) rfl;obtain⟨R4,v4⟩:=V.var (T:=T (n+5)) (i:=4) rfl;rw[ev,aT,v0,aA,aT,v1,aA,aT,v2,aA,aT,v3,aA,aT,v4,aA,aT,aA,aA,aA,aA,aA,aA];show(ku (xC [.str (tx t),cW a,.int (b:Int),.int (m:Int),d])).bind _=_;rw[xC,if_pos ⟨t,a,b,m,d,ha,hb,rfl,h⟩];rfl
theorem Qn(k:Nat):qu (tx [126]) k=tx (π k 126):=by
 have:∀(k:Nat) (x:List Nat),((π k (#[126]:Array Nat)).foldl (λx y=>x++y) x.toArray)=(x++π k 126).toArray:=λk=>by
  induction k with
  |zero=>intro x;simp
  |succ k ih=>
   intro x;rw[bq,Yw,show x.toArray ++ #[126]=(x ++ [126]).toArray by simp,ih];rw[bq,gy];rfl
 show(⟨(π k (#[126]:Array Nat)).foldl (λx y=>x++y) ([]:List Nat).toArray⟩:Str)=_;rw[this,Yx];rfl
variable {e:Ex}{env:En}
theorem xp{T:Tb}{k:Nat}(h:aC T e env (.int (k:Int)))(h1:1<k)(h2:k<=1000):ev T (.bin .Mult (.cst (.str ("~" : ul))) e) env=.ok (.str (tx (π k 126)),.mv []):=dO (aC.bin (aC.cst _) h (by
 show(if 1<(k:Int)/\(k:Int)<=1000/\0<(tx [126]).length/\(tx [126]).length<=1000 then ζ (D.str (qu (tx [126]) (k:Int).toNat))else ε)=_;rw[if_pos ⟨by omega,by omega,by decide,by decide⟩,cu,Qn])) rfl
theorem slF{cs:List Nat}(hl:cs.length<=1000)(n:Nat):xA (.str (tx cs)) (ζ (n:Int)) ε=ζ (.str (tx (cs.drop n))):=by
 show(if(tx cs).length<=lim then ζ (D.str ⟨(cut cs _ _).toArray⟩)else ε)=_;rw[if_pos (wQ hl),pV];rfl
theorem xc{T:Tb}{a b c d:Ex}{x y z u w r:D}{f:Nat}(h:aC T a env x)(h2:aC T b env y)(h3:aC T c env z)(h4:aC T d env u)(h5:aC T e env w)(q:T.cl f [x,y,z,u,w]=.ok (r,δ)):ev T (.call f (.cons a (.cons b (.cons c (.cons d (.cons e .nil)))))) env=.ok (r,.mv []):=by
 obtain⟨_,h⟩:=h;obtain⟨_,h2⟩:=h2;obtain⟨_,h3⟩:=h3;obtain⟨_,h4⟩:=h4;obtain⟨_,h5⟩:=h5;rw[ev,aT,h,aA,aT,h2,aA,aT,h3,aA,aT,h4,aA,aT,h5,aA,aT,aA,aA,aA,aA,aA,aA];show(T.cl f [x,y,z,u,w]).bind _=_;rw[q,aA];rfl
theorem andM{T:Tb}{a b:Ex}{k:Bool}(h:aC T a env (.bl δ))(h':ev T b env=.ok (.bl k,.mv [])):ev T (.and a b) env=.ok (.bl k,.mv []):=by
 obtain⟨_,h⟩:=h;rw[ev,h,aA];exact h'
theorem QK(ns:List Int)(hl:ns.length<=63):∃fr,Pc.run fns gl 1000 12 55 [.lst (ns.map D.int)]=.ok (.bl δ,fr):=by
 refine⟨δ,?_⟩;obtain⟨v,c43⟩:=h43 9 ns hl (f:=654321987654321987) (by decide);obtain⟨a,ha,c44⟩:=h44 10 v;obtain⟨t,b,m,hb,hm,F,c50⟩:=h50 6 hl v ha;obtain⟨q,W⟩:=written 2 ha hb hm F;obtain⟨g,w,c23,Pu,Pw⟩:=W.due;have S:=sh ha hb;have Fl:=F.l;rw[aN (F:=⟨1,11,Ul⟩) rfl rfl];have V:=Tv.start [.lst (ns.map D.int)] 11;have q0:∃ys,q[0]? = ζ (.lst ys)/\ys.length=sz a:=by
  obtain⟨ys,y1,y2,_⟩:=W.sq.set (r:=0) (c:=0) (by show 0<15+4*a;omega) (by show 0<15+4*a;omega) 0;exact⟨ys,y1,y2⟩
 obtain⟨ys,y1,y2⟩:=q0;have yl:0<ys.length/\ys.length<=1000:=by rw[y2];exact⟨by show 0<15+4*a;omega,by show 15+4*a<=1000;omega⟩
 have ql:q.length<=1000:=by rw[W.sq.len];show 15+4*a<=1000;omega
 refine V.sA (T:=T 11) (Q:=Rd _) (bR (V.var rfl) (aC.cst _) c43) λe V=>V.sA (bZ (V.var rfl) c44) λe V=>V.sT3 (jk (V.var rfl) (V.var rfl) (V.var rfl) c50) λe V=>V.sA (bR (V.var rfl) (V.var rfl) (up (r1 ha hb) 11)) λe V=>V.sA (jM (V.var rfl) (V.var rfl) (V.var rfl) (V.var rfl) W.Nh) λe V=>V.sA (jM (aC.JY (aC.JB (V.var rfl) (V.var rfl) c23) (V.var rfl) (V.var rfl) Pu) (V.var rfl) (V.var rfl) (V.var rfl) Pw) λe V=>Wp.ite (k:=γ) (aC.or (k:=γ) (aC.not (k:=δ) (aC.JB (V.var rfl) (V.var rfl) (h54 9 ha W.sq))) (λ_=>aC.cmp (V.var rfl) (V.var rfl) (Cz W.sq)) (λh=>by cases h)) (λh=>by cases h) λ_=>V.sQ (m:=0) (n:=0) rfl (aC.cst _) y1 (aC.cst _) yl.1 yl.2 (by rw[ev]) λe V=>V.sM rfl mD (by rw[ba];omega) λe V=>?_
 have c20:aC (T 11) (.and (.cmp .Lt HH (HF 20)) (.cmp .NotEq (.call 52 (HU HI HH HL HM)) (.var 8))) e (.bl γ):=by
  refine aC.and (k:=decide (15+4*(a:Int)<20)) (aC.cmp (V.var rfl) (aC.cst _) rfl) (λ_=>aC.cmp (aC.of (jM (V.var rfl) (V.var rfl) (V.var rfl) (V.var rfl) W.Nh)) (V.var rfl) (Cz W.sq)) (λ_=>rfl)
 refine Wp.ite c20 (λh=>by cases h) λ_=>Wp.QM (k:=((v / 32768%5:Nat):Int)==1) (aC.cmp (iC (b:=5) (by decide) (jY 32768 (by decide) (by decide) (V.var rfl)) (aC.cst _)) (aC.cst _) rfl) (λ_=>?_) λ_=>?_
 .have kl:v / 163840%(t.length+1)<=t.length:=by have:=i5 (v / 163840) (show 0<t.length+1 by omega);omega
  refine V.sA (d:=.int ((v / 163840%(t.length+1):Nat):Int)) (dO (iC (by omega) (jY 163840 (by decide) (by decide) (V.var rfl)) (fO (n:=1) (aC.Ij (V.var rfl) (pb (by omega))) (aC.cst _))) rfl) λe V=>?_
  generalize v / 163840%(t.length+1)=k at kl V;have hc:∃c,(c=9\/c=10)/\aC (T 11) (.ix (.lst (HR (.cst (.str ("\n" : ul))) (.cst (.str ("\t" : ul))))) (.bin .Mod (.bin .FloorDiv HJ HA) Hu)) e (.str (tx [c])):=by
   have hm:=iC (T:=T 11) (b:=2) (by decide) (jY 7 (by decide) (by decide) (V.var (i:=1) rfl)) (aC.cst (.int 2));rcases f9 (v / 7)with h|h<;>rw[h]at hm
   .exact⟨10,.inr rfl,aC.ix (aC.Mf (aC.cst _) (aC.cst _)) hm rfl⟩
   .exact⟨9,.inl rfl,aC.ix (aC.Mf (aC.cst _) (aC.cst _)) hm rfl⟩
  obtain⟨c,hc,ec⟩:=hc;have tk:(t.take k).length=k:=by rw[cn];omega
  refine V.sA (d:=.str (tx (t.take k ++ [c]++t.drop k))) (wd (aC.of (wd (aC.Nk (V.var rfl) (V.var rfl) (Qb (by omega) k)) ec (by simp;omega))) (aC.L3 (V.var rfl) (V.var rfl) (slF (by omega) k)) (by simp;omega)) λe V=>D4 (andM (aC.of (xc (V.var rfl) (V.var rfl) (V.var rfl) (V.var rfl) (V.var rfl) (RV 5 ha hb (.inl ⟨k,rfl,t.take k,c,t.drop k,by simp,tk,λx hx=>F.g x (cv hx),hc,by simp;omega⟩)))) (xc (aC.of (wd (V.var rfl) (aC.of (xp (k:=99) (aC.cst _) (by decide) (by decide))) (by simp;omega))) (V.var rfl) (V.var rfl) (V.var rfl) (V.var rfl) (RV 5 ha hb (.inl ⟨k,rfl,t.take k,c,t.drop k++π 99 126,by simp,tk,λx hx=>F.g x (cv hx),hc,by simp;omega⟩))))
 .have s1:=S.rm;have s2:=S.lo;exact bM (xc (aC.of (xp (k:=1+6*RM a b / 7) (fO (m:=1) (aC.cst _) (jY 7 (by decide) (by decide) (aC.bin (aC.cst (.int 6)) (V.var rfl) (z:=.int ((6*RM a b:Nat):Int)) (by show ζ (D.int (6*(RM a b:Int)))=_;rw[Ò];rfl)))) (by omega) (by omega))) (V.var rfl) (V.var rfl) (V.var rfl) (aC.cst _) (RV 5 ha hb (.inr ⟨rfl,rfl⟩)))
noncomputable def z9:Rw:=.QR (.cmp .NotIn HH (.ix (.Ic 18) (.Ic 17))) HJ .nil
noncomputable def rb:Rw:=.QE (.tp [1,2]) (.enum HG) z9 .nil
theorem CK{n c:Nat}(hc:c<128){e:En}(h:aC (T n) HH e (.str (tx [c]))):aC (T n) (.cmp .NotIn HH (.ix (.Ic 18) (.Ic 17))) e (.bl (!jd 3 c)):=aC.cmp h (aC.ix (aC.Ic 18) (aC.Ic 17) rfl) (by
 show(ζ (GJ (tx [c]) (KS 3))).map (λb=>!b)=_;rw[om _ hc 3 (by decide)];rfl)
noncomputable def To(l:List Nat)(i:Nat):List D:=((l.map λc=>D.str (tx [c])).zipIdx i).map λ(q:D×Nat)=>D.tup [.int q.2,q.1]
theorem tR{n c:Nat}{t v:List Nat}(hc:c=9\/c=10):∀(u:List Nat) (i:Nat) (env:En) (o1 o2:Option (D×Bool)),(∀x∈u,jd 3 x=δ)->i+u.length<400->Tv env [ζ (.str (tx t),γ),o1,o2]->ph (.tp [1,2]) [] (jA (T n) z9) (To (u++c::v) i) env=.rs (i+u.length)
 |[],i,env,o1,o2,_,hi,V=>by
  obtain⟨e1,z,V⟩:=V.JZ (i:=1) (j:=2) [] (x:=.int (i:Int)) (y:=.str (tx [c])) rfl rfl;have h:jd 3 c=γ:=by rcases hc with rfl|rfl<;>decide
  obtain⟨R,q⟩:=CK (n:=n) (c:=c) (by omega) (V.var rfl);obtain⟨R',q'⟩:=V.var (T:=T n) (i:=1) rfl;rw[h]at q;show(match bP [] (.tp [1,2]) (.tup [.int (i:Int),.str (tx [c])]) env with|none=>Rf.fl .bad|some Ia=>match jA (T n) z9 Ia with|.fl (.nx e)=>_|x=>x)=_;rw[z];dsimp only;have:jA (T n) z9 e1=.rs i:=by
   unfold z9;rw[jA,q];show Qj (ev (T n) HJ e1)=_;rw[q'];show(match(if i<2 ^ 64 then ζ i else ε)with|some n=>Rf.rs n|none=>.fl .bad)=_;rw[if_pos (by simp at hi;omega)]
  rw[this];rfl
 |x::u,i,env,o1,o2,hu,hi,V=>by
  obtain⟨e1,z,V⟩:=V.JZ (i:=1) (j:=2) [] (x:=.int (i:Int)) (y:=.str (tx [x])) rfl rfl;have h:=hu x ah;obtain⟨R,q⟩:=CK (n:=n) (low h) (V.var rfl);rw[h]at q;have ih:=tR (n:=n) (t:=t) (v:=v) hc u (i+1) e1 _ _ (λy hy=>hu y (ae _ hy)) (by simp at hi;omega) V;show(match bP [] (.tp [1,2]) (.tup [.int (i:Int),.str (tx [x])]) env with|none=>Rf.fl .bad|some Ia=>match jA (T n) z9 Ia with|.fl (.nx e)=>ph (.tp [1,2]) [] (jA (T n) z9) (To (u++c::v) (i+1)) e|x=>x)=_;rw[z];dsimp only;have:jA (T n) z9 e1=.fl (.nx e1):=by
   unfold z9;rw[jA,q];show jA (T n) .nil e1=_;rw[jA]
  rw[this];dsimp only;rw[ih,av];congr 1;omega
theorem Ha{k:Nat}(h:PD t k):Eu (jA (T n) rb (aJ [.str (tx t)] 3))=ζ (.inr k):=by
 obtain⟨u,c,v,rfl,hk,hu,hc,hl⟩:=h;have V:=Tv.start [.str (tx (u++c::v))] 3;unfold rb;rw[jA,show cU (T n) (.enum HG) (aJ [.str (tx (u++c::v))] 3)=.ok (To (u++c::v) 0,[]) by rw[cU,eZ (V.var rfl) rfl,aA];rfl];dsimp only;rw[bN,tR hc u 0 _ ε ε hu (by simp at hl;omega) V,fg,hk];rfl
noncomputable def Wy:Ex:=.cmp .Gt (HV HG) HJ
noncomputable def Ug:jR:=.cons HG (HQ (.call 1 (HR HJ HH)))
noncomputable def Uh:jR:=.cons (.call 24 (HQ HG)) (HR HJ HH)
def gF(ds:List D):Prop:=∃r,ev (T 0) Wy (aJ ds 3)=.ok r/\truth r.1=ζ δ
def gW(n:Nat)(ds:List D):Prop:=∃l,aT (T n) Ug (aJ ds 3)=.ok l/\(l.map (·.1)).length=2/\gF (l.map (·.1))
def gA(n:Nat)(ds:List D):Prop:=∃l,aT (T n) Uh (aJ ds 4)=.ok l/\(l.map (·.1)).length=3/\gW n (l.map (·.1))
theorem long(n:Nat)(ha:a<5)(hb:b<4):gA (n+5) [.str (tx (π (1+6*RM a b / 7) 126)),cW a,.int (b:Int),.int (m:Int)]:=by
 have S:=sh ha hb;have s1:=S.rm;obtain⟨B,gs,hB,_,g2,Na⟩:=RX n (t:=π (1+6*RM a b / 7) 126) (by simp;omega) (λc hc=>by rw[(Xs.mp hc).2];decide);have lb:=xN hB (λx hx=>(Xs.mp hx).2) (1+6*RM a b / 7) 0 (by simp);have V:=Tv.start [.str (tx (π (1+6*RM a b / 7) 126)),cW a,.int (b:Int),.int (m:Int)] 4;obtain⟨R1,v1⟩:=V.var (T:=T (n+5)) (i:=1) rfl;obtain⟨R2,v2⟩:=V.var (T:=T (n+5)) (i:=2) rfl;refine⟨_,by rw[Uh,aT,bZ (V.var rfl) Na,aA,aT,v1,aA,aT,v2,aA,aT,aA,aA,aA],rfl,?_⟩;show gW (n+5) [.lst (gD gs),cW a,.int (b:Int)];have V:=Tv.start [.lst (gD gs),cW a,.int (b:Int)] 3;obtain⟨R0,v0⟩:=V.var (T:=T (n+5)) (i:=0) rfl;refine⟨_,by rw[Ug,aT,v0,aA,aT,bR (V.var rfl) (V.var rfl) (up (r1 ha hb) (n+5)),aA,aT,aA,aA],rfl,?_⟩;show gF [.lst (gD gs),.int (RM a b:Nat)];have V:=Tv.start [.lst (gD gs),.int (RM a b:Nat)] 3;obtain⟨R,h⟩:=aC.cmp (T:=T 0) (op:=.Gt) (k:=δ) (aC.Ij (V.var (i:=0) rfl) (hJ gs)) (V.var (i:=1) rfl) (by show ζ (decide (((RM a b:Nat):Int)<gs.length))=_;rw[bt (by omega)]);exact⟨_,h,rfl⟩
theorem Fm:∀n,n<5->Pc.run fns gl 1000 n 24 [.str ("0" : ul)]=.bad:=λn h=>by
 rcases n5 h with rfl|rfl|rfl|rfl|rfl<;>kernel_rfl
theorem asked{n:Nat}{ds:List D}{r:D×Bool}(h:Pc.run fns gl 1000 (n+1) 53 ds=.ok r)(hl:ds.length=5):5<=n/\r.1=.bl δ/\∃(t:List Nat) (a b m:Nat) (d:D),a<5/\b<4/\ds=[.str (tx t),.int (15+4*(a:Int)),.int (b:Int),.int (m:Int),d]/\((∃k:Nat,d=.int (k:Int)/\PD t k)\/d=.Ii/\t=π (1+6*RM a b / 7) 126):=by
 rw[aN (F:=⟨5,6,E4⟩) rfl hl]at h;have h:Pc.ret (aP (T n) E4 (aJ ds 6))=.ok r:=h;rw[E4,aP,cP]at h;cases hq:ev (T n) z6 (aJ ds 6)with
 |bad=>rw[hq]at h;cases h
 |ok q=>
  rw[hq,bD,tF]at h;refine⟨š λz=>?_,?_⟩
  .rw[z6,ev,aT,ev,aA,aT,aA,aA]at hq;have hq:((T n).cl 24 [.str ("0" : ul)]).bind _=.ok q:=hq;rw[fN,Fm n (by omega)]at hq;cases hq
  .obtain⟨d0,d1,d2,d3,d4,rfl⟩:∃a b c d e,ds=[a,b,c,d,e]:=by
    match ds,hl with
    |[a,b,c,d,e],_=>exact⟨a,b,c,d,e,rfl⟩
   have V:=Tv.start [d0,d1,d2,d3,d4] 6;obtain⟨R0,v0⟩:=V.var (T:=T n) (i:=0) rfl;obtain⟨R1,v1⟩:=V.var (T:=T n) (i:=1) rfl;obtain⟨R2,v2⟩:=V.var (T:=T n) (i:=2) rfl;obtain⟨R3,v3⟩:=V.var (T:=T n) (i:=3) rfl;obtain⟨R4,v4⟩:=V.var (T:=T n) (i:=4) rfl;rw[aP,cP,ev,aT,v0,aA,aT,v1,aA,aT,v2,aA,aT,v3,aA,aT,v4,aA,aT,aA,aA,aA,aA,aA,aA]at h;have e:(List.map (λx:D×Rt=>x.1) [(d0,R0),(d1,R1),(d2,R2),(d3,R3),(d4,R4)])=[d0,d1,d2,d3,d4]:=rfl;rw[e]at h;cases hr:xC [d0,d1,d2,d3,d4]with
   |none=>rw[hr]at h;cases h
   |some y=>
    rw[hr]at h;unfold xC at hr;split at hr
    .rename_i c;cases hr;cases h;exact⟨rfl,c⟩
    .cases hr
end K40
end
section
namespace K40
open PySem PySem.Spec PyProof.Rows L2 Pc
variable {vs:List V}
section
variable {P:Ε}{w:Ξ}{K:Frag}{mg:Str->Option η}{base:Υ}{n:Nat}{f f' g g' cS cM cT fI:ι}{fd Ju LW:sK}{stI:xL}{JL:Sp}
structure A1(K:Frag)(mg:Str->Option η)(cS cM cT fI:ι)(LW:sK)(stI:xL):Prop where
 k:A4 K mg "SquareError" "place" "NoSign.__init__" cM cS fI LW stI
 m:mg "NoSign" = ζ (.ref cM)
 mB:r9 K cM=δ
 sB:r9 K cS=δ
 sQ:oK K cS=δ
 sm:dY K cM cS=δ
 mm:dY K cM cM=δ
 mt:dY K cM cT=γ
 t:mg "TooLong" = ζ (.ref cT)
 tQ:oK K cT=δ
 tD:qT K cT=δ
 st:dY K cT cS=δ
 tt:dY K cT cT=δ
 tm:dY K cT cM=γ
theorem rA{C:ι}(q:r9 K C=δ):qT K C=δ:=by
 unfold r9 at q;rw[ai]at q;exact q.1
theorem Fy{p:Pg}:j5 p P w K mg base 0:=by
 intro i d hd f fd F;refine⟨λvs H Q E h=>kx h,λA outer s H args us vs Q E hr he hb hv hs=>?_⟩;obtain⟨ds,G,_,_,r,h,_⟩:=hs;cases h
def B0(k:Nat)(JL:Sp):Sp:=λvs H Q E=>∃v vr,vs=v::vr/\vr.length=k/\∀H',aG H H'->JL [v] H' (λ_ _=>False) (λC o H'=>∃n,o=ζ n/\E C (ζ n) H')
theorem jE{k:Nat}{H:Hp}{Q:VK}{E:XK}(h:B0 k JL vs H Q E):vs.length=k+1:=by
 obtain⟨v,vr,rfl,h,_⟩:=h;rw[av,h]
theorem twice(E:XK):(λ(C:η) (o:Option Nat) (H':Hp)=>∃n,o=ζ n/\(λ(C:η) (o:Option Nat) (H':Hp)=>∃n,o=ζ n/\E C (ζ n) H') C (ζ n) H')=λC o H'=>∃n,o=ζ n/\E C (ζ n) H':=by
 funext C o H';refine propext ⟨λ⟨n,e,m,e2,h⟩=>?_,λ⟨n,e,h⟩=>⟨n,e,n,rfl,h⟩⟩;cases e2;exact⟨n,e,h⟩
theorem zj(F:L2.lY K "cut_text" "cut_text" (st 54) f fd) (S:aW rP.N rP.ps (aB (st 54)))
  (FR:bX P w K mg base (ko "place" P w) (nY 0) f' Ju ["text"] JL) (kp:Ο K (.ref f')=δ) (B':Binds K Ju ["text"] []) (Kf:mg "refuse_strange_signs" = ζ (.ref f')):bX P w K mg base (ko "place" P w) (RJ 0 (n+1)) f fd ["text"] (B0 0 JL):=
 Ed (N:=rP.N) (y:="refuse_strange_signs") (t:=uu (qy 0) AO) F S (λA r=>r.lim) rfl FR (λA env r=>r.low env) kp B' Kf rfl (by decide) (λcdv A outer s H E=>aI (pv 0) bS) (λ_ _ _ _ _ _=>rfl) (λ_ _ _ _ _ _=>rfl) _ (λvs H Q E h=>jE h)
  (λvs H Q E ⟨v,vr,e,hl,h⟩=>by
   subst e;obtain rfl:=XA.mp hl;exact⟨v,rfl,h H (aG.refl _)⟩)
theorem vB(F:L2.lY K "bare_grains" "bare_grains" (st 62) f fd) (S:aW uJ.N uJ.ps (aB (st 62)))
  (FR:bX P w K mg base (ko "place" P w) (RJ 0 (n+1)) f' Ju ["text"] (B0 0 JL)) (kp:Ο K (.ref f')=δ) (B':Binds K Ju ["text"] []) (Kf:mg "cut_text" = ζ (.ref f')):bX P w K mg base (ko "place" P w) (RJ 1 (n+1)) f fd ["text"] (B0 0 JL):=by
 refine gS F S (λA r=>r.lim) (λvs H Q E h=>jE h) λcdv A outer s H vs Q E hr hs=>?_
 obtain⟨v,vr,rfl,hl,h⟩:=hs;obtain rfl:=XA.mp hl;refine⟨_,cC (hX (i:=1) S.nd rfl (.inl rfl) (wc bS)) (k7 (Bu (lT FR (hr.deeper _) rfl Kf kp B' qb (aI (pv 0) bS)))),?_⟩;refine⟨(show(0:Nat)<=Ζ by decide),λp hp=>⟨v,rfl,v,[],rfl,rfl,λH' sm=>?_⟩⟩;rw[twice];exact h H' ((aG.new hp).trans sm)
theorem oR(F:L2.lY K "written_at" "written_at" (st 87) f fd) (S:aW jG.N jG.ps (aB (st 87)))
  (FR:bX P w K mg base (ko "place" P w) (RJ 1 (n+1)) f' Ju ["text"] (B0 0 JL)) (kp:Ο K (.ref f')=δ) (B':Binds K Ju ["text"] []) (Kf:mg "bare_grains" = ζ (.ref f')) (hg:mg "wrapped_text" = ζ (.ref g)) (kg:Ο K (.ref g)=δ) (Rz:mg "laid_square" = ζ (.ref g')) (kg':Ο K (.ref g')=δ):bX P w K mg base (ko "place" P w) (RJ 2 (n+1)) f fd jG.ps (B0 3 JL):=by
 refine gS F S (λA r=>r.lim) (λvs H Q E h=>jE h) λcdv A outer s H vs Q E hr hs=>?_
 obtain⟨v,vr,rfl,hl,h⟩:=hs;refine⟨_,cF (dX (pw (pw (lT FR (hr.deeper _) rfl Kf kp B' qb (aI (pv 0) bS)) rfl hg kg) rfl Rz kg')),?_⟩;refine⟨v,rfl,v,[],rfl,rfl,λH' sm=>?_⟩;rw[twice];exact h H' sm
theorem Cv(h:vs.length=4):∃a b c d,vs=[a,b,c,d]:=by
 match vs,h with
 |[a,b,c,d],_=>exact⟨a,b,c,d,rfl⟩
theorem lx{H H':Hp}{a:ι}{o:HO}(h:aG H H')(ha:H' a=ε):aG H (upd H' a o):=λb u e=>by
 have:=h b u e;rw[aE (λz=>by rw[z,ha]at this;cases this)];exact this
def spN(cM:ι)(JL:Sp):Sp:=λvs H Q E=>∃k,(∀E',(∀H',aG H H'->E' (.ref cM) (ζ k) H')->B0 3 JL vs H (λ_ _=>False) E')/\∀a H2,aG H H2->Ft "place" cM k H2 a->Q (.ref a) H2
theorem Hs(hh:A1 K mg cS cM cT fI LW stI)(F:L2.lY K "_law_told" "_law_told" (st 100) f fd) (S:aW jB.N jB.ps (aB (st 100)))
  (FR:bX P w K mg base (ko "place" P w) (RJ 2 (n+1)) f' Ju jG.ps (B0 3 JL)) (kp:Ο K (.ref f')=δ) (B':Binds K Ju jG.ps []) (Kf:mg "written_at" = ζ (.ref f')):bX P w K mg base pG (RJ 3 (n+1)) f fd jB.ps (spN cM JL):=by
 refine gS F S (λA r=>r.lim) (λvs H Q E ⟨k,h,_⟩=>jE (h (λ_ _ _=>True) λ_ _=>trivial)) λcdv A outer s H vs Q E hr hs=>?_
 obtain⟨k,hx,hQ⟩:=hs;obtain⟨v1,v2,v3,v4,rfl⟩:=Cv (jE (hx (λ_ _ _=>True) λ_ _=>trivial):vs.length=4);have IC:gT (aX pG P w K mg base jB.N "_law_told" (aB (st 100)) f cdv A outer s H E).IL ((aV (st 100)).drop 1)
   (λD σ H1=>σ=[ζ v1,ζ v2,ζ v3,ζ v4,ζ .Ii,ε]/\H1=H/\∀a H2,aG H H2->Ft "place" cM k H2 a->D.rt (.ref a) H2):=by
  intro pins s1 σ H1 D I ⟨hσ,hH,hD⟩;subst hσ hH;refine wH (x:="place") (i:=5) (ts:=λa=>vG (qy 5) (kf 4)) (tr:=Dc (qy 4)) (W:=λC' m H'=>C'=.ref cM/\m=k/\aG H1 H') rfl rfl I.ok rfl S.nd rfl rfl rfl hh.k.hS hh.sB (λa o dx od=>cF (hX (i:=4) S.nd rfl (.inl rfl) (pv 5))) (cF (dX (pv 4))) (λC' m H' hW=>?w) (by decide)
   (yU (i:=4) (Q:=λ_ _=>False) S.nd rfl (.inl rfl) I (mL FR (hr.deeper _) rfl Kf kp B' .nil I (aI (pv 0) (aI (pv 1) (aI (pv 2) (aI (pv 3) bS)))) ⟨v1,rfl,v2,rfl,v3,rfl,v4,rfl,hx (λC o H'=>∃n,o=ζ n/\C=.ref cM/\n=k/\aG H1 H') λH' sm=>⟨k,rfl,rfl,rfl,sm⟩⟩) λ_ _ z=>z.elim)
  obtain⟨rfl,rfl,sm⟩:=hW;refine⟨⟨cM,rfl,rA hh.mB,hh.sm⟩,λa o dx od m' u hc Mw Mv Ky hm=>⟨.ref a,rfl,λn1 n2 ne=>⟨.ref a,rfl,hD a _ (lx (lx sm n1) (by rw[aE (cj ne)];exact n2)) ?_⟩⟩⟩;exact⟨o,dx,od,m',u,by rw[aE ne,aK],hc,Mw,Mv,aK,Ky,hm⟩
 exact⟨_,gT.IL (cC (hX (i:=4) S.nd rfl (.inl rfl) pf) IC),rfl,rfl,hQ⟩
def spT(K:Frag)(cT:ι)(m:Nat):Sp:=λvs H Q E=>∃ds G,ds.length=4/\aF K H ds vs G/\gA m ds/\∀a H2,aG H H2->Px cT H2 a->Q (.ref a) H2
theorem Ga(hh:A1 K mg cS cM cT fI LW stI)(F:L2.lY K "_law_told" "_law_told" (st 100) f fd) (S:aW jB.N jB.ps (aB (st 100)))
  (FR:bX P w K mg base (lh P w) (RJ 2 n) f' Ju jG.ps (Hr K 4 cT (gA n))) (kp:Ο K (.ref f')=δ) (B':Binds K Ju jG.ps []) (Kf:mg "written_at" = ζ (.ref f')):bX P w K mg base pG (RJ 3 n) f fd jB.ps (spT K cT n):=by
 refine gS F S (λA r=>r.lim) (λvs H Q E ⟨ds,G,hl,rs,_⟩=>by rw[<-rs.len];exact hl) λcdv A outer s H vs Q E hr hs=>?_
 obtain⟨ds,G,hl,rs,hg,hQ⟩:=hs;obtain⟨v1,v2,v3,v4,rfl⟩:=Cv (by rw[<-rs.len];exact hl:vs.length=4);have IC:gT (aX pG P w K mg base jB.N "_law_told" (aB (st 100)) f cdv A outer s H E).IL ((aV (st 100)).drop 1)
   (λD σ H1=>σ=[ζ v1,ζ v2,ζ v3,ζ v4,ζ .Ii,ε]/\H1=H/\∀a H2,aG H H2->Px cT H2 a->D.rt (.ref a) H2):=by
  intro pins s1 σ H1 D I ⟨hσ,hH,hD⟩;subst hσ hH;refine Au (i:=5) (ts:=λa=>vG (qy 5) (kf 4)) (tr:=Dc (qy 4)) (W:=λC' H'=>C'=.ref cT/\aG H1 H') rfl rfl I.ok rfl S.nd rfl rfl rfl hh.k.hS (pC hh.sQ) (by decide) (λa o C H' hW hc hd=>cF (hX (i:=4) S.nd rfl (.inl rfl) (pv 5))) (cF (dX (pv 4))) (λC' H' hW=>?w) (by decide)
   (BM (i:=4) (Q:=λ_ _=>False) S.nd rfl (.inl rfl) I (uW FR (hr.deeper _) rfl Kf kp B' .nil I (aI (pv 0) (aI (pv 1) (aI (pv 2) (aI (pv 3) bS)))) ⟨v1,rfl,v2,rfl,v3,rfl,v4,rfl,ds,G,hl,rs,hg,λH' sm=>⟨rfl,sm⟩⟩) λ_ _ z=>z.elim)
  obtain⟨rfl,sm⟩:=hW;exact⟨⟨cT,rfl,yi hh.tQ hh.st⟩,λa o hc=>⟨.ref a,rfl,λn1=>⟨.ref a,rfl,hD a _ (lx sm n1) ⟨o,aK,hc⟩⟩⟩⟩
 exact⟨_,gT.IL (cC (hX (i:=4) S.nd rfl (.inl rfl) pf) IC),rfl,rfl,hQ⟩
def RPd(A:Ρ):Prop:=A.depth+1<wS
theorem whole(F:L2.lY K "_law_whole" "_law_whole" (st 99) f fd) (S:aW rB.N rB.ps (aB (st 99))) (hi:mg "isinstance" = ε) (h1:mg "int" = ε) (h2:mg "bool" = ε) :
  bX P w K mg base pG RPd f fd rB.ps (λvs H Q E=>∃n:Int,vs=[.int n]/\Q (.bl δ) H):=by
 refine D6 F S (λA h=>Nat.lt_of_succ_lt h) (λvs H Q E ⟨n,e,_⟩=>by rw[e];rfl) λcdv A outer s H vs Q E hr hs=>?_
 obtain⟨n,rfl,hQ⟩:=hs;refine⟨_,cF (dX (oQ (cG jO rfl hi wf (aI (pv 0) (aI (jy (v:=.ty "int") rfl h1 (by rfl) rfl) bS))) (oi (o9 (cG jO rfl hi wf (aI (pv 0) (aI (jy (v:=.ty "bool") rfl h2 (by rfl) rfl) bS))))))),?_⟩;have nD:(∀kvs,(Pc.D.int n)≠.JI kvs)/\(∀ks,(Pc.D.int n)≠.IA ks)/\∀ks,(Pc.D.int n)≠.IK ks:=⟨λ_ h=>(by cases h),λ_ h=>(by cases h),λ_ h=>(by cases h)⟩;exact⟨.int n,rfl,.int n,"int",.int n,[],rfl,by decide,nD,.int n,δ,rfl,.int n,rfl,.int n,"bool",.int n,[],rfl,by decide,nD,.int n,γ,rfl,hQ⟩
theorem GO{H:Hp}{d0 d1 d2 d3 d4:Pc.D}{G:List ι}(r:aF K H [d0,d1,d2,d3,d4] vs G):∃v0 v1 v2 v3 v4 G0 G4 G',vs=[v0,v1,v2,v3,v4]/\aF K H [d0,d1,d2,d3] [v0,v1,v2,v3] G'/\aF K H [d0] [v0] G0/\Rep K H d4 v4 G4:=by
 cases r with
 |cons r0 r=>cases r with
  |cons r1 r=>cases r with
   |cons r2 r=>cases r with
    |cons r3 r=>cases r with
     |cons r4 r=>
      cases r;exact⟨_,_,_,_,_,_,_,_,rfl,.cons r0 (.cons r1 (.cons r2 (.cons r3 .nil))),.cons r0 .nil,r4⟩
theorem rX(I:p.In K mg)(hH:rS w K)(ih:j5 p P w K mg base n)(hh:A1 K mg cS cM cT fI LW stI)(F:L2.lY K "_law_refused" "_law_refused" (st 101) f fd)
  (hi:mg "isinstance" = ε) (hv:mg "ValueError" = ε) (h1:mg "int" = ε) (h2:mg "bool" = ε):kj P w K mg base pG (n+1) f fd qf.ps (Az K 5 (p.run (n+1) 53)):=by
 obtain⟨fT,fdT,FT,MT⟩:=I.fn 52 jB rfl;have BT:=FT.binds (bC ok jB (Ι (i:=52) rfl)).bd;obtain⟨fA,fdA,FA,MA⟩:=I.fn 40 jG rfl;have BA:=FA.binds (bC ok jG (Ι (i:=40) rfl)).bd;obtain⟨fX,fdX,FX,MX⟩:=I.fn 41 xq rfl;have BX:=FX.binds (bC ok xq (Ι (i:=41) rfl)).bd;obtain⟨fL,fdL,FL,ML⟩:=I.fn 29 Gc rfl;obtain⟨fB,fdB,FB,MB⟩:=I.fn 24 uJ rfl;have BB:=FB.binds (bC ok uJ (Ι (i:=24) rfl)).bd;obtain⟨fC,fdC,FC,MC⟩:=I.fn 19 rP rfl;have BC:=FC.binds (bC ok rP (Ι (i:=19) rfl)).bd;obtain⟨fR,fdR,FR,MR⟩:=I.fn 20 yj rfl;have BR:=FR.binds (bC ok yj (Ι (i:=20) rfl)).bd;obtain⟨fG,fdG,FG,MG⟩:=I.fn 39 FN rfl;obtain⟨fF,fdF,FF,MF⟩:=I.fn 27 zo rfl;have BF:=FF.binds (bC ok zo (Ι (i:=27) rfl)).bd;obtain⟨fW,fdW,FW,MW⟩:=I.fn 51 rB rfl;have BW:=FW.binds (bC ok rB (Ι (i:=51) rfl)).bd;have ST:aW jB.N jB.ps (aB (st 100)):=cQ (p:=p) (d:=jB) (n:=60) (by decide +kernel);have SA:aW jG.N jG.ps (aB (st 87)):=cQ (p:=p) (d:=jG) (n:=60) (by decide +kernel);have S:aW qf.N qf.ps (aB (st 101)):=cQ (p:=p) (d:=qf) (n:=60) (by decide +kernel);have FWk:=whole (P:=P) (w:=w) (base:=base) FW (cQ (p:=p) (d:=rB) (n:=60) (by decide +kernel)) hi h1 h2;refine(gS (RP:=eF (n+1)) F S (λA r=>⟨r.hd,r.depth⟩) (λvs H Q E h=>kx h) λcdv A outer s H vs Q E hr hs=>?_).plain;obtain⟨ds,G0,hl,rs,r,IS,kQ⟩:=hs;obtain⟨g5,hr1,t,a,b,m,d,ha,hb,rfl,hc⟩:=asked (n:=n) IS hl;obtain⟨n,rfl⟩:∃m,n=m+5:=⟨n-5,by omega⟩;obtain⟨v0,v1,v2,v3,v4,G1,G4,G',rfl,r4,r0,rd⟩:=GO rs;have fin:∀H2,aG H H2->Q (.bl δ) H2:=λH2 sm=>kQ (.bl δ) H2 [] sm (by rw[hr1];exact .bl _) (λ_ z=>(nomatch z)) λ_=>⟨bu,λ_ z=>(nomatch z)⟩
 have LR:∀{C:ι},Cr K C->dH (aX pG P w K mg base qf.N "_law_refused" (aB (st 101)) f cdv A outer s H E) (.builtin "isinstance") _:=λ{C} q=>rO (X:=aX pG P w K mg base qf.N "_law_refused" (aB (st 101)) f cdv A outer s H E) q
 rcases hc with⟨k,rfl,hO⟩|⟨rfl,rfl⟩
 .have FR2:=Aj (m:=60) (m2:=60) (d:=yj) (rb:=rb) (P:=P) (base:=base) (bC ok) I hH (Fy (p:=p)) (cQ (p:=p) (d:=yj) (n:=60) (by decide +kernel)) FR (by kernel_rfl) rfl hh.m hh.k (by decide);have FR1:=zj (n:=n+4) FC (cQ (p:=p) (d:=rP) (n:=60) (by decide +kernel)) FR2 FR.kp BR MR;have FRb:=vB FB (cQ (p:=p) (d:=uJ) (n:=60) (by decide +kernel)) FR1 FC.kp BC MC;have Vb:=oR FA SA FRb FB.kp BB MB MX FX.kp ML FL.kp;have Va:=Hs hh FT ST Vb FA.kp BA MA;have ep:Cr K cM:=BD hh.k.cls;obtain⟨rfl,_⟩:=rd.int_inv;have ea:∀{p p':W3},PE (aX pG P w K mg base qf.N "_law_refused" (aB (st 101)) f cdv A outer s H E) (.Attribute (.Name "_law_told_here" p) "place" p') _:=λ{p p'}=>Bv (i:=5) hh.k.cls hh.k.nx (pv 5)
  refine⟨_,cC (hX (i:=5) S.nd rfl (.inl rfl) (mn Va (RJ.of hr (by decide) _) rfl MT FT.kp BT (aI (pv 0) (aI (pv 1) (aI (pv 2) (aI (pv 3) bS))))))
   (cC (j3 (kR (kZ (cG (LR ep) rfl hi wf (aI (pv 5) (aI (jy (v:=.ty "ValueError") rfl hv (by rfl) rfl) bS))))) (cF (dX qK)) eB)
   (cC (j3 (yI (yb (pv 4))) (cF (dX (oQ (cG (LR ep) rfl hi wf (aI (pv 5) (aI (eT (v:=.ref cT) rfl hh.t rfl) bS))) (oi (o9 (cG (LR ep) rfl hi wf (aI (pv 5) (aI (eT (v:=.ref cM) rfl hh.m rfl) bS)))))))) eB)
   (cC (j3 (PW.pt (w8 (kR (kZ (cG (LR ep) rfl hi wf (aI (pv 5) (aI (eT (v:=.ref cM) rfl hh.m rfl) bS))))) (w8 (kZ (cG (LR ep) rfl hi wf (aI (pv 5) (aI (eT (v:=.ref cT) rfl hh.t rfl) bS)))) (wR (kR (kZ (mn FWk (show A.depth+1+1<_ by have:=hr.dp;omega) rfl MW FW.kp BW (aI ea bS)))))))) (cF (dX qK)) eB)
   (cF (dX (DU (DT ea (pv 4)))))))),?_⟩
  refine⟨v0,rfl,v1,rfl,v2,rfl,v3,rfl,k,λE' hE=>⟨v0,_,rfl,rfl,λH' sm=>⟨[.str (tx t)],G1,rfl,r0.same sm,?_⟩⟩,λa' H2 sm xn=>?_⟩
  .show match Eu (jA (T 0) rb (aJ [.str (tx t)] 3))with
    |some (.inl (d,fr))=>_
    |some (.inr k)=>_
    |none=>False
   rw[Ha hO];exactλH2 s2=>⟨k,rfl,hE H2 (sm.trans s2)⟩
  .refine⟨.ref a',rfl,a',xn.e,.inr ⟨rfl,δ,rfl,?_⟩⟩;refine⟨.int k,rfl,γ,rfl,?_⟩;refine⟨.ref a',rfl,a',xn.e,.inl ⟨cM,rfl,rA hh.mB,δ,fk V.bl hh.mm,?_⟩⟩;refine⟨.ref a',rfl,a',xn.e,.inl ⟨cT,rfl,hh.tD,γ,fk V.bl hh.mt,?_⟩⟩;refine⟨a',k,rfl,xn,k,rfl,δ,rfl,?_⟩;refine⟨a',k,rfl,xn,.int k,rfl,k,k,rfl,rfl,?_⟩;show Q (.bl (decide ((k:Int)=k))) H2;rw[bt rfl];exact fin H2 sm
 .have FRf:=yF (n:=0) (m:=60) (d:=zo) (c:=Wy) (P:=P) (base:=base) (bC ok) I hH (Fy (p:=p)) (cQ (p:=p) (d:=zo) (n:=60) (by decide +kernel)) FF rfl (by kernel_rfl) rfl hh.t hh.tQ (by decide);have FRw:=wW (j:=0) (n:=n+5) (m:=60) (d:=xq) (cs:=Ug) (P:=P) (base:=base) (bC ok) I hH ih (cQ (p:=p) (d:=xq) (n:=60) (by decide +kernel)) FX rfl (by kernel_rfl) FRf (λA env r=>r.low env) FF.kp BF MF MG FG.kp rfl rfl (by decide) (by decide) (λ_ _ _ _ _ _=>rfl) (λ_ _ _ _ _ _=>rfl) (λ_ _ _ _ _ _=>rfl) (λ_ _ _ _ _ _=>rfl);have Vb:=wW (j:=2) (n:=n+5) (m:=60) (d:=jG) (cs:=Uh) (P:=P) (base:=base) (bC ok) I hH ih SA FA rfl (by kernel_rfl) FRw (λA env r=>((r.deeper env).less)) FX.kp BX MX ML FL.kp rfl rfl (by decide) (by decide) (λ_ _ _ _ _ _=>rfl) (λ_ _ _ _ _ _=>rfl) (λ_ _ _ _ _ _=>rfl) (λ_ _ _ _ _ _=>rfl);have Va:=Ga hh FT ST Vb FA.kp BA MA;have ep:Cr K cT:=DR hh.tQ;obtain⟨rfl,_⟩:=rd.JE;refine⟨_,cC (hX (i:=5) S.nd rfl (.inl rfl) (mn Va (RJ.of hr (by decide) _) rfl MT FT.kp BT (aI (pv 0) (aI (pv 1) (aI (pv 2) (aI (pv 3) bS))))))
   (cC (j3 (kR (kZ (cG (LR ep) rfl hi wf (aI (pv 5) (aI (jy (v:=.ty "ValueError") rfl hv (by rfl) rfl) bS))))) (cF (dX qK)) eB)
   (k7 (j3 (yI (yb (pv 4))) (cF (dX (oQ (cG (LR ep) rfl hi wf (aI (pv 5) (aI (eT (v:=.ref cT) rfl hh.t rfl) bS))) (oi (o9 (cG (LR ep) rfl hi wf (aI (pv 5) (aI (eT (v:=.ref cM) rfl hh.m rfl) bS)))))))) eB))),?_⟩
  refine⟨v0,rfl,v1,rfl,v2,rfl,v3,rfl,_,G',rfl,r4,long n ha hb,λa' H2 sm xn=>?_⟩;refine⟨.ref a',rfl,a',xn,.inr ⟨rfl,δ,rfl,?_⟩⟩;refine⟨.Ii,rfl,δ,rfl,?_⟩;refine⟨.ref a',rfl,a',xn,.inl ⟨cT,rfl,hh.tD,δ,fk V.bl hh.tt,?_⟩⟩;refine⟨.ref a',rfl,a',xn,.inl ⟨cM,rfl,rA hh.mB,γ,fk V.bl hh.tm,?_⟩⟩;exact fin H2 sm
end
noncomputable def stI:xL:=match st 9 with
 |.ClassDef _ _ _ b ..=>b.getD 0 (.Pass ⟨0,0,0,0⟩)
 |s=>s
theorem Gk:Cm stI "SquareError" "place" :=
 ⟨⟨_,_,_,_,_,_,_,_,_,_,_,_,_,_,_,_,rfl,rfl,by decide,by decide⟩,cQ (p:=p) (d:=⟨"__init__",stI,["self","place"],["self","place"],.nil⟩) (n:=60) (by decide +kernel),rfl,rfl,rfl,by decide,by decide⟩
theorem bdI(kV doc pm:η)(an:Option ι)(cdv ct:η)(us:List η)(hl:us.length=2):UF (wT "__init__" "NoSign.__init__" (dF stI) (aV stI) (aB stI) .none kV doc pm an cdv ct) ⟨us,[]⟩=pure ([("self" : Str),"place"].zip us):=
 @D5 (λus=>UF _ ⟨us,[]⟩=pure (XT _ us)) us hl (λ_ _=>rfl)
theorem nxI:Ps (.type "ValueError") "place" = pure ε:=by rw[Ĭ,î];kernel_rfl
theorem Qv(ns:List Int)(hl:ns.length<=63):∃fr,p.run 12 55 [.lst (ns.map D.int)]=.ok (.bl δ,fr):=QK ns hl
section
variable {P:Ε}{w:Ξ}{K:Frag}{mg:Str->Option η}{base h:Υ}
theorem foreign(I:p.In K mg)(hH:rS w K)(hh:∃cS cM cT fI fd,A1 K mg cS cM cT fI fd stI):pA p Hn P w K mg base:=by
 obtain⟨cS,cM,cT,fI,LW,hh⟩:=hh;intro n i d hd hn ih f fd F;have hi:i=53:=by
  have q:Fl64.allB 56 (λj=>!Hn.contains ((p.J9.map (·.nm)).getD j "") || decide (j=53))=δ:=by kernel_rfl
  have h:=Fl64.bE q i (χ.mp hd).1;rw[ο,τ,hd]at h;have h:(!Hn.contains d.nm || decide (i=53))=δ:=h;rw[jp.mpr hn]at h;exact bg h
 subst hi;cases hd;exact rX I hH ih hh F (I.blt "isinstance" (by decide)) (I.blt "ValueError" (by decide)) (I.blt "int" (by decide)) (I.blt "bool" (by decide))
end
end K40
open K40 (st)
open PySem PySem.W PyProof.Rows
theorem PySem.Challenge.cw_patchsquare_k40_written_at_holds : PySem.Challenge.rw_patchsquare_k40_written_at.Holds := by
 refine holds_law (by decide +kernel) λQe=>?_
 refine holds_open (q:=K40.Q) (loose:=["ROOMS","BLOCK_COUNTS"]) (XP:=XL K40.Q []) (YP:=Hook.says K40.H) K40.left (Hook.of K40.H) (Hook.keeps K40.H) (λs e=>xl_of s (Zv.mp e).1) XL.keeps (by rfl) (by rfl) (by rfl) (λs e=>recFacts_of (Zv.mp e).2) (by rfl) Qe (by decide +kernel) ⟨rfl,rfl,rfl,rfl,rfl,by decide +kernel⟩ ?hw ?hc
 case hw=>w_witness2
 refine Pc.FQ (l:=lm) K40.p K40.Hn 12 55 "_law_script" K40.Fu rfl rfl (λw h Y=>PySem.W.kIn_of Y) rfl rfl rfl ⟨rfl,by decide,by decide⟩ K40.ok ?st ?nl ?hh ?hf K40.Qv
 case nl=>intro w;rfl
 case hh=>intro w;exact Pc.Cw rfl
 case hf=>
  intro w mg h base KX G I;have F:L2.lY (K40.K w.params) "__init__" "NoSign.__init__" K40.stI 72 _:=⟨⟨_,_,_,_,_,_,_,_,_,rfl,rfl,rfl⟩,rfl⟩;exact K40.foreign I (Pc.Cw rfl) ⟨43,75,56,72,_,⟨ir KX G rfl,by kernel_rfl,rfl,by kernel_rfl,by kernel_rfl,by kernel_rfl,F,rfl,F.binds K40.bdI,K40.Gk,K40.nxI⟩,ir KX G rfl,by kernel_rfl,by kernel_rfl,by kernel_rfl,by kernel_rfl,by kernel_rfl,by kernel_rfl,ir KX G rfl,by kernel_rfl,by kernel_rfl,by kernel_rfl,by kernel_rfl,by kernel_rfl⟩
 case st=>
  intro w;refine⟨⟨?d0,?d1,?d2,?d3,?d4,?d5,?d6,?d7,?d8,?d9,?d10,?d11,?d12,?d13,?d14,?d15,?d16,?d17,?d18,?d19,?d20,?d21,?d22,?d23,?d24,?d25,?d26,?d27,?d28,?d29,?d30,?d31,?d32,?d33,?d34,?d35,?d36,?d37,?d38,?d39,?d40,?d41,?d42,?d43,?d44,?d45,?d46,?d47,?d48,?d49,?d50,?d51,?d52,?d53,?d54,?d55,trivial⟩,Pc.Bo ⟨?SI,?SG,?SD,?Sz,?Sy,?Sx,?Sw,?Sv,?Su,?Ss,?Oy,?Ox,?Ow,?Ov,?Ou,?Ot,?Oo,?Oj,?Oi,?Oh,?Og,?Of,?Oe,?Od,?Oc,?Ob,?Oa,?N9,?N8,trivial⟩,⟨?e0,?e1,?e2,?e3,?e4,?e5,?e6,?e7,?e8,?e9,?MN,?e11,?e12,?e13,trivial⟩⟩
  case d0|d1|d2|d3|d4|d5|d6|d7|d8|d9|d10|d11|d12|d13|d14|d15|d16|d17|d18|d19|d20|d21|d22|d23|d24|d25|d26|d27|d28|d29|d30|d31|d32|d33|d34|d35|d36|d37|d38|d39|d40|d41|d42|d43|d44|d45|d46|d47|d48|d49|d50|d51|d52|d53|d54|d55=>refine' Pc.D8 ?a ?l ?c ?k;(case a=>rfl);(case l=>rfl);(case c=>rfl);(case k=>rfl)
  case SI=>refine' Pc.xx (kvs:=[(.inl 15,ζ 16),(.inl 19,ζ 37),(.inl 23,ζ 64),(.inl 27,ζ 96),(.inl 31,ζ 133)]) ?ga0 ?gl0 ?gc0 ?gv0 ?gr0;(case ga0=>rfl);(case gl0=>rfl);(case gc0=>exact⟨rfl,rfl,rfl⟩);(case gv0=>exact(.cons rfl rfl rfl (.cons rfl rfl rfl (.cons rfl rfl rfl (.cons rfl rfl rfl (.cons rfl rfl rfl .nil))))));(case gr0=>decide)
  case SG=>refine' Pc.xx (kvs:=[(.inl 15,ζ 1),(.inl 19,ζ 1),(.inl 23,ζ 2),(.inl 27,ζ 2),(.inl 31,ζ 3)]) ?ga1 ?gl1 ?gc1 ?gv1 ?gr1;(case ga1=>rfl);(case gl1=>rfl);(case gc1=>exact⟨rfl,rfl,rfl⟩);(case gv1=>exact(.cons rfl rfl rfl (.cons rfl rfl rfl (.cons rfl rfl rfl (.cons rfl rfl rfl (.cons rfl rfl rfl .nil))))));(case gr1=>decide)
  case SD=>refine' Pc.gl_int (i:=8) ?ga2;(case ga2=>rfl)
  case Sz=>refine' Pc.gl_int (i:=16) ?ga3;(case ga3=>rfl)
  case Sy=>refine' Pc.gl_int (i:=4) ?ga4;(case ga4=>rfl)
  case Sx=>refine' Pc.gl_int (i:=1) ?ga5;(case ga5=>rfl)
  case Sw=>refine' Pc.gl_int (i:=0) ?ga6;(case ga6=>rfl)
  case Sv=>refine' Pc.gl_int (i:=5) ?ga7;(case ga7=>rfl)
  case Su=>refine' Pc.jh (ds:=[.int 1,.int 0,.int 1]) (vs:=[.int 1,.int 0,.int 1]) ?ga8 ?gl8 ?gc8 ?gz8 ?gv8 ?gr8;(case ga8=>rfl);(case gl8=>rfl);(case gc8=>rfl);(case gz8=>decide);(case gv8=>exact(.cons ⟨_,rfl⟩ (.cons ⟨_,rfl⟩ (.cons ⟨_,rfl⟩ .nil))));(case gr8=>exactλH=>(.cons (.int _) (.cons (.int _) (.cons (.int _) .nil))))
  case Ss=>refine' Pc.jh (ds:=[.int 1,.int 1,.int 0]) (vs:=[.int 1,.int 1,.int 0]) ?ga9 ?gl9 ?gc9 ?gz9 ?gv9 ?gr9;(case ga9=>rfl);(case gl9=>rfl);(case gc9=>rfl);(case gz9=>decide);(case gv9=>exact(.cons ⟨_,rfl⟩ (.cons ⟨_,rfl⟩ (.cons ⟨_,rfl⟩ .nil))));(case gr9=>exactλH=>(.cons (.int _) (.cons (.int _) (.cons (.int _) .nil))))
  case Oy=>refine' Pc.jh (ds:=[.int 0,.int 1,.int 0]) (vs:=[.int 0,.int 1,.int 0]) ?Tj ?SO ?SV ?Sd ?Sj ?Sr;(case Tj=>rfl);(case SO=>rfl);(case SV=>rfl);(case Sd=>decide);(case Sj=>exact(.cons ⟨_,rfl⟩ (.cons ⟨_,rfl⟩ (.cons ⟨_,rfl⟩ .nil))));(case Sr=>exactλH=>(.cons (.int _) (.cons (.int _) (.cons (.int _) .nil))))
  case Ox=>refine' Pc.gl_int (i:=5) ?Ti;(case Ti=>rfl)
  case Ow=>refine' Pc.gl_int (i:=8) ?Th;(case Th=>rfl)
  case Ov=>refine' Pc.gl_int (i:=3) ?Tf;(case Tf=>rfl)
  case Ou=>refine' Pc.gl_int (i:=0) ?Te;(case Te=>rfl)
  case Ot=>refine' Pc.gl_int (i:=1) ?Td;(case Td=>rfl)
  case Oo=>refine' Pc.gl_int (i:=2) ?Tc;(case Tc=>rfl)
  case Oj=>refine' Pc.gl_int (i:=3) ?Ta;(case Ta=>rfl)
  case Oi=>refine' Pc.jh (ds:=[.str "",.str (K40.KS 1),.str (K40.KS 2),.str (K40.KS 3)]) (vs:=[.str "",.str (K40.KS 1),.str (K40.KS 2),.str (K40.KS 3)]) ?S9 ?SN ?SU ?Sb ?Si ?So;(case S9=>rfl);(case SN=>rfl);(case SU=>rfl);(case Sb=>decide);(case Si=>exact(.cons ⟨_,rfl⟩ (.cons ⟨_,rfl⟩ (.cons ⟨_,rfl⟩ (.cons ⟨_,rfl⟩ .nil)))));(case So=>exactλH=>(.cons (.str _) (.cons (.str _) (.cons (.str _) (.cons (.str _) .nil)))))
  case Oh=>refine' Pc.jh (ds:=[.int 0,.int 0,.int 5,.int 7]) (vs:=[.int 0,.int 0,.int 5,.int 7]) ?S8 ?SM ?SS ?Sa ?Sg ?Sn;(case S8=>rfl);(case SM=>rfl);(case SS=>rfl);(case Sa=>decide);(case Sg=>exact(.cons ⟨_,rfl⟩ (.cons ⟨_,rfl⟩ (.cons ⟨_,rfl⟩ (.cons ⟨_,rfl⟩ .nil)))));(case Sn=>exactλH=>(.cons (.int _) (.cons (.int _) (.cons (.int _) (.cons (.int _) .nil)))))
  case Og=>refine' Pc.gl_int (i:=2) ?S7;(case S7=>rfl)
  case Of=>refine' Pc.gl_int (i:=6) ?S6;(case S6=>rfl)
  case Oe=>refine' Pc.gl_int (i:=64) ?S5;(case S5=>rfl)
  case Od=>refine' Pc.jh (ds:=[.int 0,.int 4,.int 7,.int 10]) (vs:=[.int 0,.int 4,.int 7,.int 10]) ?S4 ?SK ?SR ?R9 ?Sf ?Sl;(case S4=>rfl);(case SK=>rfl);(case SR=>rfl);(case R9=>decide);(case Sf=>exact(.cons ⟨_,rfl⟩ (.cons ⟨_,rfl⟩ (.cons ⟨_,rfl⟩ (.cons ⟨_,rfl⟩ .nil)))));(case Sl=>exactλH=>(.cons (.int _) (.cons (.int _) (.cons (.int _) (.cons (.int _) .nil)))))
  case Oc=>refine' Pc.gl_int (i:=3) ?S3;(case S3=>rfl)
  case Ob=>refine' Pc.gl_int (i:=6) ?S2;(case S2=>rfl)
  case Oa=>refine' Pc.jh (ds:=[.int 42,.int 21]) (vs:=[.int 42,.int 21]) ?SY ?SJ ?SQ ?R8 ?Se ?Sk;(case SY=>rfl);(case SJ=>rfl);(case SQ=>rfl);(case R8=>decide);(case Se=>exact(.cons ⟨_,rfl⟩ (.cons ⟨_,rfl⟩ .nil)));(case Sk=>exactλH=>(.cons (.int _) (.cons (.int _) .nil)))
  case N9=>refine' Pc.gl_int (i:=64) ?SX;(case SX=>rfl)
  case N8=>refine' Pc.gl_int (i:=67) ?SW;(case SW=>rfl)
  case e0|e1|e2|e3|e4|e5|e6|e7|e8|e9|MN|e11|e12|e13=>dsimp only;rfl
end
