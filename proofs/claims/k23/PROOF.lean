import PyProof.Rows.All
import Wide.All
import OpenK.AllK
import Lean
import PySem.Challenge.RW_patchsquare_k23_whole_unwrapped
set_option Elab.async false
set_option linter.all false
set_option maxRecDepth 100000
set_option maxHeartbeats 0
open Array renaming getElem?_toList->Yz,length_toList->YM,toList->Z0
open Bool renaming and_eq_true->aj,and_eq_true_iff->YQ,and_self->ik,and_true->Z7,eq_iff_iff->fk,false->ε,false_and->ZP,false_eq_true->a8,false_ne_true->ba,false_or->Z6,not_eq_true->jo,not_eq_true'->i3,not_false->je,or_eq_true->g6,true->ζ,true_and->g8,true_or->YA
open Classical renaming byContradiction->đ,choose->ď,choose_spec->Đ,not_not->FS,propDecidable->GM
open Decidable renaming byContradiction->gb
open False renaming elim->bv
open ForInStep renaming yield->Ix
open Function renaming comp_apply->Ę
open Int renaming ediv_le_self->ZE,ediv_nonneg->ZQ,emod_lt_of_pos->jd,emod_nonneg->jz,le_trans->XS,natCast_mul->ZV,natCast_nonneg->jc,toNat->ZH,toNat_natCast->bo,zero_add->XR
open Int.ofNat renaming inj->č
open List renaming Nodup->Zc,all_cons->fh,all_eq_true->cz,all_map->XH,all_nil->jb,any_cons->fv,append_assoc->ef,append_nil->bc,contains_cons->Zf,contains_iff_mem->AC,contains_nil->i0,drop_eq_getElem_cons->Yg,drop_length->Zu,drop_of_length_le->YC,drop_take->ZU,eq_of_mem_replicate->Yo,eraseIdxIfInBounds_toArray->XN,ext_getElem->cj,ext_getElem?->zn,filterMap_cons->SB,filter_congr->jh,filter_cons->i8,filter_cons_of_neg->iw,filter_cons_of_pos->iu,filter_filter->Ze,filter_map->ZI,find?_cons->u8,flatten_cons->dz,flatten_nil->jm,foldl->Y4,getD_cons_succ->YZ,getD_eq_getElem?_getD->ι,getElem?_append_left->Θ,getElem?_append_right->Μ,getElem?_cons_succ->KB,getElem?_eq_getElem->τ,getElem?_eq_none->nw,getElem?_eq_some_iff->ο,getElem?_map->π,getElem?_mapIdx->Τ,getElem?_range->Ψ,getElem?_replicate->Ω,getElem?_set_ne->μ,getElem?_set_self->ξ,getElem?_take->UV,getElem?_toArray->KT,getElem_map->dm,getElem_mem->jj,getElem_range->gv,length->ul,length_append->az,length_cons->cg,length_drop->gn,length_eq_zero_iff->Yv,length_filter_le->g9,length_map->ai,length_range->bu,length_range'->Zb,length_replicate->bf,length_set->ak,length_singleton->i4,length_take->dk,lookup_append->ir,lookup_cons->dh,map->XI,mapIdx_eq_iff->Za,map_append->bq,map_congr_left->fu,map_cons->av,map_drop->Z9,map_id->ÿ,map_map->aw,map_nil->jw,mem_append->il,mem_append_left->a9,mem_append_right->aq,mem_cons->fe,mem_cons_of_mem->aa,mem_cons_self->ag,mem_filter->gx,mem_filterMap->UF,mem_flatten->XW,mem_iff_getElem->Pi,mem_map->χ,mem_map_of_mem->SZ,mem_of_getElem->ax,mem_of_getElem?->Α,mem_of_mem_drop->Ps,mem_of_mem_take->i9,mem_or_eq_of_mem_set->jf,mem_range->na,mem_range'_1->Zq,mem_singleton->gu,mem_zipIdx_iff_getElem?->X4,nil_append->X1,nil_sublist->Zt,nodup_append->fi,nodup_cons->jy,nodup_nil->bj,nodup_range->Zz,not_mem_nil->dg,of_mem_zip->jx,pairwise_cons->im,pairwise_iff_getElem->Yi,pairwise_map->jg,pairwise_singleton->Ys,perm_append_comm->YK,range->υ,range'->rc,range_eq_range'->YO,range_succ->ZJ,range_succ_eq_map->YB,replicate->ν,replicate_succ->dq,set_set->YD,size_toArray->ao,sublist_append_right->Ye,sum_append->X3,sum_cons->Ym,take_append_drop->YL,take_length->ji,take_of_length_le->iz,take_succ->ZW,zip->Κ
open List.Pairwise renaming filter->À,imp_of_mem->XD,nil->Yb
open List.Perm renaming append_left->Ċ,append_right->ċ,trans->Č
open List.Sublist renaming append->Ã,refl->Yf
open List.cons renaming inj->Zg
open Nat renaming add_comm->XO,add_le_add_left->Zh,div_add_mod->X8,eq_zero_or_pos->Zp,le_of_eq->õ,le_of_lt->XM,le_of_not_lt->i7,le_of_succ_le->XQ,le_refl->au,le_succ->X0,le_succ_of_le->Zv,le_trans->cu,le_zero->Æ,lt_irrefl->fq,lt_of_le_of_lt->iq,lt_of_lt_of_le->ay,lt_succ_of_lt->iy,lt_succ_self->i5,min_eq_left->X9,min_eq_right->ZG,min_le_right->ZK,min_self->ø,mod_lt->ip,mod_two_eq_zero_or_one->eh,mul_comm->ö,mul_le_mul->à,ne_of_gt->ô,ne_of_lt->bz,not_lt_zero->gi,pow_one->Å,pow_succ->jv,shiftRight_eq_div_pow->ie,shiftRight_xor_distrib->Yh,sub_self->ju,succ_pos->jr,xor_assoc->br,xor_comm->XT,xor_mod_two_pow->Y9,xor_self->gj,xor_zero->gq,zero_add->en,zero_le->dn,zero_xor->cx
open Nat.succ renaming inj->jt
open Ne renaming symm->cv
open Option renaming bind_eq_some_iff->ah,getD_none->Y3,getD_some->Zd,isSome_some->YN,map_eq_some_iff->ae,map_some->bw,none->η,some->θ
open Option.some renaming inj->eo,injEq->da
open Or renaming inr->ë
open Prod.mk renaming injEq->gm
open PyProof.Rows renaming AllBare->PP,Call_->æ,IntsAre->XF,boot_list->ü,boot_range->Z2,callWith_builtin1->Á,callWith_kw->Ä,callWith_type1->du,envOfC->P3,subscriptTail->Ñ,subscriptTail_builtinR->Ch
open PySem renaming Around->Φ,BindsTo->Zm,CmpOp->XU,Drawn->É,Env->Yw,FuncData->pi,GenState->YE,IsRangeIter->ZC,Keyword->Zn,Model->È,Operator->li,OsState->Ď,Paired->ZX,Params->Zi,PassesOwn->XE,Pos->GE,Result->Zl,Shared->ρ,Slot->þ,Tok->YR,Walks->ė,World->Ν,assign->WF,assignEach->wl,attributeBase->XV,backTo->Do,behindInMarks->xz,binaryOp->wP,bindArgs->Η,bindC->Y2,bindL->Y1,bootBuiltins->wf,builtinsNs->ZY,call->YW,call_isinstance->bn,call_list_seq->Ă,call_meets->EQ,call_range_1->Zk,callerA->XG,cellsFrom->am,closureFor->Z8,codeAny->FM,codeAny_builtin->Yt,codeAny_call_function->Zr,codeAny_func->Ć,codeAny_mono->X6,compEnvC->Í,compareOp->kt,evalPart_none->Ð,fitsIndex_both->Ê,foldedSetIterable->wE,getItem->ć,holding->Yy,inplaceOp->Y0,intBits_le_64->Ï,interactive->Ē,isinstance_false_bool->Zw,isinstance_false_int->XB,isinstance_false_list->Uf,isinstance_false_tuple->Re,letOwnedTupleGo->SL,mainGlobals->bi,mem_of_lookup->cy,model->Ζ,name_of_addr->ą,newFunctionEnv->YJ,plainId_quiet->XX,pushCells->NE,pushCells_keeps->Yr,pyIter->XY,rangeSize_one->YV,relabel->ï,richCompare->Ě,seqIndex?->Yd,seqIndex_neg->Zo,seqIndex_of->ZD,seqItems?->ý,setItem->ă,sizeLine_eq->Yl,sliceBounds->Go,slot_dict_getitem->í,slot_list_getitem->è,spliced->ã,standAt->Ą,starEach->Ι,storeName->ò,subscripted->ē,swappedStores->Î,swapsWith->GT,swapsWithSole->YU,sysModules->Db,typeIs_bool->Y8,typeIs_int->YI,typeOf->Z4,valueAt->sK,wpAny->Ε,wpAny_Call_Name_kw->wn,wpAny_Name->ZZ,wpAny_assign_Name->ä,wpAny_bind->Γ,wpAny_call->Z3,wpAny_comprehension_free->YX,wpAny_execs_cons->ó,wpAny_execs_nil->SC,wpAny_getItem_of->ù,wpAny_holding->KF,wpAny_letGo->Yn,wpAny_loadName_cell->ZO,wpAny_loadName_local->ZB,wpAny_mono->kw,wpAny_newFunctionEnv_cells->YH,wpAny_newObj_type->ð,wpAny_passesOwn->ww,wpAny_pure->Χ,wpAny_pyIter_enum->î,wpAny_pyIter_list->KE,wpAny_pyIter_range->Z1,wpAny_pyIter_rangeiter->Zj,wpAny_pyIter_zip->û,wpAny_seqItems->XC,wpAny_standAt->YT,wpAny_truthy_bool->sB,wpAny_tryCatch->IR,wpAny_updateSeq->Yu
open PySem.Around renaming under_plainId->No
open PySem.AutoListH renaming list___mul___list_int_3->ĉ
open PySem.AutoSeq1 renaming list_clear_list_0->Ė,list_extend_list_list_0->ę
open PySem.Bind renaming checkArgs->ZR
open PySem.Builtin renaming bitAnd->XZ,bitOr->Zy,bitXor->Ρ,iter->ii
open PySem.Builtin.Builtins renaming bindParams->On
open PySem.Builtin.List renaming listTooLong->wp
open PySem.Builtin.Range renaming rangeFitsLong->ú,rangeSize->Υ,small->X2
open PySem.Calls renaming Constant_str->YS,Name_function_global->X5,callWith_builtin->Yq,spliced_cons->TD,spliced_nil->WP
open PySem.Challenge renaming pw_patchsquare_k23_whole_unwrapped->Δ,rw_patchsquare_k23_whole_unwrapped->io
open PySem.Data renaming dict->Ç,fields->ñ
open PySem.F renaming entry_list_pop->Z5,entry_max_loop->X7,plainAttrs_list->df,plain_max_loop->ut,slot_int_rmul->ì,slot_list_append->ij,slot_list_index->Yc,slot_list_pop->é
open PySem.Heap renaming SameBut->Yx,get?_push_of_some->ψ,get?_push_size->Λ,get?_some_iff->Y7,get?_update_other->db,get?_update_self->KM,lt_size->ω,push->Ì,size_push->xL
open PySem.Heap.DictOf renaming new->Ë
open PySem.Heap.IsSliceOf renaming new->ç
open PySem.IsL renaming update->Ĉ
open PySem.IsRange renaming new->Yp
open PySem.Manifest renaming signature?->ě
open PySem.MeetsSeq renaming list_pop_at->ĕ,list_pop_last->Ĕ
open PySem.NameKind renaming cell->pc,free->Ξ
open PySem.Obj renaming mapSeq->XA
open PySem.Paired renaming length->Ya
open PySem.PassesOwn renaming never->IN
open PySem.SeqAt renaming EqAt->TW
open PySem.SeqAt.EqAt renaming bool_bool->Ø,bool_int->Ù,bool_none->Ö,bool_str->Ú,int_bool->Ü,int_int->Ý,int_none->Û,int_str->Yj,none_bool->Ó,none_int->Ô,none_str->Õ,same->Ò,str_bool->Ā,str_int->Yk,str_none->Þ,str_str->ā
open PySem.Str renaming ofString->ge
open PySem.Value renaming bool->At,builtin->ZL,int->Ο,isInt->â,isStrOf->ZN,none->Tk,ref->FB,str->Op,type->wS
open PySem.W renaming Frag->Β,OpenLaw->Y5,WalkO->Zs,callWith_K->YF,cellsFrom_some->jq,codeIn->Ev,codeRec_of->YG,fnOf->jp,keepIn->sw,methodObj->Tl,mg_of->Zx,nsIn->Da,openGood->ZA
open PySem.W.Hook renaming obs->Os,val->ZM
open PySem.W.RowW renaming records->á
open PySem.W.WData renaming int->Â
open PySem.W.WShape renaming has->ê
open PySem.Walks renaming dictKeys->ZF,list->YY,range->å
open Std renaming Associative->ZS,Commutative->ZT
open Sum renaming inl->wT,inr->XJ
open True renaming intro->Y6
abbrev bh:=@decide_eq_false
abbrev bt:=@of_decide_eq_true
abbrev cm:=@decide_eq_true
abbrev cq:=@if_true
abbrev c9:=@decide_eq_true_eq
abbrev de:=@if_false
abbrev fm:=@congrArg
abbrev fw:=@beq_self_eq_true
abbrev ig:=@or_false
abbrev ja:=@beq_eq_false_iff_ne
section
namespace L2
open PySem PySem.Spec PyProof.Rows
noncomputable def gF (s:Stmt):Arguments:=match s with
 |.FunctionDef _ a _ _ _ _ _ _ _ _=>a
 |_=>{ posonlyargs:=[],args:=[],vararg:=η,kwonlyargs:=[],kw_defaults:=[],kwarg:=η,defaults:=[] }
noncomputable def bB (s:Stmt):List Stmt:=match s with
 |.FunctionDef _ _ b _ _ _ _ _ _ _=>b
 |_=>[]
noncomputable def aI (s:Stmt):Scope:=match s with
 |.FunctionDef _ _ _ _ _ _ sc _ _ _=>sc
 |_=>{ kind:=.function,names:=[],isGenerator:=ε,isCoroutine:=ε }
end L2
end
section
namespace Pc.Hd
open PySem PySem.W L2
noncomputable def sv (x:String)(t:YR):Value:=.str (ge x) t
noncomputable def kv (P:Zi)(x:String)(t:YR)(v:Value):DictEntry:=⟨PyData.keyHash P (ge x),sv x t,v⟩
noncomputable def Cj:Stmt->Str
 |.FunctionDef n ..=>n
 |_=>ge ""
noncomputable def fo (a:Addr)(s:Stmt)(m c:Value):Addr×Obj:=(a,⟨.type "function",η,.func { name:=Cj s,qualname:=Cj s,params:=gF s,body:=.stmts (bB s),scope:=aI s,globals:=bi,closure:=[],defaults:=.none,kwdefaults:=.none,pyModule:=m,code:=c },#[]⟩)
noncomputable def co (a:Addr)(vs:Array Value):Addr×Obj:=(a,⟨.type "code",η,.fields vs,#[]⟩)
noncomputable def tu (a:Addr)(vs:Array Value):Addr×Obj:=(a,⟨.type "tuple",η,.seq vs 0,#[]⟩)
noncomputable def di (a:Addr)(es:Array DictEntry)(n:Nat):Addr×Obj:=(a,⟨.type "dict",η,.dict es n,#[]⟩)
noncomputable def cq (a:Addr)(n q:String)(t1 t2 t3:YR)(l k:Int)(r s:Addr)(x y:Value)(u:Addr)(c:Int)(v:YR):Addr×Obj:=co a #[sv n t1,sv q t2,sv "/claim/cut.py" t3,.int l 0,.int k 0,.int 0 0,.int 0 0,.int 3 0,.ref r,.bool ζ,.int 181 0,.ref s,.none,x,y,.ref u,.int c 0,.int l 0,sv "/claim/cut.py" v]
noncomputable def ec (a:Addr)(n:String)(m u:Addr)(t v:YR):Addr×Obj:=(a,{ cls:=.type "type",data:=.cls { name:=ge n,bases:=[.ref 43],mro:=[.ref a,.ref 43,.type "ValueError",.type "Exception",.type "BaseException",.type "object"],ns:=m,qualname:=ge n },slots:=#[θ (.ref u),η,θ (sv n t),θ (sv n v),θ (.builtin "ValueError.__new__"),θ (.bool ζ)] })
noncomputable def mt (s:Stmt)(i:Nat):Stmt:=match s with
 |.ClassDef _ _ _ b ..=>b.getD i (.Pass ⟨0,0,0,0⟩)
 |s=>s
noncomputable def fm (a:Addr)(s:Stmt)(n q:String)(m c:Value):Addr×Obj:=(a,⟨.type "function",η,.func { name:=ge n,qualname:=ge q,params:=gF s,body:=.stmts (bB s),scope:=aI s,globals:=bi,closure:=[],defaults:=.none,kwdefaults:=.none,pyModule:=m,code:=c },#[]⟩)
noncomputable def kd (P:Zi)(a:Addr)(t1 t2 t3:YR)(l:Int)(t4 t5:YR)(r:Addr)(t6:YR):Addr×Obj:=di a #[kv P "__module__" t1 (sv "patchsquare.errors" t2),kv P "__firstlineno__" t3 (.int l t4),kv P "__static_attributes__" t5 (.ref r),kv P "__doc__" t6 .none] 2
end Pc.Hd
end
section
namespace K23
open PySem PySem.Spec PyProof.Rows L2
noncomputable abbrev st (i:Nat):Stmt:=Δ.main.body.getD i (.Pass ⟨0,0,0,0⟩)
end K23
namespace K23
open PySem PySem.W Pc.Hd
noncomputable def K (P:Zi):Frag:=[(2,{ cls:=Tk,data:=Ç #[] }),
 di 3 #[kv P "__name__" 165 (sv "law_patchsquare_k23_whole_unwrapped" 519),kv P "__doc__" 166 .none,kv P "__package__" 167 .none,kv P "__loader__" 168 (.builtin "__main__.__loader__#opaque"),kv P "__spec__" 169 .none,kv P "__annotations__" 170 (.ref 6),kv P "__builtins__" 171 (.ref 4),kv P "__file__" 173 (sv "/claim/cut.py" 172),kv P "__cached__" 174 .none,kv P "ROOMS" 204 (.ref 15),kv P "BLOCK_COUNTS" 220 (.ref 16),kv P "block_shapes" 235 (.ref 23),kv P "dealt_rows" 241 (.ref 28),kv P "parted_rows" 247 (.ref 33),kv P "SquareError" 267 (.ref 43),kv P "NoInverse" 283 (.ref 56),kv P "NoMend" 308 (.ref 75),kv P "GRAINS" 312 (.int 64 311),kv P "FOLD" 314 (.int 67 313),kv P "times_of" 325 (.ref 84),kv P "inverse_of" 332 (.ref 91),kv P "power_of" 343 (.ref 98),kv P "worth_at" 353 (.ref 105),kv P "row_product" 368 (.ref 112),kv P "row_with_noughts" 377 (.ref 119),kv P "code_noughts" 385 (.ref 124),kv P "checks_for" 399 (.ref 131),kv P "is_code" 405 (.ref 136),kv P "mended_row" 413 (.ref 141),kv P "locator_of" 421 (.ref 148),kv P "suspect_places" 427 (.ref 153),kv P "shortest_rule" 441 (.ref 160),kv P "gap_of_rule" 453 (.ref 167),kv P "scaled_row" 459 (.ref 172),kv P "added_rows" 470 (.ref 179),kv P "changed_row" 476 (.ref 184),kv P "distances_product" 486 (.ref 191),kv P "wrapped_grains" 502 (.ref 198),kv P "unwrapped_grains" 508 (.ref 203),kv P "mended_block" 518 (.ref 210),kv P "_law_whole" 527 (.ref 217),kv P "_law_cell" 535 (.ref 224),kv P "_law_mixed" 544 (.ref 231),kv P "_law_row" 550 (.ref 236),kv P "_law_grains" 559 (.ref 243),kv P "_law_shape" 565 (.ref 248),kv P "_law_spots" 575 (.ref 255),kv P "_law_blocks" 581 (.ref 260),kv P "_law_places" 595 (.ref 267),kv P "_law_counted" 607 (.ref 274),kv P "_law_spoilt" 630 (.ref 281),kv P "_law_long" 640 (.ref 288),kv P "_law_budget" 654 (.ref 295),kv P "_law_spelled" 665 (.ref 302),kv P "_law_spoilt_by_digits" 671 (.ref 307),kv P "law" 677 (.ref 312)] 56,
 di 6 #[] 0,
 di 15 #[{ hash:=15,key:=Ο 15 189,val:=Ο 16 190 },{ hash:=19,key:=Ο 19 191,val:=Ο 37 192 },{ hash:=23,key:=Ο 23 193,val:=Ο 64 194 },{ hash:=27,key:=Ο 27 195,val:=Ο 96 196 },{ hash:=31,key:=Ο 31 197,val:=Ο 133 198 }] 5,
 di 16 #[{ hash:=15,key:=Ο 15 205,val:=Ο 1 206 },{ hash:=19,key:=Ο 19 207,val:=Ο 1 208 },{ hash:=23,key:=Ο 23 209,val:=Ο 2 210 },{ hash:=27,key:=Ο 27 211,val:=Ο 2 212 },{ hash:=31,key:=Ο 31 213,val:=Ο 3 214 }] 5,
 cq 22 "block_shapes" "block_shapes" 221 222 223 4 2 17 18 (.ref 19) (.ref 20) 21 233 234,
 fo 23 (st 3) (sv "patchsquare.blocks" 187) (.ref 22),
 cq 27 "dealt_rows" "dealt_rows" 236 237 238 14 1 24 25 .none .none 26 239 240,
 fo 28 (st 4) (sv "patchsquare.blocks" 187) (.ref 27),
 cq 32 "parted_rows" "parted_rows" 242 243 244 21 2 29 30 .none .none 31 245 246,
 fo 33 (st 5) (sv "patchsquare.blocks" 187) (.ref 32),
 tu 34 #[(.type "ValueError")],
 tu 41 #[],
 di 42 #[kv P "__module__" 257 (sv "patchsquare.errors" 248),kv P "__firstlineno__" 261 (.int 31 260),kv P "__static_attributes__" 262 (.ref 41),kv P "__weakref__" 264 (.ref 44),kv P "__doc__" 265 .none] 3,
 (43,{ cls:=wS "type",data:=Data.cls { name:=ge "SquareError",bases:=[wS "ValueError"],mro:=[FB 43,wS "ValueError",wS "Exception",wS "BaseException",wS "object"],ns:=42,qualname:=ge "SquareError",subclasses:=[FB 56,FB 75] },slots:=#[θ (FB 34),η,θ (Op (ge "SquareError") 250),θ (Op (ge "SquareError") 258),θ (ZL "ValueError.__new__"),θ (At ζ)] }),
 (44,{ cls:=wS "getset_descriptor",data:=ñ #[Op (ge "__weakref__") 263,FB 43,ZL "ExceptionGroup.__weakref__",Tk] }),
 tu 47 #[(.ref 43)],
 tu 54 #[],
 kd P 55 275 248 279 33 278 280 54 281,
 ec 56 "NoInverse" 55 47 268 276,
 tu 59 #[(.ref 43)],
 cq 71 "__init__" "NoMend.__init__" 296 297 298 37 2 66 67 (.ref 68) (.ref 69) 70 301 302,
 fm 72 (mt (st 9) 0) "__init__" "NoMend.__init__" (sv "patchsquare.errors" 248) (.ref 71),
 tu 73 #[(sv "block" 304)],
 di 74 #[kv P "__module__" 291 (sv "patchsquare.errors" 248),kv P "__firstlineno__" 295 (.int 35 294),kv P "__init__" 303 (.ref 72),kv P "__static_attributes__" 305 (.ref 73),kv P "__doc__" 306 .none] 2,
 ec 75 "NoMend" 74 59 284 292,
 cq 83 "times_of" "times_of" 315 316 317 43 2 78 79 (.ref 80) (.ref 81) 82 323 324,
 fo 84 (st 13) (sv "patchsquare.field" 309) (.ref 83),
 cq 90 "inverse_of" "inverse_of" 326 327 328 55 1 85 86 (.ref 87) (.ref 88) 89 330 331,
 fo 91 (st 14) (sv "patchsquare.field" 309) (.ref 90),
 cq 97 "power_of" "power_of" 333 334 335 59 2 92 93 (.ref 94) (.ref 95) 96 341 342,
 fo 98 (st 15) (sv "patchsquare.field" 309) (.ref 97),
 cq 104 "worth_at" "worth_at" 344 345 346 69 2 99 100 (.ref 101) (.ref 102) 103 351 352,
 fo 105 (st 16) (sv "patchsquare.field" 309) (.ref 104),
 cq 111 "row_product" "row_product" 356 357 358 75 2 106 107 (.ref 108) (.ref 109) 110 366 367,
 fo 112 (st 18) (sv "patchsquare.rows" 354) (.ref 111),
 cq 118 "row_with_noughts" "row_with_noughts" 369 370 371 81 1 113 114 (.ref 115) (.ref 116) 117 375 376,
 fo 119 (st 19) (sv "patchsquare.rows" 354) (.ref 118),
 cq 123 "code_noughts" "code_noughts" 380 381 382 87 1 120 121 .none .none 122 383 384,
 fo 124 (st 21) (sv "patchsquare.checks" 378) (.ref 123),
 cq 130 "checks_for" "checks_for" 386 387 388 89 2 125 126 (.ref 127) (.ref 128) 129 397 398,
 fo 131 (st 22) (sv "patchsquare.checks" 378) (.ref 130),
 cq 135 "is_code" "is_code" 400 401 402 97 2 132 133 .none .none 134 403 404,
 fo 136 (st 23) (sv "patchsquare.checks" 378) (.ref 135),
 cq 140 "mended_row" "mended_row" 408 409 410 100 3 137 138 .none .none 139 411 412,
 fo 141 (st 25) (sv "patchsquare.mending" 406) (.ref 140),
 cq 147 "locator_of" "locator_of" 414 415 416 110 2 142 143 (.ref 144) (.ref 145) 146 419 420,
 fo 148 (st 26) (sv "patchsquare.mending" 406) (.ref 147),
 cq 152 "suspect_places" "suspect_places" 422 423 424 112 3 149 150 .none .none 151 425 426,
 fo 153 (st 27) (sv "patchsquare.mending" 406) (.ref 152),
 cq 159 "shortest_rule" "shortest_rule" 428 429 430 118 1 154 155 (.ref 156) (.ref 157) 158 439 440,
 fo 160 (st 28) (sv "patchsquare.mending" 406) (.ref 159),
 cq 166 "gap_of_rule" "gap_of_rule" 442 443 444 135 3 161 162 (.ref 163) (.ref 164) 165 451 452,
 fo 167 (st 29) (sv "patchsquare.mending" 406) (.ref 166),
 cq 171 "scaled_row" "scaled_row" 454 455 456 140 2 168 169 .none .none 170 457 458,
 fo 172 (st 30) (sv "patchsquare.mending" 406) (.ref 171),
 cq 178 "added_rows" "added_rows" 460 461 462 142 2 173 174 (.ref 175) (.ref 176) 177 468 469,
 fo 179 (st 31) (sv "patchsquare.mending" 406) (.ref 178),
 cq 183 "changed_row" "changed_row" 471 472 473 147 3 180 181 .none .none 182 474 475,
 fo 184 (st 32) (sv "patchsquare.mending" 406) (.ref 183),
 cq 190 "distances_product" "distances_product" 477 478 479 155 2 185 186 (.ref 187) (.ref 188) 189 484 485,
 fo 191 (st 33) (sv "patchsquare.mending" 406) (.ref 190),
 cq 197 "wrapped_grains" "wrapped_grains" 489 490 491 162 3 192 193 (.ref 194) (.ref 195) 196 500 501,
 fo 198 (st 35) (sv "patchsquare.wrapping" 487) (.ref 197),
 cq 202 "unwrapped_grains" "unwrapped_grains" 503 504 505 170 4 199 200 .none .none 201 506 507,
 fo 203 (st 36) (sv "patchsquare.wrapping" 487) (.ref 202),
 cq 209 "mended_block" "mended_block" 509 510 511 183 4 204 205 (.ref 206) (.ref 207) 208 516 517,
 fo 210 (st 37) (sv "patchsquare.wrapping" 487) (.ref 209),
 cq 216 "_law_whole" "_law_whole" 521 522 523 189 1 211 212 (.ref 213) (.ref 214) 215 525 526,
 fo 217 (st 39) (sv "law_patchsquare_k23_whole_unwrapped" 519) (.ref 216),
 cq 223 "_law_cell" "_law_cell" 528 529 530 191 2 218 219 (.ref 220) (.ref 221) 222 533 534,
 fo 224 (st 40) (sv "law_patchsquare_k23_whole_unwrapped" 519) (.ref 223),
 cq 230 "_law_mixed" "_law_mixed" 536 537 538 195 2 225 226 (.ref 227) (.ref 228) 229 542 543,
 fo 231 (st 41) (sv "law_patchsquare_k23_whole_unwrapped" 519) (.ref 230),
 cq 235 "_law_row" "_law_row" 545 546 547 198 2 232 233 .none .none 234 548 549,
 fo 236 (st 42) (sv "law_patchsquare_k23_whole_unwrapped" 519) (.ref 235),
 cq 242 "_law_grains" "_law_grains" 551 552 553 203 2 237 238 (.ref 239) (.ref 240) 241 557 558,
 fo 243 (st 43) (sv "law_patchsquare_k23_whole_unwrapped" 519) (.ref 242),
 cq 247 "_law_shape" "_law_shape" 560 561 562 210 1 244 245 .none .none 246 563 564,
 fo 248 (st 44) (sv "law_patchsquare_k23_whole_unwrapped" 519) (.ref 247),
 cq 254 "_law_spots" "_law_spots" 566 567 568 220 1 249 250 (.ref 251) (.ref 252) 253 573 574,
 fo 255 (st 45) (sv "law_patchsquare_k23_whole_unwrapped" 519) (.ref 254),
 cq 259 "_law_blocks" "_law_blocks" 576 577 578 227 2 256 257 .none .none 258 579 580,
 fo 260 (st 46) (sv "law_patchsquare_k23_whole_unwrapped" 519) (.ref 259),
 cq 266 "_law_places" "_law_places" 582 583 584 233 4 261 262 (.ref 263) (.ref 264) 265 593 594,
 fo 267 (st 47) (sv "law_patchsquare_k23_whole_unwrapped" 519) (.ref 266),
 cq 273 "_law_counted" "_law_counted" 596 597 598 240 3 268 269 (.ref 270) (.ref 271) 272 605 606,
 fo 274 (st 48) (sv "law_patchsquare_k23_whole_unwrapped" 519) (.ref 273),
 cq 280 "_law_spoilt" "_law_spoilt" 608 609 610 247 5 275 276 (.ref 277) (.ref 278) 279 628 629,
 fo 281 (st 49) (sv "law_patchsquare_k23_whole_unwrapped" 519) (.ref 280),
 cq 287 "_law_long" "_law_long" 631 632 633 266 2 282 283 (.ref 284) (.ref 285) 286 638 639,
 fo 288 (st 50) (sv "law_patchsquare_k23_whole_unwrapped" 519) (.ref 287),
 cq 294 "_law_budget" "_law_budget" 641 642 643 272 3 289 290 (.ref 291) (.ref 292) 293 652 653,
 fo 295 (st 51) (sv "law_patchsquare_k23_whole_unwrapped" 519) (.ref 294),
 cq 301 "_law_spelled" "_law_spelled" 655 656 657 283 2 296 297 (.ref 298) (.ref 299) 300 663 664,
 fo 302 (st 52) (sv "law_patchsquare_k23_whole_unwrapped" 519) (.ref 301),
 cq 306 "_law_spoilt_by_digits" "_law_spoilt_by_digits" 666 667 668 292 5 303 304 .none .none 305 669 670,
 fo 307 (st 53) (sv "law_patchsquare_k23_whole_unwrapped" 519) (.ref 306),
 cq 311 "law" "law" 672 673 674 307 1 308 309 .none .none 310 675 676,
 fo 312 (st 54) (sv "law_patchsquare_k23_whole_unwrapped" 519) (.ref 311)]
noncomputable def as:List Addr:=[2,3,6,15,16,22,23,27,28,32,33,34,41,42,43,44,47,54,55,56,59,71,72,73,74,75,83,84,90,91,97,98,104,105,111,112,118,119,123,124,130,131,135,136,140,141,147,148,152,153,159,160,166,167,171,172,178,179,183,184,190,191,197,198,202,203,209,210,216,217,223,224,230,231,235,236,242,243,247,248,254,255,259,260,266,267,273,274,280,281,287,288,294,295,301,302,306,307,311,312]
noncomputable def Q:Program:={ Δ with main:={ Δ.main with body:=[st 1,st 2,st 3,st 4,st 5,st 7,st 8,st 9,st 11,st 12,st 13,st 14,st 15,st 16,st 18,st 19,st 21,st 22,st 23,st 25,st 26,st 27,st 28,st 29,st 30,st 31,st 32,st 33,st 35,st 36,st 37,st 39,st 40,st 41,st 42,st 43,st 44,st 45,st 46,st 47,st 48,st 49,st 50,st 51,st 52,st 53,st 54] } }
noncomputable def H:Hook:=kHook K as (λ_=>rfl)
open PyProof.Rows
theorem Wo {α β γ:Type}{o:Option α}{f:α->β×γ}{a:β×γ}(h:o.map (λs=>(f s).1)=θ a.1)(h':o.map (λs=>(f s).2)=θ a.2):o.map f=θ a:=by
 cases o with
 |none=>cases h
 |some s=>exact congrArg θ (Prod.ext (eo h) (eo h'))
theorem Q4 {α β γ δ:Type}{o:Option δ}{t:δ->Option α}{f:α->β×γ}{a:β×γ}(h:o.map (λx=>(t x).map (λs=>(f s).1))=θ (θ a.1))(h':o.map (λx=>(t x).map (λs=>(f s).2))=θ (θ a.2)):o.map (λx=>(t x).map f)=θ (θ a):=by
 cases o with
 |none=>cases h
 |some s=>exact congrArg θ (Wo (eo h) (eo h'))
abbrev Pj (w:Ν):=fencedOpening treeTable Δ w 4358
abbrev Oe (b:Bool) (w:Ν):=topFrom treeTable Δ (w.withFollow "special-get-raises" b) 4358
noncomputable abbrev Og (s:ρ):=openSeen Q ["ROOMS","BLOCK_COUNTS"] (importedModules Δ.main.body) (λs=>xlAt K23.Q [] s&&recOk (á io.row.toRowW) s) ζ s
theorem leA (w:Ν):(Pj w).map (λx=>(Oe ε w x).map (λs=>(Og s).1))=θ (θ (ZA Q ["ROOMS","BLOCK_COUNTS"]).1):=by kernel_rfl
theorem leB (w:Ν):(Pj w).map (λx=>(Oe ε w x).map (λs=>(Og s).2))=θ (θ (ZA Q ["ROOMS","BLOCK_COUNTS"]).2):=by kernel_rfl
theorem leC (w:Ν):(Pj w).map (λx=>(Oe ε w x).map (Os H))=θ (θ (ZM H (w.withFollow "special-get-raises" ε))):=by kernel_rfl
theorem leE (w:Ν):(Pj w).map (λx=>(Oe ζ w x).map (λs=>(Og s).1))=θ (θ (ZA Q ["ROOMS","BLOCK_COUNTS"]).1):=by kernel_rfl
theorem leF (w:Ν):(Pj w).map (λx=>(Oe ζ w x).map (λs=>(Og s).2))=θ (θ (ZA Q ["ROOMS","BLOCK_COUNTS"]).2):=by kernel_rfl
theorem leG (w:Ν):(Pj w).map (λx=>(Oe ζ w x).map (Os H))=θ (θ (ZM H (w.withFollow "special-get-raises" ζ))):=by kernel_rfl
theorem left:LeftO Δ Q ["ROOMS","BLOCK_COUNTS"] (λs=>xlAt K23.Q [] s&&recOk (á io.row.toRowW) s) (Os H) (ZM H) 4358:=LeftO.of_split "special-get-raises" λw=>Wo (f:=λx=>((Oe ε w x).map (λs=>(Og s,Os H s)),(Oe ζ w x).map (λs=>(Og s,Os H s)))) (Q4 (f:=λs=>(Og s,Os H s)) (Q4 (leA w) (leB w)) (leC w)) (Q4 (f:=λs=>(Og s,Os H s)) (Q4 (leE w) (leF w)) (leG w))
end K23
end
section
namespace L2
open PySem PySem.Spec PyProof.Rows
noncomputable abbrev Key:=Sum Int Str
noncomputable def pD:Key->Value->Bool
 |.inl k,v=>â k v
 |.inr x,v=>ZN x v
noncomputable def SH (w:Ν):Key->Int
 |.inl k=>hashInt k
 |.inr x=>hashStr w x
theorem cF:∀{k:Key}{v:Value},pD k v=ζ->(∃i t,k=wT i/\v=Ο i t)\/(∃x t,k=XJ x/\v=Op x t)
 |.inl i,v,h=>by
  obtain⟨t,e⟩:=Value.isInt_shape (k:=i) (v:=v) h;exact .inl ⟨i,t,rfl,e⟩
 |.inr x,v,h=>by
  obtain⟨t,e⟩:=Value.isStrOf_shape (x:=x) (v:=v) h;exact .inr ⟨x,t,rfl,e⟩
theorem yD (i:Int)(t:YR):pD (.inl i) (.int i t)=ζ:=by simp[pD,â]
theorem y4 (x:Str)(t:YR):pD (.inr x) (.str x t)=ζ:=by simp[pD,ZN]
theorem HJ (a b:Int):decide ((wT a:Key)=wT b)=(a==b):=by
 by_cases e:a=b
 .subst e;simp
 .have h:¬ (wT a:Key)=wT b:=λq=>e (Sum.inl.inj q)
  rw[bh h];exact (ja.mpr e).symm
theorem Gg (a b:Str):decide ((XJ a:Key)=XJ b)=decide (a=b):=by
 by_cases e:a=b
 .subst e;simp
 .have h:¬ (XJ a:Key)=XJ b:=λq=>e (Sum.inr.inj q)
  rw[bh h,bh e]
theorem HP (a:Int)(b:Str):decide ((wT a:Key)=XJ b)=ε:=bh (λq=>nomatch q)
theorem GZ (a:Str)(b:Int):decide ((XJ a:Key)=wT b)=ε:=bh (λq=>nomatch q)
noncomputable def bS (prog:Program)(w:Ν):PySem.KeyKind prog w Key where
 is:=pD
 hash:=SH w
 inj:=λv a b ha hb=>by
  rcases cF ha with ⟨i,t,rfl,rfl⟩|⟨x,t,rfl,rfl⟩
  .rcases cF hb with ⟨j,u,rfl,e⟩|⟨y,u,rfl,e⟩
   .injection e with e1 _;rw[e1]
   .exact nomatch e
  .rcases cF hb with ⟨j,u,rfl,e⟩|⟨y,u,rfl,e⟩
   .exact nomatch e
   .injection e with e1 _;rw[e1]
 byValue:=λk v h=>by
  rcases cF h with ⟨i,t,rfl,rfl⟩|⟨x,t,rfl,rfl⟩<;>rfl
 pyHash:=λhv h=>by
  rcases cF hv with ⟨i,t,rfl,rfl⟩|⟨x,t,rfl,rfl⟩
  .exact wpAny_pyHash_int h
  .exact wpAny_pyHash_str h
 eqBool:=λhu hv h=>by
  rcases cF hu with ⟨i,t,rfl,rfl⟩|⟨x,t,rfl,rfl⟩
  .rcases cF hv with ⟨j,u,rfl,rfl⟩|⟨y,u,rfl,rfl⟩
   .rw[HJ] at h;exact wpAny_eqBool_int h
   .rw[HP] at h;exact Yj i t y u _ _ _ _ h
  .rcases cF hv with ⟨j,u,rfl,rfl⟩|⟨y,u,rfl,rfl⟩
   .rw[GZ] at h;exact Yk x t j u _ _ _ _ h
   .rw[Gg] at h;exact wpAny_eqBool_str h
 «strs»:=λk x t v h=>by
  rcases cF h with ⟨i,u,rfl,e⟩|⟨y,u,rfl,e⟩
  .exact nomatch e
  .injection e with e1 _
   subst e1;cases v<;>rfl
theorem iD (prog:Program)(w:Ν)(i:Int)(t:YR):(bS prog w).is (.inl i) (.int i t)=ζ:=yD i t
theorem uo (prog:Program)(w:Ν)(x:Str)(t:YR):(bS prog w).is (.inr x) (.str x t)=ζ:=y4 x t
end L2
namespace L2
open PySem PySem.Spec PyProof.Rows
inductive V where
 |Lj|bl (b:Bool)|int (i:Int)|str (x:Str)|QC (b:Array UInt8)|T5 (b:UInt64)|ref (a:Addr)|ty (n:String)
 deriving DecidableEq
noncomputable def RelV:V->Value->Prop
 |.Lj,u=>u=Tk
 |.bl b,u=>u=At b
 |.int i,u=>∃t,u=Ο i t
 |.str x,u=>∃t,u=Op x t
 |.QC b,u=>∃t,u=Value.bytes b t
 |.T5 b,u=>∃t,u=Value.float b t
 |.ref a,u=>u=FB a
 |.ty n,u=>u=wS n
noncomputable abbrev aT:List V->List Value->Prop:=ZX RelV
theorem aT.length {xs:List V}{us:List Value}(r:aT xs us):xs.length=us.length:=Ya r
theorem aT.get:∀{xs:List V}{us:List Value}{i:Nat}{x:V},aT xs us->xs[i]? = θ x->∃u,us[i]? = θ u/\RelV x u
 |_,_,_,_,.nil,e=>by simp at e
 |_,_,0,_,.cons r _,e=>by simp at e;subst e;exact⟨_,rfl,r⟩
 |_,_,i+1,x,.cons _ t,e=>by
  obtain⟨u,h1,h2⟩:=aT.get (i:=i) (x:=x) t (by simpa using e);exact⟨u,by simpa using h1,h2⟩
theorem aT.set {x:V}{u:Value}(r:RelV x u):∀{xs:List V}{us:List Value}(i:Nat),aT xs us->aT (xs.set i x) (us.set i u)
 |_,_,_,.nil=>.nil
 |_,_,0,.cons _ t=>.cons r t
 |_,_,i+1,.cons q t=>.cons q (aT.set r i t)
theorem aT.append:∀{xs ys:List V}{us ws:List Value},aT xs us->aT ys ws->aT (xs++ys) (us++ws)
 |_,_,_,_,.nil,s=>s
 |_,_,_,_,.cons r t,s=>.cons r (aT.append t s)
theorem aT.take:∀{xs:List V}{us:List Value}(n:Nat),aT xs us->aT (xs.take n) (us.take n)
 |_,_,0,_=>.nil
 |_,_,_+1,.nil=>.nil
 |_,_,n+1,.cons r t=>.cons r (aT.take n t)
theorem aT.drop:∀{xs:List V}{us:List Value}(n:Nat),aT xs us->aT (xs.drop n) (us.drop n)
 |_,_,0,r=>r
 |_,_,_+1,.nil=>.nil
 |_,_,n+1,.cons _ t=>aT.drop n t
noncomputable def BD:Option V->Option Value->Prop
 |some v,θ u=>RelV v u
 |none,η=>True
 |_,_=>False
def KV {κ:Type}:List (κ×V)->List (κ×Value)->Prop:=ZX λ(p:κ×V) (q:κ×Value)=>p.1=q.1/\RelV p.2 q.2
noncomputable def kV:Key->V
 |.inl i=>.int i
 |.inr x=>.str x
inductive HO where
 |lst (xs:List V)
 |tup (xs:List V)
 |dK (kvs:List (Key×V))|dT (kvs:List (List Key×V))
 |set (S:Int->Bool) (n:Nat)
 |ins (C dx:Addr) (fs:List (Str×V))
 |own (x:Addr)
 |xd (fs:List (Str×V))
 |met (f x:Addr)
 |QQ (lo hi:Int)
 |L4 (o:Obj) (u:HO)
 |Of (ps:Array Value)
 |ext (φ:Heap->Prop)
noncomputable abbrev Hp:=Addr->Option HO
noncomputable def upd (H:Hp)(a:Addr)(o:HO):Hp:=λb=>if b=a then θ o else H b
variable {H:Hp}{a:Addr}{o:HO}
theorem bH:upd H a o a=θ o:=by unfold upd;rw[if_pos rfl]
variable {b:Addr}
theorem aQ (h:b≠a):upd H a o b=H b:=by unfold upd;rw[if_neg h]
theorem cR (h:H a=θ o)(h':H b=η):a≠b:=by
 intro e;subst e;rw[h] at h';cases h'
section
variable (P:Program)(w:Ν)
noncomputable def dI (H:Hp)(h:Heap)(a:Addr):HO->Prop
 |.lst xs=>xs.length<=sizeLine/\∃(its:List Value) (n:Nat),aT xs its/\h.get? a=θ { cls:=.type "list",data:=.seq its.toArray n }
 |.tup xs=>xs.length<=sizeLine/\∃its:List Value,aT xs its/\IsTup h a its.toArray
 |.dK kvs=>kvs.length<=sizeLine/\(a==Db)=ε/\∃vs,KV kvs vs/\h.DictOf (bS P w) a vs
 |.dT kvs=>kvs.length<=sizeLine/\(a==Db)=ε/\∃xs:List (List Key×Addr×Value),
   ZX (λ(p:List Key×V) (q:List Key×Addr×Value)=>p.1=q.1/\H q.2.1=θ (.tup (p.1.map kV))/\RelV p.2 q.2.2) kvs xs /\
   ∃o es ep,h.get? a=θ o/\o.ExactDict/\o.data=.dict es ep/\es.toList=xs.map (entryOfKey (tupleKind (bS P w)))/\(xs.map (·.1)).Nodup
 |.set S n=>h.SetOf (intKind P w) a S n
 |.ins C dx fs=>H dx=θ (.own a)/\fs.length<=1000/\dx≠a/\h.get? a=θ (PySem.W.instObj C dx) /\
   ∃mA,h.Ns1 dx mA/\(∀f,BD (fs.lookup f) (mA f))/\PySem.Within mA (fs.map (·.1))
 |.own _=>∃o,h.get? a=θ o
 |.xd fs=>∃mA,h.Ns1 a mA/\∀f,BD (fs.lookup f) (mA f)
 |.QQ lo hi=>∃t u v,h.get? a=θ { cls:=.type "range",data:=.fields #[.int lo t,.int hi u,.int 1 v] }
 |.L4 o u=>h.get? a=θ o/\dI H h a u
 |.Of ps=>h.get? a=θ { cls:=.none,data:=.fields ps }
 |.met f x=>h.get? a=θ (Tl (.ref f) (.ref x))
 |.ext φ=>φ h/\(∃o,h.get? a=θ o)/\∀h1 h2:Heap,φ h1->(∀o,h1.get? a=θ o->h2.get? a=θ o)->φ h2
def nJ (H:Hp)(h:Heap):Prop:=∀a o,H a=θ o->dI P w H h a o
end
section
variable {P:Program}{w:Ν}{H H':Hp}{h h':Heap}{a:Addr}{o:HO}
theorem dI.lt (x:dI P w H h a o):a<h.objs.size:=by
 cases o with
 |lst xs=>obtain⟨_,_,_,_,e⟩:=x;exact ω e
 |tup xs=>obtain⟨_,_,_,p⟩:=x;exact p.lt
 |dK kvs=>obtain⟨_,_,_,_,o,_,_,e,_⟩:=x;exact ω e
 |dT kvs=>obtain⟨_,_,_,_,o,_,_,e,_⟩:=x;exact ω e
 |set S n=>obtain⟨o,_,_,_,e,_⟩:=x;exact ω e
 |ins C dx fs=>obtain⟨_,_,_,e,_⟩:=x;exact ω e
 |own y=>obtain⟨_,e⟩:=x;exact ω e
 |xd fs=>obtain⟨_,⟨_,_,_,e,_⟩,_⟩:=x;exact ω e
 |QQ lo hi=>obtain⟨_,_,_,e⟩:=x;exact ω e
 |L4 ob u=>obtain⟨e,_⟩:=x;exact ω e
 |Of ps=>exact ω (show h.get? a=θ _ from x)
 |met f y=>exact ω (show h.get? a=θ _ from x)
 |ext φ=>obtain⟨_,⟨_,e⟩,_⟩:=x;exact ω e
theorem Paired.PX {α β:Type}{F G:α->β->Prop}:∀{l₁:List α}{l₂:List β},ZX F l₁ l₂->(∀a b,F a b->G a b)->ZX G l₁ l₂
 |_,_,.nil,_=>.nil
 |_,_,.cons r t,f=>.cons (f _ _ r) (Paired.PX t f)
theorem dI.ME (x:dI P w H h a o)(k:∀b u,(b=a\/H b=θ (.own a))->h.get? b=θ u->h'.get? b=θ u)
  (ho:∀b,H b=θ (.own a)->H' b=θ (.own a)) (ht:∀b xs,H b=θ (.tup xs)->H' b=θ (.tup xs)):dI P w H' h' a o:=by
 induction o with
 |lst xs=>obtain⟨z,its,n,r,e⟩:=x;exact⟨z,its,n,r,k _ _ (.inl rfl) e⟩
 |tup xs=>obtain⟨z,its,r,ob,e,c⟩:=x;exact⟨z,its,r,ob,k _ _ (.inl rfl) e,c⟩
 |dK kvs=>obtain⟨z,y,vs,r,ob,es,ep,e,c⟩:=x;exact⟨z,y,vs,r,ob,es,ep,k _ _ (.inl rfl) e,c⟩
 |dT kvs=>
  obtain⟨z,y,xs,r,ob,es,ep,e,c⟩:=x;exact⟨z,y,xs,Paired.PX r λp q z=>⟨z.1,ht _ _ z.2.1,z.2.2⟩,ob,es,ep,k _ _ (.inl rfl) e,c⟩
 |set S n=>obtain⟨ob,es,ep,t,e,c⟩:=x;exact⟨ob,es,ep,t,k _ _ (.inl rfl) e,c⟩
 |ins C dx fs=>
  obtain⟨d,z,ne,e,mA,⟨od,es,ep,e2,c⟩,r⟩:=x;exact⟨ho _ d,z,ne,k _ _ (.inl rfl) e,mA,⟨od,es,ep,k _ _ (.inr d) e2,c⟩,r⟩
 |own y=>obtain⟨ob,e⟩:=x;exact⟨ob,k _ _ (.inl rfl) e⟩
 |xd fs=>obtain⟨mA,⟨od,es,ep,e,c⟩,r⟩:=x;exact⟨mA,⟨od,es,ep,k _ _ (.inl rfl) e,c⟩,r⟩
 |QQ lo hi=>obtain⟨t,u,v,e⟩:=x;exact⟨t,u,v,k _ _ (.inl rfl) e⟩
 |L4 ob u ih=>obtain⟨e,q⟩:=x;exact⟨k _ _ (.inl rfl) e,ih q⟩
 |Of ps=>
  have e:h.get? a=θ { cls:=.none,data:=.fields ps }:=x;show h'.get? a=θ { cls:=.none,data:=.fields ps };exact k a _ (.inl rfl) e
 |met f y=>
  have e:h.get? a=θ (Tl (.ref f) (.ref y)):=x;show h'.get? a=θ (Tl (.ref f) (.ref y));exact k a _ (.inl rfl) e
 |ext φ=>obtain⟨p,⟨o,e⟩,st⟩:=x;exact⟨st _ _ p λo q=>k _ _ (.inl rfl) q,⟨o,k _ _ (.inl rfl) e⟩,st⟩
theorem nJ.lt (x:nJ P w H h)(e:H a=θ o):a<h.objs.size:=(x a o e).lt
theorem nJ.fresh (x:nJ P w H h)(e:h.objs.size<=a):H a=η:=by
 cases q:H a with
 |none=>rfl
 |some u=>exact absurd (ay (x.lt q) e) (fq _)
theorem nJ.kept (x:nJ P w H h)(k:∀b u,h.get? b=θ u->h'.get? b=θ u):nJ P w H h':=λa o e=>
 (x a o e).ME (λb u _ q=>k b u q) (λ_ q=>q) λ_ _ q=>q
theorem nJ.laid (x:nJ P w H h)(k:∀b u,h.get? b=θ u->h'.get? b=θ u)(hp:h.objs.size<=a)(new:dI P w (upd H a o) h' a o):nJ P w (upd H a o) h':=λb u e=>by
 have hn:=x.fresh hp;by_cases hb:b=a
 .subst hb;rw[bH] at e;cases e;exact new
 .rw[aQ hb] at e;exact (x b u e).ME (λc v _ q=>k c v q) (λc q=>by rw[aQ (cR q hn)];exact q) λc xs q=>by rw[aQ (cR q hn)];exact q
end
def Rd (H:Hp)(a:Addr)(u:HO):Prop:=H a=θ u\/∃o,H a=θ (.L4 o u)
variable {h:Heap}
theorem Rd.ok {P:Program}{w:Ν}{u:HO}(r:Rd H a u)(x:nJ P w H h):dI P w H h a u:=by
 rcases r with r|⟨o,r⟩
 .exact x a u r
 .obtain⟨_,q⟩:=x a _ r;exact q
noncomputable def sj:Option HO->Prop
 |some (.lst _)=>True
 |some (.dK _)=>True
 |some (.dT _)=>True
 |some (.set _ _)=>True
 |some (.ins _ _ _)=>True
 |some (.ext _)=>True
 |_=>False
section
variable {P:Program}{w:Ν}{H:Hp}{h h':Heap}{x e:Addr}{o':HO}
theorem nJ.write (ok:nJ P w H h)(mu:sj (H x))(he:e=x\/H e=θ (.own x))(k:∀b u,b≠e->h.get? b=θ u->h'.get? b=θ u)(Po:∃u,h'.get? e=θ u)
  (new:dI P w (upd H x o') h' x o'):nJ P w (upd H x o') h':=λb u q=>by
 have PL:∀c y,H c=θ (.own y)->c≠x:=λc y r z=>by subst z;rw[r] at mu;exact mu
 have Sn:∀c xs,H c=θ (.tup xs)->c≠x:=λc xs r z=>by subst z;rw[r] at mu;exact mu
 by_cases hb:b=x
 .subst hb;rw[bH] at q;cases q;exact new
 .rw[aQ hb] at q;by_cases O3:b=e
  .have q':H b=θ (.own x):=by
    rcases he with z|z
    .exact absurd (O3.trans z) hb
    .rw[O3];exact z
   rw[q] at q';cases q';obtain⟨v,hv⟩:=Po;exact⟨v,by rw[O3];exact hv⟩
  .refine (ok b u q).ME (λc v hc r=>k c v ?_ r) (λc r=>by rw[aQ (PL c b r)];exact r) λc xs r=>by rw[aQ (Sn c xs r)];exact r
   rcases hc with rfl|hc
   .exact O3
   .rintro rfl;rcases he with z|z
    .exact PL c b hc z
    .rw[hc] at z;cases z;exact hb rfl
end
structure Un (fs ex:List Addr)(H H':Hp)(h h':Heap):Prop where
 keep:∀b o,h.get? b=θ o->H b=η->b∉fs->b∉ex->h'.get? b=θ o
 slot:∀b o,h.get? b=θ o->H b=η->b∈fs->b∉ex->∃sl,h'.get? b=θ { o with slots:=sl }
 free:∀b o,h.get? b=θ o->H b=η->b∉ex->H' b=η
 there:∀b o,h.get? b=θ o->b∉ex->∃o',h'.get? b=θ o'
 Mr:∀b xs,H b=θ (.tup xs)->H' b=θ (.tup xs)
 Ml:∀b o u,H b=θ (.L4 o u)->H' b=θ (.L4 o u)
 Mt:∀b ps,H b=θ (.Of ps)->∃more,H' b=θ (.Of (ps++more))
section
variable {fs T4 ex ex':List Addr}{H H1 H2:Hp}{h h1 h2 h':Heap}{a x e:Addr}{o:HO}
theorem Un.any (u:Un fs ex H H1 h h1){ob:Obj}(q:h.get? b=θ ob)(n:H b=η)(hx:b∉ex):∃sl,h1.get? b=θ { ob with slots:=sl }:=by
 by_cases hb:b∈fs
 .exact u.slot b ob q n hb hx
 .exact⟨ob.slots,u.keep b ob q n hb hx⟩
theorem Un.kept (k:∀b u,h.get? b=θ u->h'.get? b=θ u):Un fs ex H H h h' :=
 ⟨λb ob q _ _ _=>k b ob q,λb ob q _ _ _=>⟨ob.slots,k b ob q⟩,λ_ _ _ n _=>n,λb ob q _=>⟨ob,k b ob q⟩,λ_ _ q=>q,λ_ _ _ q=>q,λ_ ps q=>⟨#[],by rw[q];simp⟩⟩
theorem Un.refl:Un fs ex H H h h:=Un.kept λ_ _ q=>q
theorem Un.laid (k:∀b u,h.get? b=θ u->h'.get? b=θ u)(hp:h.objs.size<=a)(hn:H a=η):Un fs ex H (upd H a o) h h' where
 keep:=λb u q _ _ _=>k b u q
 slot:=λb u q _ _ _=>⟨u.slots,k b u q⟩
 free:=λb u q n _=>by rw[aQ (bz (ay (ω q) hp))];exact n
 there:=λb u q _=>⟨u,k b u q⟩
 Mr:=λb xs q=>by rw[aQ (cR q hn)];exact q
 Ml:=λb u xs q=>by rw[aQ (cR q hn)];exact q
 Mt:=λb ps q=>⟨#[],by rw[aQ (cR q hn),q];simp⟩
theorem Un.write (mu:sj (H x))(he:e=x\/H e=θ (.own x))(k:∀b u,b≠e->h.get? b=θ u->h'.get? b=θ u)(Po:∃u,h'.get? e=θ u):Un fs ex H (upd H x o) h h':=by
 have hx:∀b,H b=η->b≠x:=λb n z=>by subst z;rw[n] at mu;exact mu
 have hb:∀b,H b=η->b≠e:=λb n z=>by
  subst z;rcases he with r|r
  .exact hx b n r
  .rw[n] at r;cases r
 have hm:∀b u,H b=θ u->¬ sj (θ u)->b≠x:=λb u q nm z=>by subst z;rw[q] at mu;exact nm mu
 refine⟨λb u q n _ _=>k b u (hb b n) q,λb u q n _ _=>⟨u.slots,k b u (hb b n) q⟩,λb u q n _=>by rw[aQ (hx b n)];exact n,λb u q _=>?_,
  λb xs q=>by rw[aQ (hm b _ q λz=>z)];exact q,λb u xs q=>by rw[aQ (hm b _ q λz=>z)];exact q,λb ps q=>⟨#[],by rw[aQ (hm b _ q λz=>z),q];simp⟩⟩
 by_cases O3:b=e
 .subst O3;exact Po
 .exact⟨u,k b u O3 q⟩
end
noncomputable def QH (h:Heap)(H:Hp):List Addr:=(υ h.objs.size).filter λa=>(H a).isSome
noncomputable def rX (h:Heap)(H:Hp):Heap:=PySem.W.hideAll h (QH h H)
theorem xY (h:Heap)(H:Hp):(rX h H).objs.size=h.objs.size:=PySem.W.hideAll_size _ _
theorem Ae {o:Obj}(e:h.get? b=θ o)(n:H b=η):(rX h H).get? b=θ o :=
 PySem.W.hideAll_get _ e λhm=>by
  have q:(H b).isSome=ζ:=(gx.mp hm).2;rw[n] at q;simp at q
theorem Ey {o:Obj}(e:(rX h H).get? b=θ o):h.get? b=θ o/\H b=η:=by
 have e':h.get? b=θ o:=PySem.W.of_hideAll (QH h H) e;refine⟨e',?_⟩;cases q:H b with
 |none=>rfl
 |some x=>
  have hm:b∈QH h H:=gx.mpr ⟨na.mpr (ω e'),by simp[q]⟩;have z:(rX h H).get? b=η:=PySem.W.hideAll_none (QH h H) hm;rw[z] at e;cases e
end L2
namespace L2
open PySem PySem.Spec PyProof.Rows
structure Mod (K:Β)(mg:Str->Option Value)(base:Heap):Prop where
 P6:K.In base
 glob:base.Ns bi mg
 blt:∃mb,base.Ns ZY mb/\∀x:Str,x≠"__name__"->mb x=wf x
 nolimit:base.NoLimit
structure Cx where
 prog:Program
 w:Ν
 K:Β
 mg:Str->Option Value
 base:Heap
 A:Φ
 N:List Str
 s₀:ρ
 H₀:Hp
 env:Yw
 outer:List Yw
 stack:List Yw
 ex:List Addr
 fn:Str->Bool
 calm:Bool
 pn:List (Addr×Obj)
 xe:Value->ρ->Prop
noncomputable def Bp (l:List Yw):List Addr:=l.filterMap (·.frame)
noncomputable abbrev Cx.fs (X:Cx):List Addr:=Bp X.outer
def Cs (sc:Scope)(x:Str):Prop:=sc.names.lookup x=θ .local\/sc.names.lookup x=θ .cell\/sc.names.lookup x=θ .free
def Loc (sc:Scope)(x:Str):Prop:=sc.names.lookup x=θ .local\/sc.names.lookup x=θ .cell
noncomputable def Look (env:Yw)(h:Heap)(m:Str->Option Value)(x:Str)(u:Value):Prop :=
 (env.kindOf x=θ .local/\m x=θ u)\/((env.kindOf x=θ .cell\/env.kindOf x=θ .free)/\∃c,env.cells.lookup x=θ c/\h.IsCell c (θ u))
structure Cx.Ok (X:Cx):Prop where
 mod:Mod X.K X.mg X.base
 kind:X.env.scope.kind=.function
 glob:X.env.globals=bi
 blt:X.env.builtins=ZY
 above:X.s₀.heap.objs.size<=X.env.locals
 inj:∀x y c,X.env.cells.lookup x=θ c->X.env.cells.lookup y=θ c->x=y
 has:∀x,(X.env.kindOf x=θ .cell\/X.env.kindOf x=θ .free)->∃c,X.env.cells.lookup x=θ c
 Pb:∀x c,X.fn x=ζ->X.env.cells.lookup x=θ c->X.s₀.heap.objs.size<=c
 hd:X.calm=ζ->X.A.handled=η
 frames:X.A.frames=θ X.stack
 QO:X.stack=X.outer\/(X.stack=X.env::X.outer/\X.env.frame=θ X.env.locals)
 T6:∀b∈X.ex,b≠X.env.locals/\∀x c,X.env.cells.lookup x=θ c->c≠b
 bs:∀b o,X.base.get? b=θ o->X.s₀.heap.get? b=θ o/\X.H₀ b=η
 Ox:X.base.objs.size<=X.s₀.heap.objs.size
 Nt:∀b o,X.base.get? b=θ o->b∉X.ex
 NJ:∀b∈X.ex,b∉X.fs
 L3:X.s₀.heap.FunFrames X.base X.outer
 Pq:∀b∈X.fs,X.H₀ b=η
structure Inv (X:Cx)(pins:List (Addr×Obj))(σ:List (Option V))(H:Hp)(s:ρ):Prop where
 ok:X.Ok
 os:s.os=X.s₀.os
 bare:PP s.gens
 base:Un X.fs X.ex X.H₀ H X.s₀.heap s.heap
 loc:∃m,s.heap.Ns X.env.locals m/\∀(i:Nat) (x:Str) (v:V),X.N[i]? = θ x->σ[i]? = θ (θ v)->Cs X.env.scope x->∃u,RelV v u/\Look X.env s.heap m x u
 cell:∀x c,X.env.cells.lookup x=θ c->∃v,s.heap.IsCell c v
 free:H X.env.locals=η
 LH:∀x c,X.env.cells.lookup x=θ c->H c=η
 pin:∀p∈X.pn++pins,s.heap.get? p.1=θ p.2/\H p.1=η/\p.1≠X.env.locals/\p.1∉X.fs/\∀v,p.2.data≠.cell v
 Ll:nJ X.prog X.w H s.heap
 len:σ.length=X.N.length
variable {A:Φ}{M:È}{i t':Nat}{u:Value}{x:Str}
section
variable {X:Cx}{pins:List (Addr×Obj)}{σ:List (Option V)}{H H':Hp}{s:ρ}{h':Heap}
theorem Cx.Ok.Ss (ok:X.Ok){b:Addr}{o:Obj}(e:X.base.get? b=θ o):b∉X.fs:=λhb=>by
 have:=(ok.L3.mem hb).1;rw[e] at this;cases this
theorem Inv.bs (I:Inv X pins σ H s):∀b o,X.base.get? b=θ o->s.heap.get? b=θ o/\H b=η:=λb o e=>
 ⟨I.base.keep b o (I.ok.bs b o e).1 (I.ok.bs b o e).2 (I.ok.Ss e) (I.ok.Nt b o e),I.base.free b o (I.ok.bs b o e).1 (I.ok.bs b o e).2 (I.ok.Nt b o e)⟩
theorem Inv.bk (I:Inv X pins σ H s):∀b o,X.base.get? b=θ o->s.heap.get? b=θ o:=λb o e=>(I.bs b o e).1
theorem Inv.mod (I:Inv X pins σ H s):Mod X.K X.mg X.base:=I.ok.mod
theorem Inv.NR (I:Inv X pins σ H s):X.K.In s.heap:=I.ok.mod.P6.keeps I.bk
theorem Inv.lt (I:Inv X pins σ H s):X.env.locals<s.heap.objs.size:=let ⟨_,hn,_⟩:=I.loc;hn.lt
theorem Inv.sz (I:Inv X pins σ H s):X.s₀.heap.objs.size<=s.heap.objs.size:=cu I.ok.above (XM I.lt)
theorem Inv.PM (I:Inv X pins σ H s){a:Addr}(h:s.heap.objs.size<=a):a∉X.fs:=λhb=>by
 obtain⟨_,o,ho,_⟩:=I.ok.L3.mem hb;exact absurd (ay (ω ho) (cu I.sz h)) (fq _)
theorem Inv.Pa (I:Inv X pins σ H s):∀x c,X.env.cells.lookup x=θ c->c≠X.env.locals:=λx c e z=>by
 obtain⟨v,o,ho,hd⟩:=I.cell x c e;obtain⟨m,⟨o',es,ep,M9,Mv,_⟩,_⟩:=I.loc;rw[z,M9] at ho;cases ho;rw[Mv] at hd;cases hd
theorem Inv.L3 (I:Inv X pins σ H s):s.heap.FunFrames X.base X.outer:=by
 have all:∀(l:List Yw),(∀b∈Bp l,b∈X.fs)->X.s₀.heap.FunFrames X.base l->s.heap.FunFrames X.base l:=by
  intro l
  induction l with
  |nil=>intro _ _;trivial
  |cons env r ih=>
   intro hs hl;obtain⟨hk,⟨L,o,hf,hn,ho,hd⟩,hr⟩:=hl;have hL:L∈X.fs:=hs L (by unfold Bp;rw[SB,hf];exact ag);obtain⟨sl,e⟩:=I.base.slot L o ho (I.ok.Pq L hL) hL λz=>I.ok.NJ L z hL
   exact⟨hk,⟨L,_,hf,hn,e,hd⟩,ih (λb hb=>hs b (by unfold Bp;rw[SB,hf];exact aa _ hb)) hr⟩
 exact all X.outer (λ_ hb=>hb) I.ok.L3
theorem Inv.stack (I:Inv X pins σ H s):s.heap.FunFrames X.base X.stack:=by
 rcases I.ok.QO with e|⟨e,hf⟩
 .rw[e];exact I.L3
 .rw[e];obtain⟨m,hn,_⟩:=I.loc;refine .cons (by rw[I.ok.kind];decide) hf hn ?_ I.L3;exact Heap.get?_none_of_le (cu I.ok.Ox I.ok.above)
theorem Inv.MD (I:Inv X pins σ H s):∀b∈Bp X.stack,b∈X.env.locals::X.fs:=λb hb=>by
 rcases I.ok.QO with e|⟨e,hf⟩
 .rw[e] at hb;exact aa _ hb
 .rw[e] at hb;unfold Bp at hb;rw[SB,hf] at hb;exact hb
theorem Inv.MQ (I:Inv X pins σ H s):∀b∈Bp X.stack,H b=η:=λb hb=>by
 rcases fe.mp (I.MD b hb) with e|hb
 .rw[e];exact I.free
 .obtain⟨_,o,ho,_⟩:=I.ok.L3.mem hb;exact I.base.free b o ho (I.ok.Pq b hb) λz=>I.ok.NJ b z hb
theorem Inv.step {g':Array YE}{d':É}{ch:List Addr}(I:Inv X pins σ H s)
  (MW:∀b∈ch,(b∈X.ex\/X.s₀.heap.objs.size<=b)/\b≠X.env.locals/\(∀x c,X.env.cells.lookup x=θ c->c≠b)/\∀p∈X.pn++pins,p.1≠b)
  (keep:∀b o,b≠X.env.locals->b∉X.fs->b∉ch->s.heap.get? b=θ o->H b=η->h'.get? b=θ o)
  (slot:∀b o,b≠X.env.locals->b∈X.fs->b∉ch->s.heap.get? b=θ o->H b=η->∃sl,h'.get? b=θ { o with slots:=sl }) (free:∀b o,b∉ch->s.heap.get? b=θ o->H b=η->H' b=η)
  (there:∀b o,b∉ch->s.heap.get? b=θ o->∃o',h'.get? b=θ o')
  (Mr:∀b xs,H b=θ (.tup xs)->H' b=θ (.tup xs)) (Ml:∀b o u,H b=θ (.L4 o u)->H' b=θ (.L4 o u)) (Mt:∀b ps,H b=θ (.Of ps)->∃more,H' b=θ (.Of (ps++more)))
  (ns:∀m,s.heap.Ns X.env.locals m->h'.Ns X.env.locals m) (Ll:nJ X.prog X.w H' h') (hg:PP g') :
  Inv X pins σ H' { s with heap:=h',gens:=g',drawn:=d',toks:=t' }:=by
 have Wh:∀b o,X.s₀.heap.get? b=θ o->b≠X.env.locals:=λb o e=>bz (ay (ω e) I.ok.above)
 have Q0:∀b o,X.s₀.heap.get? b=θ o->b∉X.ex->b∉ch:=λb o e hx hb=>by
  rcases (MW b hb).1 with z|z
  .exact hx z
  .exact absurd (ay (ω e) z) (fq _)
 have cellK:∀x c,X.env.cells.lookup x=θ c->∀v,s.heap.IsCell c v->h'.IsCell c v:=λx c e v ⟨o,ho,hd⟩=>by
  have PR:c∉ch:=λz=>(MW c z).2.2.1 x c e rfl
  by_cases hc:c∈X.fs
  .obtain⟨sl,q⟩:=slot c o (I.Pa x c e) hc PR ho (I.LH x c e);exact⟨_,q,hd⟩
  .exact⟨o,keep c o (I.Pa x c e) hc PR ho (I.LH x c e),hd⟩
 refine⟨I.ok,I.os,hg,⟨λb o e n hb hx=>?_,λb o e n hb hx=>?_,λb o e n hx=>?_,λb o e hx=>?_,λb xs e=>Mr b xs (I.base.Mr b xs e),λb o xs e=>Ml b o xs (I.base.Ml b o xs e),λb ps e=>?_⟩,?_,λx c e=>?_,?_,λx c e=>?_,λp hp=>?_,Ll,I.len⟩
 .exact keep b o (Wh b o e) hb (Q0 b o e hx) (I.base.keep b o e n hb hx) (I.base.free b o e n hx)
 .obtain⟨sl,e1⟩:=I.base.slot b o e n hb hx;obtain⟨sl',e2⟩:=slot b _ (Wh b o e) hb (Q0 b o e hx) e1 (I.base.free b o e n hx);exact⟨sl',e2⟩
 .obtain⟨o',e1⟩:=I.base.there b o e hx;exact free b o' (Q0 b o e hx) e1 (I.base.free b o e n hx)
 .obtain⟨o',e1⟩:=I.base.there b o e hx;exact there b o' (Q0 b o e hx) e1
 .obtain⟨m1,e1⟩:=I.base.Mt b ps e;obtain⟨m2,e2⟩:=Mt b _ e1;exact⟨m1++m2,by rw[e2,Array.append_assoc]⟩
 .obtain⟨m,hn,hl⟩:=I.loc;refine⟨m,ns m hn,λi x v e1 e2 e3=>?_⟩;obtain⟨u,r,l⟩:=hl i x v e1 e2 e3;refine⟨u,r,?_⟩;rcases l with l|⟨k,c,e,z⟩
  .exact .inl l
  .exact .inr ⟨k,c,e,cellK x c e _ z⟩
 .obtain⟨v,z⟩:=I.cell x c e;exact⟨v,cellK x c e v z⟩
 .obtain⟨m,⟨o,_,_,ho,_⟩,_⟩:=I.loc;exact free _ o (λz=>(MW _ z).2.1 rfl) ho I.free
 .obtain⟨v,o,ho,hd⟩:=I.cell x c e;exact free c o (λz=>(MW c z).2.2.1 x c e rfl) ho (I.LH x c e)
 .obtain⟨e,n,ne,nf,d⟩:=I.pin p hp;have PR:p.1∉ch:=λz=>(MW p.1 z).2.2.2 p hp rfl
  exact⟨keep p.1 p.2 ne nf PR e n,free p.1 p.2 PR e n,ne,nf,d⟩
theorem Inv.un {t':Nat}(I:Inv X pins σ H s)(u:Un X.fs [] H H' s.heap h')(Ll:nJ X.prog X.w H' h'):Inv X pins σ H' { s with heap:=h',toks:=t' }:=by
 obtain⟨m,⟨o,es,ep,ho,r⟩,_⟩:=id I.loc;obtain⟨sl,hL⟩:=u.any ho I.free (by simp);exact I.step (g':=s.gens) (d':=s.drawn) (ch:=[]) (λ_ z=>nomatch z) (λb o _ hb _ e n=>u.keep b o e n hb (by simp)) (λb o _ hb _ e n=>u.slot b o e n hb (by simp)) (λb o _ e n=>u.free b o e n (by simp)) (λb o _ e=>u.there b o e (by simp)) u.Mr u.Ml u.Mt (λm' hm=>by
  obtain⟨o',NU,Rj,M9,r'⟩:=hm;rw[ho] at M9;cases M9;exact⟨_,NU,Rj,hL,r'⟩) Ll I.bare
theorem Inv.call {g':Array YE}{t':Nat}{d':É}{ch:List Addr}(I:Inv X pins σ H s)(u:Un (Bp X.stack) ch H H' s.heap h')(Ll:nJ X.prog X.w H' h')(hg:PP g')
  (MW:∀b∈ch,(b∈X.ex\/X.s₀.heap.objs.size<=b)/\b≠X.env.locals/\(∀x c,X.env.cells.lookup x=θ c->c≠b)/\∀p∈X.pn++pins,p.1≠b) :
  Inv X pins σ H' { s with heap:=h',gens:=g',drawn:=d',toks:=t' }:=by
 obtain⟨m,⟨o,es,ep,ho,r⟩,_⟩:=id I.loc;obtain⟨sl,hL⟩:=u.any ho I.free λz=>(MW _ z).2.1 rfl
 exact I.step (ch:=ch) MW (λb o hL hb hc e n=>u.keep b o e n (λz=>(fe.mp (I.MD b z)).elim hL hb) hc) (λb o _ _ hc e n=>u.any e n hc) (λb o hc e n=>u.free b o e n hc) (λb o hc e=>u.there b o e hc) u.Mr u.Ml u.Mt (λm' hm=>by
  obtain⟨o',NU,Rj,M9,r'⟩:=hm;rw[ho] at M9;cases M9;exact⟨_,NU,Rj,hL,r'⟩) Ll hg
theorem Inv.turned {t':Nat}{it:Addr}(I:Inv X pins σ H s)(k:∀b o,b≠it->s.heap.get? b=θ o->h'.get? b=θ o)(hn:H it=η)(hL:it≠X.env.locals)
  (h1:it∈X.ex\/X.s₀.heap.objs.size<=it) (h2:∀x c,X.env.cells.lookup x=θ c->c≠it) (h3:∀p∈X.pn++pins,p.1≠it):Inv X pins σ H { s with heap:=h',toks:=t' }:=by
 have PQ:∀b u,H b=θ u->b≠it:=λb u e z=>by rw[z,hn] at e;cases e
 refine I.step (g':=s.gens) (d':=s.drawn) (ch:=[it]) (λb hb=>?_) (λb o _ _ hc e _=>k b o (λz=>hc (by simp[z])) e) (λb o _ _ hc e _=>⟨o.slots,k b o (λz=>hc (by simp[z])) e⟩) (λ_ _ _ _ n=>n)
  (λb o hc e=>⟨o,k b o (λz=>hc (by simp[z])) e⟩) (λ_ _ e=>e) (λ_ _ _ e=>e) (λb ps e=>⟨#[],by rw[e];simp⟩) (λm hm=>?_) (λb u e=>?_) I.bare
 .have e:b=it:=by simpa using hb
  subst e;exact⟨h1,hL,h2,h3⟩
 .obtain⟨o,es,ep,ho,r⟩:=hm;exact⟨o,es,ep,k _ o (cv hL) ho,r⟩
 .refine (I.Ll b u e).ME (λc v hc q=>k c v ?_ q) (λ_ q=>q) λ_ _ q=>q
  rcases hc with z|z
  .rw[z];exact PQ b u e
  .exact PQ c _ z
theorem Inv.tok (I:Inv X pins σ H s)(t:Nat):Inv X pins σ H { s with toks:=t }:=I.un (h':=s.heap) (t':=t) Un.refl I.Ll
theorem Inv.kept {t':Nat}(I:Inv X pins σ H s)(k:∀b u,s.heap.get? b=θ u->h'.get? b=θ u):Inv X pins σ H { s with heap:=h',toks:=t' }:=I.un (Un.kept k) (I.Ll.kept k)
theorem Inv.laid {a:Addr}{o:HO}{t':Nat}(I:Inv X pins σ H s)(k:∀b u,s.heap.get? b=θ u->h'.get? b=θ u)(hp:s.heap.objs.size<=a)(new:dI X.prog X.w (upd H a o) h' a o) :
  Inv X pins σ (upd H a o) { s with heap:=h',toks:=t' }:=I.un (Un.laid k hp (I.Ll.fresh hp)) (I.Ll.laid k hp new)
theorem Inv.write {x e:Addr}{o:HO}(I:Inv X pins σ H s)(mu:sj (H x))(he:e=x\/H e=θ (.own x))(k:∀b u,b≠e->s.heap.get? b=θ u->h'.get? b=θ u)(Po:∃u,h'.get? e=θ u)
  (new:dI X.prog X.w (upd H x o) h' x o):Inv X pins σ (upd H x o) { s with heap:=h',toks:=t' }:=I.un (Un.write mu he k Po) (I.Ll.write mu he k Po new)
theorem Inv.weak {σ':List (Option V)}(I:Inv X pins σ H s)(hl:σ'.length=σ.length)(w:∀(i:Nat) v,σ'[i]? = θ (θ v)->σ[i]? = θ (θ v)):Inv X pins σ' H s :=
 ⟨I.ok,I.os,I.bare,I.base,let ⟨m,hn,O1⟩:=I.loc;⟨m,hn,λi x v e1 e2 e3=>O1 i x v e1 (w i v e2) e3⟩,I.cell,I.free,I.LH,I.pin,I.Ll,hl.trans I.len⟩
theorem Inv.MR {Om:List (Addr×Obj)}(I:Inv X pins σ H s)(h:∀p∈Om,s.heap.get? p.1=θ p.2/\H p.1=η/\p.1≠X.env.locals/\p.1∉X.fs/\∀v,p.2.data≠.cell v):Inv X Om σ H s :=
 ⟨I.ok,I.os,I.bare,I.base,I.loc,I.cell,I.free,I.LH,λp hp=>(il.mp hp).elim (λz=>I.pin p (a9 _ z)) (h p),I.Ll,I.len⟩
theorem ua {N:List Str}(hN:N.Nodup){j:Nat}(a:N[i]? = θ x)(b:N[j]? = θ x):i=j:=by
 obtain⟨h1,e1⟩:=ο.mp a;obtain⟨h2,e2⟩:=ο.mp b;exact (List.getElem_inj hN).mp (e1.trans e2.symm)
theorem y8 {E:Value->ρ->Prop}{v:V}{Q:Unit->ρ->Prop}(I:Inv X pins σ H s)(hN:X.N.Nodup)(hi:X.N[i]? = θ x)(hx:Loc X.env.scope x)(r:RelV v u)
  (h:∀s',Inv X pins (σ.set i (θ v)) H s'->(∃a,Yx a s.heap s'.heap/\(a=X.env.locals\/X.env.cells.lookup x=θ a))->Q () s') (hf:X.fn x=ζ\/X.env.scope.names.lookup x=θ .local:=by first|exact .inl rfl|exact .inr rfl|assumption):Ε M A (ò X.env x u) Q E s:=by
 obtain⟨m,hn,hl⟩:=id I.loc;have TC:(X.env.scope.kind == .class || (X.env.scope.kind == .module&&X.env.locals != X.env.globals))=ε:=by rw[I.ok.kind];rfl
 have WD:i<σ.length:=by rw[I.len];exact (ο.mp hi).1
 have Pa:=I.Pa;have tracked:∀{a:Addr}{h':Heap},(∃o,s.heap.get? a=θ o/\H a=η)->Yx a s.heap h'->nJ X.prog X.w H h':=λ{a h'} ha hs b ob e=>by
  obtain⟨_,_,LK⟩:=ha;refine (I.Ll b ob e).ME (λc w' hc q=>(hs.2 c ?_).trans q) (λ_ q=>q) λ_ _ q=>q
  rintro rfl;rcases hc with rfl|hc
  .rw[LK] at e;cases e
  .rw[LK] at hc;cases hc
 rcases hx with hk|hk
 .refine wpAny_storeName_local hk hn (λh' LZ hs=>?_) TC;obtain⟨oL,_,_,hoL,_⟩:=id hn;refine h _ ⟨I.ok,I.os,I.bare,⟨λb o e n hb hx=>?_,λb o e n hb hx=>?_,I.base.free,λb o e hx=>?_,I.base.Mr,I.base.Ml,I.base.Mt⟩,⟨_,LZ,λj y v' e1 e2 e3=>?_⟩,λy c e=>?_,I.free,I.LH,λp hp=>?_,tracked ⟨oL,hoL,I.free⟩ hs,by simpa using I.len⟩ ⟨_,hs,.inl rfl⟩
  .exact (hs.2 b (bz (ay (ω e) I.ok.above))).trans (I.base.keep b o e n hb hx)
  .obtain⟨sl,e1⟩:=I.base.slot b o e n hb hx;exact⟨sl,(hs.2 b (bz (ay (ω e) I.ok.above))).trans e1⟩
  .obtain⟨o',e1⟩:=I.base.there b o e hx;exact⟨o',(hs.2 b (bz (ay (ω e) I.ok.above))).trans e1⟩
  .by_cases hj:j=i
   .subst hj;rw[hi] at e1;cases e1;rw[ξ WD] at e2;cases e2;exact⟨u,r,.inl ⟨hk,by simp⟩⟩
   .rw[μ (cv hj)] at e2;obtain⟨u',r',q⟩:=hl j y v' e1 e2 e3;refine⟨u',r',?_⟩;rcases q with ⟨k,e⟩|⟨k,c,e,z⟩
    .refine .inl ⟨k,?_⟩;have:y≠x:=λe=>hj (ua hN e1 (e ▸ hi))
     simp[this,e]
    .exact .inr ⟨k,c,e,z.sameBut hs (Pa y c e)⟩
  .obtain⟨w',z⟩:=I.cell y c e;exact⟨w',z.sameBut hs (Pa y c e)⟩
  .obtain⟨e,n,ne,nf,d⟩:=I.pin p hp;exact⟨(hs.2 p.1 ne).trans e,n,ne,nf,d⟩
 .have Ts:X.fn x=ζ:=by
   rcases hf with z|z
   .exact z
   .rw[z] at hk;cases hk
  obtain⟨c,hc⟩:=I.ok.has x (.inl hk);obtain⟨w',z⟩:=I.cell x c hc;refine wpAny_storeName_cell I.ok.kind hk hc z (λh' NF hs=>?_);obtain⟨oc,Wz,S9⟩:=id z;refine h { s with heap:=h' } ⟨I.ok,I.os,I.bare,⟨λb o e n hb hx=>?_,λb o e n hb hx=>?_,I.base.free,λb o e hx=>?_,I.base.Mr,I.base.Ml,I.base.Mt⟩,⟨m,hn.sameBut hs (cv (Pa x c hc)),λj y v' e1 e2 e3=>?_⟩,λy c' e=>?_,I.free,I.LH,λp hp=>?_,tracked ⟨oc,Wz,I.LH x c hc⟩ hs,by simpa using I.len⟩ ⟨c,hs,.inr hc⟩
  .exact (hs.2 b (bz (ay (ω e) (I.ok.Pb x c Ts hc)))).trans (I.base.keep b o e n hb hx)
  .obtain⟨sl,e1⟩:=I.base.slot b o e n hb hx;exact⟨sl,(hs.2 b (bz (ay (ω e) (I.ok.Pb x c Ts hc)))).trans e1⟩
  .obtain⟨o',e1⟩:=I.base.there b o e hx;exact⟨o',(hs.2 b (bz (ay (ω e) (I.ok.Pb x c Ts hc)))).trans e1⟩
  .by_cases hj:j=i
   .subst hj;rw[hi] at e1;cases e1;rw[ξ WD] at e2;cases e2;exact⟨u,r,.inr ⟨.inl hk,c,hc,NF⟩⟩
   .rw[μ (cv hj)] at e2;obtain⟨u',r',q⟩:=hl j y v' e1 e2 e3;refine⟨u',r',?_⟩;rcases q with q|⟨k,c',e,z'⟩
    .exact .inl q
    .refine .inr ⟨k,c',e,z'.sameBut hs ?_⟩;rintro rfl;exact hj (ua hN e1 (I.ok.inj _ _ _ e hc ▸ hi))
  .by_cases WL:c'=c
   .subst WL;exact⟨_,NF⟩
   .obtain⟨w2,z2⟩:=I.cell y c' e;exact⟨w2,z2.sameBut hs WL⟩
  .obtain⟨e,n,ne,nf,d⟩:=I.pin p hp;refine⟨(hs.2 p.1 ?_).trans e,n,ne,nf,d⟩;intro q;rw[q,Wz] at e;have q':oc=p.2:=eo e;exact d w' (by rw[<-q'];exact S9)
theorem mh {E:Value->ρ->Prop}{v:V}{Q:Unit->ρ->Prop}(I:Inv X pins σ H s)(hN:X.N.Nodup)(hi:X.N[i]? = θ x)(hx:Loc X.env.scope x)(r:RelV v u)
  (h:∀s',Inv X pins (σ.set i (θ v)) H s'->Q () s') (hf:X.fn x=ζ\/X.env.scope.names.lookup x=θ .local:=by first|exact .inl rfl|exact .inr rfl|assumption):Ε M A (ò X.env x u) Q E s :=
 y8 I hN hi hx r (λs' I' _=>h s' I') hf
theorem Inv.QB {s':ρ}{ch:List Addr}(I:Inv X pins σ H s)(ho:s'.os=s.os)(u:Un (Bp X.stack) ch H H' s.heap s'.heap)(Ll:nJ X.prog X.w H' s'.heap)(hg:PP s'.gens)
  (MW:∀b∈ch,(b∈X.ex\/X.s₀.heap.objs.size<=b)/\b≠X.env.locals/\(∀x c,X.env.cells.lookup x=θ c->c≠b)/\∀p∈X.pn++pins,p.1≠b):Inv X pins σ H' s':=by
 obtain⟨h',g',d',t',o'⟩:=s';have e:o'=s.os:=ho;subst e;exact I.call (g':=g') (t':=t') (d':=d') u Ll hg MW
end
noncomputable abbrev XK:=Value->Option Addr->Hp->Prop
noncomputable abbrev St:=List (Option V)
noncomputable abbrev VK:=V->Hp->Prop
noncomputable abbrev TE:=St->Hp->VK->Prop
noncomputable abbrev TT:=St->Hp->(Bool->Hp->Prop)->Prop
noncomputable abbrev TA:=St->Hp->(List V->Hp->Prop)->Prop
structure Ends where
 nx:St->Hp->Prop
 rt:VK
 bk:St->Hp->Prop:=λ_ _=>False
 ct:St->Hp->Prop:=λ_ _=>False
noncomputable abbrev TS:=Ends->St->Hp->Prop
def EP (X:Cx)(pins:List (Addr×Obj))(σ:St)(Q:VK)(u:Value)(s':ρ):Prop:=∃v H',Inv X pins σ H' s'/\RelV v u/\Q v H'
def TP (X:Cx)(pins:List (Addr×Obj))(σ:St)(Q:Bool->Hp->Prop)(b:Bool)(s':ρ):Prop:=∃H',Inv X pins σ H' s'/\Q b H'
def AP (X:Cx)(pins:List (Addr×Obj))(σ:St)(Q:List V->Hp->Prop)(us:List Value)(s':ρ):Prop:=∃vs H',Inv X pins σ H' s'/\aT vs us/\Q vs H'
noncomputable def SP (X:Cx)(pins:List (Addr×Obj))(D:Ends)(f:Flow)(s':ρ):Prop :=
 match f with
 |.next=>∃σ' H',Inv X pins σ' H' s'/\D.nx σ' H'
 |.brk=>∃σ' H',Inv X pins σ' H' s'/\D.bk σ' H'
 |.cont=>∃σ' H',Inv X pins σ' H' s'/\D.ct σ' H'
 |.ret u=>∃v σ' H',Inv X pins σ' H' s'/\RelV v u/\D.rt v H'
noncomputable def PE (X:Cx)(e:Expr)(t:TE):Prop :=
 ∀(pins:List (Addr×Obj)) (s:ρ) (σ:St) (H:Hp) (Q:VK),Inv X pins σ H s->t σ H Q->Ε (Ζ X.prog X.w) X.A (eval e X.env) (EP X pins σ Q) X.xe s
noncomputable def PT (X:Cx)(e:Expr)(t:TT):Prop :=
 ∀(pins:List (Addr×Obj)) (s:ρ) (σ:St) (H:Hp) (Q:Bool->Hp->Prop),Inv X pins σ H s->t σ H Q->Ε (Ζ X.prog X.w) X.A (isTrue e X.env (eval e X.env)) (TP X pins σ Q) X.xe s
noncomputable def PW (X:Cx)(e:Expr)(t:TT):Prop :=
 ∀(whole:Sem Value) (pins:List (Addr×Obj)) (s:ρ) (σ:St) (H:Hp) (Q:Bool->Hp->Prop),Inv X pins σ H s->t σ H Q->Ε (Ζ X.prog X.w) X.A (isTrue e X.env whole) (TP X pins σ Q) X.xe s
theorem PW.pt {X:Cx}{e:Expr}{t:TT}(h:PW X e t):PT X e t:=h _
noncomputable def PA (X:Cx)(es:List Expr)(t:TA):Prop :=
 ∀(pos:GE) (pins:List (Addr×Obj)) (s:ρ) (σ:St) (H:Hp) (Q:List V->Hp->Prop),Inv X pins σ H s->t σ H Q->Ε (Ζ X.prog X.w) X.A (ã (Do pos (Ι es X.env))) (AP X pins σ Q) X.xe s
noncomputable def PS (X:Cx)(st:Stmt)(t:TS):Prop :=
 ∀(pins:List (Addr×Obj)) (s:ρ) (σ:St) (H:Hp) (D:Ends),Inv X pins σ H s->t D σ H->Ε (Ζ X.prog X.w) X.A (exec st X.env) (SP X pins D) X.xe s
noncomputable def lK (X:Cx)(st:List Stmt)(t:TS):Prop :=
 ∀(pins:List (Addr×Obj)) (s:ρ) (σ:St) (H:Hp) (D:Ends),Inv X pins σ H s->t D σ H->Ε (Ζ X.prog X.w) X.A (execs st X.env) (SP X pins D) X.xe s
theorem dG {α:Type}{t:Sem α}{Q Q':α->ρ->Prop}{E:Value->ρ->Prop}{s:ρ}(h:Ε M A t Q E s)(hQ:∀a s,Q a s->Q' a s):Ε M A t Q' E s:=kw h hQ λ_ _ x=>x
end L2
namespace L2
open PySem PySem.Spec PyProof.Rows
variable {H:Hp}{pins:List (Addr×Obj)}{pos:GE}{s:ρ}{u:Value}{x:Str}
section
variable {X:Cx}
def CN (i:Nat):TE:=λσ H Q=>∃v,σ[i]? = θ (θ v)/\Q v H
def tC (v:V):TE:=λ_ H Q=>Q v H
theorem rR {i:Nat}(hN:X.N[i]? = θ x)(hv:Cs X.env.scope x)(hd:(x==("__debug__" : Str))=ε:=by decide) (Mh:(x==("__classdict__" : Str))=ε:=by decide):PE X (.Name x pos) (CN i):=by
 intro pins s σ H Q I h;obtain⟨v,e,h⟩:=h;obtain⟨m,hn,hl⟩:=I.loc;obtain⟨u,r,l⟩:=hl i x v hN e hv;have fin:EP X pins σ Q u s:=⟨v,H,I,r,h⟩;rcases l with ⟨hk,hm⟩|⟨hk,c,hc,Mg⟩
 .exact ZZ (ZB I.ok.kind hk hn hm fin) hd
 .rcases hk with hk|hk
  .exact ZZ (ZO I.ok.kind hk hc Mg fin) hd
  .exact ZZ (wpAny_loadName_free I.ok.kind hk hc Mg fin Mh) hd
theorem Ce {i j pos}:PE X (.Constant (.int i) j pos) (tC (.int i)):=λ_ _ _ H _ I h=>wpAny_Constant_int ⟨.int i,H,I.tok _,⟨_,rfl⟩,h⟩
theorem EM {b j pos}:PE X (.Constant (.bool b) j pos) (tC (.bl b)):=λ_ _ _ H _ I h=>Constant_bool ⟨.bl b,H,I,rfl,h⟩
theorem Aw {j pos}:PE X (.Constant .none j pos) (tC .Lj):=λ_ _ _ H _ I h=>Constant_none ⟨.Lj,H,I,rfl,h⟩
theorem AM {x j pos}:PE X (.Constant (.str x) j pos) (tC (.str x)):=λ_ _ _ H _ I h=>YS ⟨.str x,H,I.tok _,⟨_,rfl⟩,h⟩
def Gl (X:Cx)(x:Str):Prop:=X.env.kindOf x=θ .globalImplicit
theorem n8 {E:Value->ρ->Prop}{σ:St}{Q:Value->ρ->Prop}(I:Inv X pins σ H s)(hg:Gl X x)(hm:X.mg x=θ u)(h:Q u s)
  (hd:(x==("__debug__" : Str))=ε:=by decide):Ε (Ζ X.prog X.w) X.A (eval (.Name x pos) X.env) Q E s :=
 X5 I.ok.kind hg (Calls.loadGlobal_global (by rw[I.ok.glob];exact I.mod.glob.keeps I.bk) hm h) hd
theorem iQ {E:Value->ρ->Prop}{σ:St}{Q:Value->ρ->Prop}(I:Inv X pins σ H s)(hg:Gl X x)(hm:X.mg x=η)(hv:wf x=θ u)(h:Q u s)
  (hn:x≠"__name__":=by decide) (hd:(x==("__debug__" : Str))=ε:=by decide):Ε (Ζ X.prog X.w) X.A (eval (.Name x pos) X.env) Q E s:=by
 obtain⟨mb,h1,h2⟩:=I.mod.blt;exact X5 I.ok.kind hg (Calls.loadGlobal_builtin (by rw[I.ok.glob];exact I.mod.glob.keeps I.bk) hm (by rw[I.ok.blt];exact h1.keeps I.bk) ((h2 x hn).trans hv) h) hd
theorem Dh {v:V}{pos:GE}(hg:Gl X x)(hm:X.mg x=θ u)(r:RelV v u)(hd:(x==("__debug__" : Str))=ε:=by decide):PE X (.Name x pos) (tC v) :=
 λ_ _ _ H _ I h=>n8 I hg hm ⟨v,H,I,r,h⟩ hd
theorem D3 {v:V}(hg:Gl X x)(hm:X.mg x=η)(hv:wf x=θ u)(r:RelV v u)(hn:x≠"__name__":=by decide) (hd:(x==("__debug__" : Str))=ε:=by decide):PE X (.Name x pos) (tC v) :=
 λ_ _ _ H _ I h=>iQ I hg hm hv ⟨v,H,I,r,h⟩ hn hd
variable {a b:Expr}{ta tb:TE}{pos:GE}
variable {tA QN:TT}{rest:List Expr}
def RJ (t u:TT):TT:=λσ H Q=>t σ H λc H1=>if c=ζ then u σ H1 Q else Q ε H1
def tOr (t u:TT):TT:=λσ H Q=>t σ H λc H1=>if c=ζ then Q ζ H1 else u σ H1 Q
def RF (t:TT):TT:=λσ H Q=>t σ H λc H1=>Q (!c) H1
theorem Dd (ha:PT X a tA):PW X (.BoolOp .And [a] pos) tA:=by
 intro wh pins s σ H Q I h;refine isTrue_and (dG (ha pins s σ H Q I h) λc s1 e=>?_);cases c with
 |true=>exact isTrue_and_nil e
 |false=>exact e
theorem Ib (ha:PT X a tA):PW X (.BoolOp .Or [a] pos) tA:=by
 intro wh pins s σ H Q I h;refine isTrue_or (dG (ha pins s σ H Q I h) λc s1 e=>?_);cases c with
 |false=>exact isTrue_or_nil e
 |true=>exact e
theorem Hq (ha:PT X a tA)(hb:PW X (.BoolOp .And (b::rest) pos) QN):PW X (.BoolOp .And (a::b::rest) pos) (RJ tA QN):=by
 intro wh pins s σ H Q I h;refine isTrue_and (dG (ha pins s σ H _ I h) λc s1 ⟨H1,I1,q1⟩=>?_);cases c with
 |true=>exact hb wh pins s1 σ H1 Q I1 q1
 |false=>exact⟨H1,I1,q1⟩
theorem Jb (ha:PT X a tA)(hb:PW X (.BoolOp .Or (b::rest) pos) QN):PW X (.BoolOp .Or (a::b::rest) pos) (tOr tA QN):=by
 intro wh pins s σ H Q I h;refine isTrue_or (dG (ha pins s σ H _ I h) λc s1 ⟨H1,I1,q1⟩=>?_);cases c with
 |true=>exact⟨H1,I1,q1⟩
 |false=>exact hb wh pins s1 σ H1 Q I1 q1
theorem Gd (ha:PT X a tA):PT X (.UnaryOp .Not a pos) (RF tA):=by
 intro pins s σ H Q I h;exact isTrue_not (ha pins s σ H (λc H1=>Q (!c) H1) I h)
def IS (ta tb:TE):TE:=λσ H Q=>ta σ H λx H1=>∃c,x=.bl c/\if c=ζ then tb σ H1 Q else Q (.bl ε) H1
def RD (ta tb:TE):TE:=λσ H Q=>ta σ H λx H1=>∃c,x=.bl c/\if c=ζ then Q (.bl ζ) H1 else tb σ H1 Q
def IF (ta:TE):TE:=λσ H Q=>ta σ H λx H1=>∃c,x=.bl c/\Q (.bl (!c)) H1
theorem Hf {op}{t:TE}(h:PE X a t):PE X (.BoolOp op [a] pos) t:=λpins s σ H Q I hw=>BoolOp_one (h pins s σ H Q I hw)
theorem FU (ha:PE X a ta)(hb:PE X (.BoolOp .And (b::rest) pos) tb):PE X (.BoolOp .And (a::b::rest) pos) (IS ta tb):=by
 intro pins s σ H Q I h;refine BoolOp_and (dG (ha pins s σ H _ I h) λv s1 ⟨x,H1,I1,r1,q1⟩=>?_);obtain⟨c,rfl,q1⟩:=q1;cases r1;refine sB ?_;cases c with
 |true=>exact hb pins s1 σ H1 Q I1 q1
 |false=>exact⟨.bl ε,H1,I1,rfl,q1⟩
theorem Jx (ha:PE X a ta)(hb:PE X (.BoolOp .Or (b::rest) pos) tb):PE X (.BoolOp .Or (a::b::rest) pos) (RD ta tb):=by
 intro pins s σ H Q I h;refine BoolOp_or (dG (ha pins s σ H _ I h) λv s1 ⟨x,H1,I1,r1,q1⟩=>?_);obtain⟨c,rfl,q1⟩:=q1;cases r1;refine sB ?_;cases c with
 |false=>exact hb pins s1 σ H1 Q I1 q1
 |true=>exact⟨.bl ζ,H1,I1,rfl,q1⟩
theorem Hg (ha:PE X a ta):PE X (.UnaryOp .Not a pos) (IF ta):=by
 intro pins s σ H Q I h;refine UnaryOp_ (dG (ha pins s σ H _ I h) λv s1 ⟨x,H1,I1,r1,q1⟩=>?_);obtain⟨c,rfl,q1⟩:=q1;cases r1;exact not_of (sB ⟨.bl (!c),H1,I1,rfl,q1⟩)
def tIf (t:TT)(ta tb:TE):TE:=λσ H Q=>t σ H λc H1=>if c=ζ then ta σ H1 Q else tb σ H1 Q
theorem Cg {c:Expr}(hc:PT X c tA)(ha:PE X a ta)(hb:PE X b tb):PE X (.IfExp c a b pos) (tIf tA ta tb):=by
 intro pins s σ H Q I h;refine wpAny_IfExp (dG (hc pins s σ H _ I h) λd s1 ⟨H1,I1,q1⟩=>?_);cases d with
 |true=>exact ha pins s1 σ H1 Q I1 q1
 |false=>exact hb pins s1 σ H1 Q I1 q1
end
end L2
namespace L2
open PySem PySem.Spec PyProof.Rows
noncomputable def mL (K:Β)(H:Hp)(a:Addr)(xs:List V):Prop :=
 Rd H a (.lst xs) \/
  ∃(o:Obj) (its:Array Value) (n:Nat),K.lookup a=θ o/\o.cls=.type "list"/\o.dict=η/\o.data=.seq its n/\its.size<=sizeLine/\aT xs its.toList
noncomputable def rb (K:Β)(H:Hp)(a:Addr)(xs:List V):Prop :=
 Rd H a (.tup xs) \/
  ∃(o:Obj) (its:Array Value) (n:Nat),K.lookup a=θ o/\o.cls=.type "tuple"/\o.data=.seq its n/\its.size<=sizeLine/\aT xs its.toList
noncomputable def Vv:Value->Option V
 |.none=>θ .Lj
 |.bool b=>θ (.bl b)
 |.int i _=>θ (.int i)
 |.str x _=>θ (.str x)
 |.bytes b _=>θ (.QC b)
 |.float b _=>θ (.T5 b)
 |.ref a=>θ (.ref a)
 |.type n=>θ (.ty n)
 |_=>η
variable {u:Value}
theorem RelV.abs {x:V}(r:RelV x u):Vv u=θ x:=by
 cases x with
 |Lj=>cases r;rfl
 |bl _=>cases r;rfl
 |int _=>obtain⟨t,rfl⟩:=r;rfl
 |str _=>obtain⟨t,rfl⟩:=r;rfl
 |QC _=>obtain⟨t,rfl⟩:=r;rfl
 |T5 _=>obtain⟨t,rfl⟩:=r;rfl
 |ref _=>cases r;rfl
 |ty _=>cases r;rfl
theorem RelV.inj {x y:V}{u:Value}(r:RelV x u)(q:RelV y u):x=y:=eo (r.abs.symm.trans q.abs)
theorem aT.inj:∀{xs ys:List V}{us:List Value},aT xs us->aT ys us->xs=ys
 |_,_,_,.nil,.nil=>rfl
 |_,_,_,.cons r t,.cons r' t'=>by rw[r.inj r',aT.inj t t']
section
variable {X:Cx}{pins:List (Addr×Obj)}{σ:St}{H:Hp}{s:ρ}{a:Addr}{xs ys:List V}
theorem Inv.list (I:Inv X pins σ H s)(h:mL X.K H a xs):∃its:List Value,aT xs its/\PlainL s.heap a its.toArray/\xs.length<=sizeLine:=by
 rcases h with h|⟨o,its,n,hk,hc,hd,hs,hz,r⟩
 .obtain⟨z,its,n,r,e⟩:=h.ok I.Ll;exact⟨its,r,⟨_,n,e,rfl,rfl,rfl⟩,z⟩
 .refine⟨its.toList,r,⟨o,n,I.NR a o hk,hc,hd,by simpa using hs⟩,?_⟩;have e:=r.length;simp only[YM] at e;omega
theorem Inv.tuple (I:Inv X pins σ H s)(h:rb X.K H a xs):∃its:List Value,aT xs its/\IsTup s.heap a its.toArray/\xs.length<=sizeLine:=by
 rcases h with h|⟨o,its,n,hk,hc,hs,hz,r⟩
 .obtain⟨z,its,r,p⟩:=h.ok I.Ll;exact⟨its,r,p,z⟩
 .refine⟨its.toList,r,⟨o,I.NR a o hk,hc,n,by simpa using hs⟩,?_⟩;have e:=r.length;simp only[YM] at e;omega
theorem Inv.LA (I:Inv X pins σ H s)(h:mL X.K H a xs)(h':mL X.K H a ys):xs=ys:=by
 obtain⟨its,r,⟨o,n,e,_,_,d⟩,_⟩:=I.list h;obtain⟨its',r',⟨o',n',e',_,_,d'⟩,_⟩:=I.list h';rw[e] at e';cases e';rw[d] at d';injection d' with d1 _
 have:its=its':=by simpa using congrArg Z0 d1
 subst this;exact r.inj r'
theorem Inv.LN (I:Inv X pins σ H s)(h:rb X.K H a xs)(h':rb X.K H a ys):xs=ys:=by
 obtain⟨its,r,⟨o,e,_,n,d⟩,_⟩:=I.tuple h;obtain⟨its',r',⟨o',e',_,n',d'⟩,_⟩:=I.tuple h';rw[e] at e';cases e';rw[d] at d';injection d' with d1 _
 have:its=its':=by simpa using congrArg Z0 d1
 subst this;exact r.inj r'
end
noncomputable abbrev Cx.LV (X:Cx)(E:Value->ρ->Prop):Cx:={ X with xe:=E }
noncomputable abbrev Cx.LR (X:Cx):Cx:=X.LV λ_ _=>False
variable {X:Cx}
theorem Cx.Ok.LV (ok:X.Ok)(E:Value->ρ->Prop):(X.LV E).Ok :=
 ⟨ok.mod,ok.kind,ok.glob,ok.blt,ok.above,ok.inj,ok.has,ok.Pb,ok.hd,ok.frames,ok.QO,ok.T6,ok.bs,ok.Ox,ok.Nt,ok.NJ,ok.L3,ok.Pq⟩
theorem Cx.Ok.Lp {E:Value->ρ->Prop}(ok:(X.LV E).Ok):X.Ok :=
 ⟨ok.mod,ok.kind,ok.glob,ok.blt,ok.above,ok.inj,ok.has,ok.Pb,ok.hd,ok.frames,ok.QO,ok.T6,ok.bs,ok.Ox,ok.Nt,ok.NJ,ok.L3,ok.Pq⟩
section
variable {X:Cx}{pins:List (Addr×Obj)}{σ:St}{H:Hp}{s:ρ}{E:Value->ρ->Prop}
theorem Inv.LV (I:Inv X pins σ H s)(E:Value->ρ->Prop):Inv (X.LV E) pins σ H s:=⟨I.ok.LV E,I.os,I.bare,I.base,I.loc,I.cell,I.free,I.LH,I.pin,I.Ll,I.len⟩
theorem Inv.Lp (I:Inv (X.LV E) pins σ H s):Inv X pins σ H s:=⟨I.ok.Lp,I.os,I.bare,I.base,I.loc,I.cell,I.free,I.LH,I.pin,I.Ll,I.len⟩
theorem SP.Lp {D:Ends}{f:Flow}{s':ρ}(h:SP (X.LV E) pins D f s'):SP X pins D f s':=by
 cases f with
 |next=>obtain⟨σ',H',I,q⟩:=h;exact⟨σ',H',I.Lp,q⟩
 |brk=>obtain⟨σ',H',I,q⟩:=h;exact⟨σ',H',I.Lp,q⟩
 |cont=>obtain⟨σ',H',I,q⟩:=h;exact⟨σ',H',I.Lp,q⟩
 |ret u=>obtain⟨v,σ',H',I,r,q⟩:=h;exact⟨v,σ',H',I.Lp,r,q⟩
theorem lK.LR {st:List Stmt}{t:TS}(h:lK X.LR st t):lK X st t:=λpins s σ H D I hw=>
 kw (h pins s σ H D (I.LV _) hw) (λ_ _ q=>q.Lp) λ_ _ z=>bv z
end
variable {H:Hp}{c:Expr}{pins:List (Addr×Obj)}{s:ρ}{tc:TT}
section
variable {X:Cx}{st:Stmt}{rest:List Stmt}{t u:TS}{e:Expr}{te:TE}{pos:GE}
def Bx:TS:=λD σ H=>D.nx σ H
def G7 (t u:TS):TS:=λD σ H=>t { D with nx:=u D } σ H
theorem D1:lK X [] Bx:=λ_ _ σ H _ I h=>SC ⟨σ,H,I,h⟩
theorem ku (h1:PS X st t)(h2:lK X rest u):lK X (st::rest) (G7 t u):=by
 intro pins s σ H D I h;refine ó (dG (h1 pins s σ H { D with nx:=u D } I h) λf s1 q=>?_);cases f with
 |next=>
  obtain⟨σ',H',I',q⟩:=q;exact h2 pins s1 σ' H' D I' q
 |ret v=>exact q
 |brk=>exact q
 |cont=>exact q
theorem lZ (h1:PS X st t):lK X [st] t:=by
 intro pins s σ H D I h;refine ó (dG (h1 pins s σ H D I h) λf s1 q=>?_);cases f with
 |next=>exact SC q
 |ret v=>exact q
 |brk=>exact q
 |cont=>exact q
def JW:TS:=λD σ H=>D.ct σ H
theorem DG:PS X (.Pass pos) Bx:=λ_ _ σ H _ I h=>wpAny_Pass ⟨σ,H,I,h⟩
theorem uF:PS X (.Continue pos) JW:=λ_ _ σ H _ I h=>wpAny_Continue ⟨σ,H,I,h⟩
theorem Inv.quiet {σ:St}(I:Inv X pins σ H s):Ē X.env=ε:=by simp[Ē,I.ok.kind]
theorem FK {x j pos pos'}:PS X (.Expr (.Constant (.str x) j pos) pos') Bx:=λ_ s σ H _ I h=>wpAny_Expr (YS (show SP X _ _ .next { s with toks:=s.toks+1 } from ⟨σ,H,I.tok _,h⟩)) I.quiet
def oV (te:TE):TS:=λD σ H=>te σ H λ_ H1=>D.nx σ H1
theorem jU (he:PE X e te)(hs:GT e η pos.line X.env=pure ε:=by rfl):PS X (.Expr e pos) (oV te):=by
 intro pins s σ H D I h;exact wpAny_Expr_any (dG (he pins s σ H _ I h) λv s1 ⟨x,H1,I1,r1,q1⟩=>⟨σ,H1,I1,q1⟩) I.quiet hs
def JP (te:TE):TS:=λD σ H=>te σ H D.rt
theorem wj (he:PE X e te):PS X (.Return (θ e) pos) (JP te):=by
 intro pins s σ H D I h;exact wpAny_Return_some (dG (he pins s σ H _ I h) λv s1 ⟨x,H1,I1,r1,q1⟩=>⟨x,σ,H1,I1,r1,q1⟩)
def JV:TS:=λD _ H=>D.rt .Lj H
theorem DQ:PS X (.Return η pos) JV:=λ_ _ σ H _ I h=>wpAny_Return_none ⟨.Lj,σ,H,I,rfl,h⟩
def GQ (c:TT)(t u:TS):TS:=λD σ H=>c σ H λb H1=>if b=ζ then t D σ H1 else u D σ H1
theorem EE {a b:List Stmt}(hc:PT X c tc)(ha:lK X a t)(hb:lK X b u):PS X (.If c a b pos) (GQ tc t u):=by
 intro pins s σ H D I h;refine wpAny_If (dG (hc pins s σ H _ I h) λd s1 ⟨H1,I1,q1⟩=>?_);cases d with
 |true=>exact ha pins s1 σ H1 D I1 q1
 |false=>exact hb pins s1 σ H1 D I1 q1
end
noncomputable abbrev TG:=V->St->Hp->(St->Hp->Prop)->Prop
noncomputable abbrev EK:=List V->St->Hp->(St->Hp->Prop)->Prop
noncomputable def PG (X:Cx)(target:Expr)(t:TG):Prop :=
 ∀(pins:List (Addr×Obj)) (s:ρ) (σ:St) (H:Hp) (v:V) (u:Value) (Q:St->Hp->Prop),Inv X pins σ H s->RelV v u->t v σ H Q ->
  Ε (Ζ X.prog X.w) X.A (WF target X.env u) (λ_ s'=>∃σ' H',Inv X pins σ' H' s'/\Q σ' H') X.xe s
noncomputable def Ka (X:Cx)(ts:List Expr)(t:EK):Prop :=
 ∀(pins:List (Addr×Obj)) (s:ρ) (σ:St) (H:Hp) (vs:List V) (us:List Value) (Q:St->Hp->Prop),Inv X pins σ H s->aT vs us->t vs σ H Q ->
  Ε (Ζ X.prog X.w) X.A (assignInOrder ((wl ts X.env).map (·.2)) us) (λ_ s'=>∃σ' H',Inv X pins σ' H' s'/\Q σ' H') X.xe s
noncomputable abbrev FY:=V->V->V->Hp->(Hp->Prop)->Prop
noncomputable def Kq (X:Cx)(t:FY):Prop :=
 ∀(pins:List (Addr×Obj)) (s:ρ) (σ:St) (H:Hp) (o i v:V) (ov iv u:Value) (Q:Hp->Prop),Inv X pins σ H s->RelV o ov->RelV i iv->RelV v u->t o i v H Q ->
  Ε (Ζ X.prog X.w) X.A (ă ov iv u) (λ_ s'=>∃H',Inv X pins σ H' s'/\Q H') X.xe s
noncomputable abbrev Vz:=V->V->Hp->VK->Prop
noncomputable def Xs (X:Cx)(op:li)(t:Vz):Prop :=
 ∀(pins:List (Addr×Obj)) (s:ρ) (σ:St) (H:Hp) (x y:V) (v u:Value) (Q:VK),Inv X pins σ H s->RelV x v->RelV y u->t x y H Q ->
  Ε (Ζ X.prog X.w) X.A (Y0 op v u) (EP X pins σ Q) X.xe s
variable {e tg:Expr}{es:List Expr}{i:Nat}{pos':GE}{te:TE}{x:Str}
section
variable {X:Cx}{pos:GE}
noncomputable def qF (i:Nat):TG:=λv σ H Q=>Q (σ.set i (θ v)) H
theorem se (hN:X.N.Nodup)(hi:X.N[i]? = θ x)(hx:Loc X.env.scope x)(hf:X.fn x=ζ\/X.env.scope.names.lookup x=θ .local:=by first|exact .inl rfl|exact .inr rfl|assumption):PG X (.Name x pos) (qF i):=by
 intro pins s σ H v u Q I r h;exact ä (mh I hN hi hx r (λs' I'=>⟨_,H,I',h⟩) hf)
noncomputable def JO:EK:=λvs σ H Q=>vs=[]/\Q σ H
noncomputable def E3 (t:TG)(u:EK):EK:=λvs σ H Q=>∃v r,vs=v::r/\t v σ H λσ' H'=>u r σ' H' Q
theorem Er:Ka X [] JO:=by
 intro pins s σ H vs us Q I r h;obtain⟨e,h⟩:=h;subst e;cases r;exact assignInOrder_nil ⟨σ,H,I,h⟩
theorem BU {t:TG}{u:EK}(h1:PG X e t)(h2:Ka X es u)
  (hs:(wl (e::es) X.env).map (·.2)=WF e X.env::(wl es X.env).map (·.2):=by rfl):Ka X (e::es) (E3 t u):=by
 intro pins s σ H vs us Q I r h;obtain⟨v,vr,e1,h⟩:=h;subst e1;cases r with
 |cons r rr=>
  rw[hs];refine assignInOrder_cons (dG (h1 pins s σ H _ _ _ I r h) λ_ s1 ⟨σ1,H1,I1,q1⟩=>?_);exact h2 pins s1 σ1 H1 _ _ Q I1 rr q1
noncomputable def u7 (K:Β)(n:Nat)(t:EK):TG:=λv σ H Q=>∃a xs,v=.ref a/\rb K H a xs/\xs.length=n/\t xs σ H Q
theorem zA {k:Nat}{t:EK}{n:Nat}(hc:X.calm=ζ)(h:Ka X es t)
  (hn:(wl es X.env).length=n:=by rfl) (Lu:(wl es X.env).findIdx? (·.1)=η:=by rfl):PG X (.Tuple es k pos) (u7 X.K n t):=by
 intro pins s σ H v u Q I r hw;obtain⟨a,xs,e1,hq,hl,hw⟩:=hw;subst e1;cases r;obtain⟨its,rv,ht,hz⟩:=I.tuple hq;refine assign_Tuple_tuple (I.ok.hd hc) ht (by simp[hn,<-hl,rv.length]) Lu λh' hx=>?_
 have I1:Inv X pins σ H { s with heap:=h' }:=I.kept (t':=s.toks) λb o e=>hx b o (bz (ω e)) e
 exact h pins _ σ H xs _ Q I1 (by simpa using rv) hw
noncomputable def Kl (to ti:TE)(t:FY):TG:=λv σ H Q=>to σ H λo H1=>ti σ H1 λi H2=>t o i v H2 λH3=>Q σ H3
theorem FI {o i:Expr}{to ti:TE}{t:FY}(ho:PE X o to)(hi:PE X i ti)(hs:Kq X t)
  (ha:∀v,WF (.Subscript o i pos) X.env v=(do
   let ov <- Yy [v] (eval o X.env);let iv <- Yy [v,ov] (eval i X.env)
   Ą pos
   Yy [v,ov,iv] (ă ov iv v)
   release [v,ov,iv] []):=by intro _;rfl):PG X (.Subscript o i pos) (Kl to ti t):=by
 intro pins s σ H v u Q I r h;rw[ha];refine Γ (KF (dG (ho pins s σ H _ I h) λov s1 ⟨x,H1,I1,r1,q1⟩=>?_));refine Γ (KF (dG (hi pins s1 σ H1 _ I1 q1) λiv s2 ⟨y,H2,I2,r2,q2⟩=>?_));refine Γ (YT (Γ (KF (dG (hs pins s2 σ H2 x y v ov iv u _ I2 r1 r2 r q2) λ_ s3 ⟨H3,I3,q3⟩=>?_))));exact wpAny_release ⟨σ,H3,I3,q3⟩
def yu (te:TE)(g:TG):TS:=λD σ H=>te σ H λx H1=>g x σ H1 D.nx
theorem sJ {g:TG}(he:PE X e te)(hg:PG X tg g)(hs:YU [tg] e pos.line X.env=pure ε:=by rfl)(hw:Î [tg] e X.env=pure η:=by rfl)
  (h1:(wl [tg] X.env).map (·.2)=[WF tg X.env]:=by rfl):PS X (.Assign [tg] e pos) (yu te g):=by
 intro pins s σ H D I h;refine wpAny_Assign_stores (dG (he pins s σ H _ I h) λv s1 ⟨x,H1,I1,r1,q1⟩=>?_) hs hw;rw[h1];exact dG (hg pins s1 σ H1 x v _ I1 r1 q1) λ_ s2 q=>q
theorem Ig (hN:X.N.Nodup)(hi:X.N[i]? = θ x)(hx:Loc X.env.scope x)(he:PE X e te)(hs:GT e (θ (.Name x pos')) pos.line X.env=pure ε:=by rfl)(hf:X.fn x=ζ\/X.env.scope.names.lookup x=θ .local:=by first|exact .inl rfl|exact .inr rfl|assumption) :
  PS X (.Assign [.Name x pos'] e pos) (yu te (qF i)):=by
 intro pins s σ H D I h;refine wpAny_Assign_Name (dG (he pins s σ H _ I h) λv s1 ⟨y,H1,I1,r1,q1⟩=>?_) hs;exact mh I1 hN hi hx r1 (λs2 I2=>⟨_,H1,I2,q1⟩) hf
def RI (i:Nat)(te:TE)(ti:Vz):TS:=λD σ H=>∃x,σ[i]? = θ (θ x)/\te σ H λy H1=>ti x y H1 λz H2=>D.nx (σ.set i (θ z)) H2
theorem GL {op:li}{ti:Vz}(hN:X.N.Nodup)(hi:X.N[i]? = θ x)(hx:Loc X.env.scope x)(he:PE X e te)(ho:Xs X op ti)(hf:X.fn x=ζ\/X.env.scope.names.lookup x=θ .local:=by first|exact .inl rfl|exact .inr rfl|assumption) :
  PS X (.AugAssign (.Name x pos') op e pos) (RI i te ti):=by
 intro pins s σ H D I h;obtain⟨v,e1,h⟩:=h;obtain⟨m,hn,hl⟩:=I.loc;have OA:Cs X.env.scope x:=by rcases hx with k|k;exact .inl k;exact .inr (.inl k)
 obtain⟨u,r,l⟩:=hl i x v hi e1 OA;refine wpAny_AugAssign_Name ?_;have go:Ε (Ζ X.prog X.w) X.A (eval e X.env) (λw s₂=>Ε (Ζ X.prog X.w) X.A (Y0 op u w) (λr s₃=>Ε (Ζ X.prog X.w) X.A (ò X.env x r) (λ_=>SP X pins D .next) X.xe s₃) X.xe s₂) X.xe s:=by
  refine dG (he pins s σ H _ I h) λw s1 ⟨y,H1,I1,r1,q1⟩=>?_
  refine dG (ho pins s1 σ H1 v y u w _ I1 r r1 q1) λz s2 ⟨zv,H2,I2,r2,q2⟩=>?_
  exact mh I2 hN hi hx r2 (λs3 I3=>⟨_,H2,I3,q2⟩) hf
 rcases l with ⟨hk,hm⟩|⟨hk,c,hc,Mg⟩
 .exact ZB I.ok.kind hk hn hm go
 .rcases hk with hk|hk
  .exact ZO I.ok.kind hk hc Mg go
  .rcases hx with k|k
   .have:X.env.scope.names.lookup x=θ .free:=hk;rw[k] at this;cases this
   .have:X.env.scope.names.lookup x=θ .free:=hk;rw[k] at this;cases this
end
section
variable {X:Cx}{pos:GE}
def GR (c:TT)(tb:TS):TS:=λD σ H=>∃W:Nat->St->Hp->Prop,(∃m,W m σ H)/\∀m σ H,W m σ H ->
 c σ H λb H1=>if b=ζ then ∃N:St->Hp->Prop,(∀σ' H',N σ' H'->∃m',m'<m/\W m' σ' H')/\tb { D with nx:=N,ct:=N,bk:=D.nx } σ H1 else D.nx σ H1
theorem zT {body:List Stmt}{tb:TS}(hp:XE (Ζ X.prog X.w) X.A X.env X.xe)(hc:PT X c tc)(hb:lK X body tb):PS X (.While c body [] pos) (GR tc tb):=by
 intro pins s σ H D I h;obtain⟨W,⟨m0,w0⟩,turn⟩:=h;refine wpAny_While (codeAny_whileLoop (λn s'=>∃σ' H',Inv X pins σ' H' s'/\W n σ' H') ?_ m0 ⟨σ,H,I,w0⟩);rintro n s1 ⟨σ1,H1,I1,w1⟩;refine ww hp (dG (hc pins s1 σ1 H1 _ I1 (turn n σ1 H1 w1)) λb s2 ⟨H2,I2,q2⟩=>?_);cases b with
 |true=>
  obtain⟨N,hN,q2⟩:=q2;rw[if_pos rfl];refine ww hp (dG (hb pins s2 σ1 H2 _ I2 q2) λf s3 q3=>?_);cases f with
  |next=>
   obtain⟨σ3,H3,I3,n3⟩:=q3;obtain⟨m',hm,w3⟩:=hN σ3 H3 n3;exact⟨m',hm,σ3,H3,I3,w3⟩
  |cont=>
   obtain⟨σ3,H3,I3,n3⟩:=q3;obtain⟨m',hm,w3⟩:=hN σ3 H3 n3;exact⟨m',hm,σ3,H3,I3,w3⟩
  |brk=>exact q3
  |ret v=>exact q3
 |false=>
  rw[if_neg ba];exact SC ⟨σ1,H2,I2,q2⟩
end
structure It where
 go:Nat->Hp->Prop
 Pe:Nat->Hp->V->Hp->Prop
 stop:Nat->Hp->Prop
noncomputable def kR (X:Cx)(pins:List (Addr×Obj))(H:Hp)(b:Addr):Prop :=
 H b=η/\b≠X.env.locals/\b∉X.fs/\(b∈X.ex\/X.s₀.heap.objs.size<=b)/\(∀x c,X.env.cells.lookup x=θ c->c≠b)/\∀p∈X.pn++pins,p.1≠b
theorem Inv.Mc {σ:St}{H':Hp}{b:Addr}(I:Inv X pins σ H s)(hb:s.heap.objs.size<=b)(hn:H' b=η):kR X pins H' b:=by
 refine⟨hn,ô (ay I.lt hb),I.PM hb,.inr (cu I.sz hb),λx c e z=>?_,λp hp z=>?_⟩
 .obtain⟨v,q⟩:=I.cell x c e;exact absurd (ay q.lt (by rw[z];exact hb)) (fq _)
 .exact absurd (ay (ω (I.pin p hp).1) (by rw[z];exact hb)) (fq _)
structure Turn (P:Program)(w:Ν)(K:Β)(tg:Expr)(J:It)(fp:List Addr)(it:Addr)(tn:Nat->Heap->Prop):Prop where
 mem:it∈fp
 obj:∀i h,tn i h->∀b∈fp,∃o,h.get? b=θ o/\∀v,o.data≠.cell v
 keep:∀i h h',tn i h->(∀b∈fp,∀o,h.get? b=θ o->h'.get? b=θ o)->tn i h'
 item:∀(X:Cx),X.prog=P->X.w=w->X.K=K->X.calm=ζ->∀(i:Nat) (pins:List (Addr×Obj)) (s:ρ) (σ:St) (H:Hp) (E:Value->ρ->Prop),Inv X pins σ H s->(∀b∈fp,kR X pins H b)->tn i s.heap->J.go i H ->
  Ε (Ζ P w) X.A (pyNext (.ref it)) (λr s1=>∃u,r=θ u /\
   Ε (Ζ P w) X.A (SL tg (.ref it) u) (λ_ s2=>∃x H',Inv X pins σ H' s2/\RelV x u/\J.Pe i H x H'/\tn (i+1) s2.heap/\∀b∈fp,H' b=η) E s1) E s
 done:∀(X:Cx),X.prog=P->X.w=w->X.K=K->X.calm=ζ->∀(i:Nat) (pins:List (Addr×Obj)) (s:ρ) (σ:St) (H:Hp) (E:Value->ρ->Prop),Inv X pins σ H s->(∀b∈fp,kR X pins H b)->tn i s.heap->J.stop i H ->
  Ε (Ζ P w) X.A (pyNext (.ref it)) (λr s1=>r=η/\Inv X pins σ H s1) E s
 self:∀(A:Φ) (i:Nat) (s:ρ) (Q:Value->ρ->Prop) (E:Value->ρ->Prop),tn i s.heap->Q (.ref it) s->Ε (Ζ P w) A (XY (.ref it)) Q E s
noncomputable abbrev TI:=St->Hp->(It->Hp->Prop)->Prop
noncomputable def Ij (X:Cx)(pins:List (Addr×Obj))(σ:St)(tg:Expr)(R:It->Hp->Prop)(Q6:Value)(s2:ρ):Prop :=
 ∃(it:Addr) (fp:List Addr) (tn:Nat->Heap->Prop) (J:It) (H':Hp),Q6=.ref it/\Inv X pins σ H' s2/\Turn X.prog X.w X.K tg J fp it tn/\tn 0 s2.heap/\(∀b∈fp,kR X pins H' b)/\R J H'
noncomputable def PI (X:Cx)(tg ii:Expr)(wi:TI):Prop :=
 ∀(pins:List (Addr×Obj)) (s:ρ) (σ:St) (H:Hp) (R:It->Hp->Prop),Inv X pins σ H s->wi σ H R ->
  Ε (Ζ X.prog X.w) X.A (eval ii X.env) (λv s1=>Ε (Ζ X.prog X.w) X.A (XY v) (Ij X pins σ tg R) X.xe s1) X.xe s
theorem tF {M:È}{A:Φ}{E:Value->ρ->Prop}{s:ρ}{it:Addr}{o:Obj}{n:String}{vs:Array Value}{Q:Unit->ρ->Prop}(ho:s.heap.get? it=θ o)(hc:o.cls=.type n)(hd:o.data=.fields vs)
  (hn:["enumerate","zip","dict_itemiterator","dict_reverseitemiterator","odict_iterator","itertools.zip_longest","itertools.pairwise"].contains n=ε) (hQ:Q () s):Ε M A (SL tg (.ref it) u) Q E s:=by
 unfold SL;cases tg<;>first
  |exact Χ hQ
  | (cases u<;>first
    |exact Χ hQ
    | (refine Γ (wpAny_load ho ?_)
       rw[hc,hd];show Ε M A (if (["enumerate","zip","dict_itemiterator","dict_reverseitemiterator","odict_iterator","itertools.zip_longest","itertools.pairwise"].contains n&&vs[0]?==θ (rawInt _))=ζ then _ else _) Q E s;rw[if_neg (by intro h;rw[hn,ZP] at h;cases h)];exact Χ hQ))
noncomputable def VF (K:Β)(a:Addr):It :=
 ⟨λi H=>∃xs x,mL K H a xs/\xs[i]? = θ x,λi H x H'=>H'=H/\∀xs,mL K H a xs->xs[i]? = θ x,λi H=>∃xs,mL K H a xs/\xs.length<=i⟩
noncomputable def VE (K:Β)(a:Addr):It :=
 ⟨λi H=>∃xs x,rb K H a xs/\xs[i]? = θ x,λi H x H'=>H'=H/\∀xs,rb K H a xs->xs[i]? = θ x,λi H=>∃xs,rb K H a xs/\xs.length<=i⟩
noncomputable def Iu (lo:Int)(n:Nat):It:=⟨λi _=>i<n,λi H x H'=>H'=H/\x=.int (lo+i),λi _=>n<=i⟩
variable {P:Program}{w:Ν}
theorem zk {K:Β}(a it:Addr):Turn P w K tg (VF K a) [it] it (λi h=>h.IsListIter it a i) where
 mem:=by simp
 obj:=λi h st b hb=>by
  have e:b=it:=by simpa using hb
  subst e;obtain⟨o,e,c,d⟩:=st;exact⟨o,e,λv z=>by rw[d] at z;cases z⟩
 keep:=λi h h' st k=>st.at λo e=>k it (by simp) o e
 item:=by
  intro X hP hw hK hc i pins s σ H E I hf st hg;subst hP hw hK;obtain⟨xs,x,hq,hx⟩:=hg;obtain⟨its,rv,p,hz⟩:=I.list hq;obtain⟨u,hu,ru⟩:=rv.get hx;obtain⟨f0,f1,f2,f3,f4,f5⟩:=hf it (by simp);refine wpAny_pyNext_list_item st p.isList (x:=u) (by simpa using hu) λh' L9 sb=>?_
  have I1:Inv X pins σ H { s with heap:=h' }:=I.turned (t':=s.toks) (λb o hb e=>(sb.2 b hb).trans e) f0 f1 f3 f4 f5;obtain⟨o,e,c,d⟩:=id L9;exact⟨u,rfl,tF (s:={ s with heap:=h' }) e c d (by decide) ⟨x,H,I1,ru,⟨rfl,λys hy=>by rw[I.LA hy hq];exact hx⟩,L9,λb hb=>(hf b hb).1⟩⟩
 done:=by
  intro X hP hw hK hc i pins s σ H E I hf st hg;subst hP hw hK;obtain⟨xs,hq,hx⟩:=hg;obtain⟨its,rv,p,hz⟩:=I.list hq;obtain⟨f0,f1,f2,f3,f4,f5⟩:=hf it (by simp);have hl:=rv.length;exact wpAny_pyNext_list_end (I.ok.hd hc) st p.isList (by simp;omega) λh' eb=>⟨rfl,I.turned (t':=s.toks) (λb o hb e=>eb b o hb e) f0 f1 f3 f4 f5⟩
 self:=λ_ _ _ _ _ st h=>wpAny_pyIter_listiter st h
theorem vF {K:Β}(a it:Addr):Turn P w K tg (VE K a) [it] it (λi h=>h.IsTupleIter it a i) where
 mem:=by simp
 obj:=λi h st b hb=>by
  have e:b=it:=by simpa using hb
  subst e;obtain⟨o,e,c,d⟩:=st;exact⟨o,e,λv z=>by rw[d] at z;cases z⟩
 keep:=λi h h' st k=>st.at λo e=>k it (by simp) o e
 item:=by
  intro X hP hw hK hc i pins s σ H E I hf st hg;subst hP hw hK;obtain⟨xs,x,hq,hx⟩:=hg;obtain⟨its,rv,p,hz⟩:=I.tuple hq;obtain⟨u,hu,ru⟩:=rv.get hx;obtain⟨f0,f1,f2,f3,f4,f5⟩:=hf it (by simp);refine wpAny_pyNext_tuple_item st (show s.heap.IsTuple a its.toArray from p) (x:=u) (by simpa using hu) λh' L9 sb=>?_
  have I1:Inv X pins σ H { s with heap:=h' }:=I.turned (t':=s.toks) (λb o hb e=>(sb.2 b hb).trans e) f0 f1 f3 f4 f5;obtain⟨o,e,c,d⟩:=id L9;exact⟨u,rfl,tF (s:={ s with heap:=h' }) e c d (by decide) ⟨x,H,I1,ru,⟨rfl,λys hy=>by rw[I.LN hy hq];exact hx⟩,L9,λb hb=>(hf b hb).1⟩⟩
 done:=by
  intro X hP hw hK hc i pins s σ H E I hf st hg;subst hP hw hK;obtain⟨xs,hq,hx⟩:=hg;obtain⟨its,rv,p,hz⟩:=I.tuple hq;obtain⟨f0,f1,f2,f3,f4,f5⟩:=hf it (by simp);have hl:=rv.length;exact wpAny_pyNext_tuple_end (I.ok.hd hc) st (show s.heap.IsTuple a its.toArray from p) (by simp;omega) λh' eb=>⟨rfl,I.turned (t':=s.toks) (λb o hb e=>eb b o hb e) f0 f1 f3 f4 f5⟩
 self:=λ_ _ _ _ _ st h=>wpAny_pyIter_tupleiter st h
theorem uP {K:Β}(it:Addr)(lo:Int)(n:Nat):Turn P w K tg (Iu lo n) [it] it (λi h=>ZC h it (lo+(i:Nat)*1) ((n:Int)-(i:Nat)) 1) where
 mem:=by simp
 obj:=λi h st b hb=>by
  have e:b=it:=by simpa using hb
  subst e;exact⟨_,st,λv z=>by
   have z':ñ _=Data.cell v:=z;cases z'⟩
 keep:=λi h h' st k=>k it (by simp) _ st
 item:=by
  intro X hP hw hK hc i pins s σ H E I hf st hg;subst hP hw hK;obtain⟨f0,f1,f2,f3,f4,f5⟩:=hf it (by simp);have W:=å (prog:=X.prog) (w:=X.w) (I.ok.hd hc) it lo 1 n;refine W.item i s _ _ hg st λv h' tk hv L9 kk=>?_
  obtain⟨t,rfl⟩:=hv;have I1:Inv X pins σ H { s with heap:=h',toks:=tk }:=I.turned (λb o hb e=>kk b o (by simpa using hb) e) f0 f1 f3 f4 f5;refine⟨_,rfl,tF (s:={ s with heap:=h',toks:=tk }) (n:="range_iterator") L9 rfl rfl (by decide) ⟨.int (lo+i),H,I1,⟨t,?_⟩,⟨rfl,rfl⟩,L9,λb hb=>(hf b hb).1⟩⟩;rw[Int.mul_one]
 done:=by
  intro X hP hw hK hc i pins s σ H E I hf st hg;subst hP hw hK;obtain⟨f0,f1,f2,f3,f4,f5⟩:=hf it (by simp);exact wpAny_pyNext_range_end (I.ok.hd hc) st (by have:n<=i:=hg;omega) λh' eb=>⟨rfl,I.turned (t':=s.toks) (λb o hb e=>eb b o hb e) f0 f1 f3 f4 f5⟩
 self:=λ_ _ _ _ _ st h=>Zj st h
end L2
namespace L2
open PySem PySem.Spec PyProof.Rows
variable {H:Hp}{fp:List Addr}{g:TG}{h:Heap}{lo:Int}{pins:List (Addr×Obj)}{pos:GE}{s:ρ}{tb:TS}
section
variable {X:Cx}{tg:Expr}
theorem Br {σ:St}{R:It->Hp->Prop}{E:Value->ρ->Prop}{hi:Int}{t u v:YR}{tk:Nat}(I:Inv X pins σ H s)(h1 : -(2 ^ 62)<=lo)(h2:lo<2 ^ 62)(h3 : -(2 ^ 62)<=hi)(h4:hi<2 ^ 62)
  (q:R (Iu lo (hi-lo).toNat) H):Ε (Ζ X.prog X.w) X.A (XY (.ref s.heap.objs.size)) (Ij X pins σ tg R) E { s with heap:=s.heap.push { cls:=.type "range",data:=.fields #[.int lo t,.int hi u,.int 1 v] },toks:=tk }:=by
 refine Z1 (Yp ..) (small_one h1 h2 h3 h4) ?_;have I1:Inv X pins σ H { s with heap:=s.heap.push { cls:=.type "range",data:=.fields #[.int lo t,.int hi u,.int 1 v] },toks:=tk }:=I.kept λb o e=>ψ _ e
 refine⟨(s.heap.push { cls:=.type "range",data:=.fields #[.int lo t,.int hi u,.int 1 v] }).objs.size,[(s.heap.push { cls:=.type "range",data:=.fields #[.int lo t,.int hi u,.int 1 v] }).objs.size],_,_,H,rfl,
  I1.kept (t':=tk) λb o e=>ψ _ e,uP _ lo (hi-lo).toNat,?_,λb hb=>?_,q⟩
 .have e1:lo+((0:Nat):Int)*1=lo:=by simp
  have e2:(((hi-lo).toNat:Nat):Int)-((0:Nat):Int)=Υ lo hi 1:=by rw[YV];split<;>omega
  show ZC _ _ (lo+((0:Nat):Int)*1) ((((hi-lo).toNat:Nat):Int)-((0:Nat):Int)) 1;rw[e1,e2];exact Λ _ rfl
 .have e:b=(s.heap.push { cls:=.type "range",data:=.fields #[.int lo t,.int hi u,.int 1 v] }).objs.size:=by simpa using hb
  subst e;exact I1.Mc (au _) (I1.Ll.fresh (au _))
noncomputable def J7 (ta:TA):TI:=λσ H R=>ta σ H λvs H1=>∃j:Int,vs=[.int j]/\-(2 ^ 62)<=j/\j<2 ^ 62/\R (Iu 0 j.toNat) H1
theorem yW {a:Expr}{ta:TA}{p:GE}(hg:Gl X "range") (hm:X.mg "range" = η) (ha:PA X [a] ta) (hs:Ι [a] X.env=[(ε,eval a X.env)]:=by rfl):PI X tg (.Call (.Name "range" p) [a] [] pos) (J7 ta):=by
 intro pins s σ H R I h;refine æ (iQ I hg hm Z2 (du (dG (ha pos pins s σ H _ I h) λus s1 ⟨vs,H1,I1,r1,q1⟩=>?_) hs rfl));obtain⟨j,e,q1,q2,q⟩:=q1;subst e;cases r1 with
 |cons r rr=>
  cases rr;obtain⟨t,rfl⟩:=r;exact Zk (Br I1 (by omega) (by omega) q1 q2 (by simpa using q))
def RH (wi:TI)(g:TG)(tb:TS):TS:=λD σ H=>wi σ H λJ H1=>∃W:Nat->Nat->St->Hp->Prop,(∃m,W 0 m σ H1)/\∀i m σ H,W i m σ H ->
 (J.stop i H/\D.nx σ H)\/(J.go i H/\∃N:St->Hp->Prop,(∀σ' H',N σ' H'->∃m',m'<m/\W (i+1) m' σ' H')/\∀x H',J.Pe i H x H'->g x σ H' λσ2 H2=>tb { D with nx:=N,ct:=N,bk:=D.nx } σ2 H2)
noncomputable def pg (fp:List Addr)(h:Heap):List (Addr×Obj):=fp.filterMap λb=>(h.get? b).map λo=>(b,o)
theorem hV {b:Addr}{o:Obj}(hb:b∈fp)(e:h.get? b=θ o):(b,o)∈pg fp h:=UF.mpr ⟨b,hb,by rw[e];rfl⟩
theorem yG {p:Addr×Obj}(hp:p∈pg fp h):p.1∈fp/\h.get? p.1=θ p.2:=by
 obtain⟨b,hb,e⟩:=UF.mp hp;cases q:h.get? b with
 |none=>rw[q] at e;cases e
 |some o=>
  rw[q] at e;have e':(b,o)=p:=eo e;subst e';exact⟨hb,q⟩
theorem Inv.pinned {σ:St}{fp:List Addr}(I:Inv X pins σ H s)(hf:∀b∈fp,kR X pins H b)(ho:∀b∈fp,∃o,s.heap.get? b=θ o/\∀v,o.data≠.cell v):Inv X (pins++pg fp s.heap) σ H s :=
 I.MR λp hp=>(il.mp hp).elim (λz=>I.pin p (aq _ z)) λz=>by
  obtain⟨hb,e⟩:=yG z;obtain⟨f0,f1,f2,_⟩:=hf p.1 hb;obtain⟨o,e',d⟩:=ho p.1 hb;rw[e] at e';cases e';exact⟨e,f0,f1,f2,d⟩
theorem Inv.LF {pl:List (Addr×Obj)}{σ:St}(I:Inv X (pins++pl) σ H s):Inv X pins σ H s:=I.MR λp hp=>I.pin p (aq _ (a9 _ hp))
theorem Bt {ii:Expr}{body:List Stmt}{wi:TI}(hp:XE (Ζ X.prog X.w) X.A X.env X.xe)(hc:X.calm=ζ)(hi:PI X tg ii wi)(hg:PG X tg g)(hb:lK X body tb)
  (hs:∀x,wE ii X.env x=pure x:=by intro _;rfl):PS X (.For tg ii body [] pos) (RH wi g tb):=by
 intro pins s σ H D I h;refine wpAny_For (dG (hi pins s σ H _ I h) λv s1 h1=>dG h1 λQ6 s2 h2=>?_) hs;obtain⟨it,fp,tn,J,H2,e,I2,T,PC,f2,W,⟨m0,w0⟩,turn⟩:=h2;subst e;have MF:∀{H':Hp},(∀b∈fp,H' b=η)->∀b∈fp,kR X pins H' b:=λhn b hb=>⟨hn b hb,(f2 b hb).2⟩
 refine codeAny_forLoop_any (λn s'=>∃i σ' H',Inv X pins σ' H' s'/\tn i s'.heap/\(∀b∈fp,H' b=η)/\W i n σ' H') ?_ m0 ⟨0,σ,H2,I2,PC,λb hb=>(f2 b hb).1,w0⟩;rintro n s3 ⟨i,σ3,H3,I3,VR,WX,w3⟩;rcases turn i n σ3 H3 w3 with ⟨stop,qn⟩|⟨go,N,hN,step⟩
 .refine ww hp (dG (T.done X rfl rfl rfl hc i pins s3 σ3 H3 X.xe I3 (MF WX) VR stop) λr s4 ⟨hr,I4⟩=>?_);subst hr;exact SC ⟨σ3,H3,I4,qn⟩
 .refine ww hp (dG (T.item X rfl rfl rfl hc i pins s3 σ3 H3 X.xe I3 (MF WX) VR go) λr s4 ⟨u,hr,h4⟩=>?_);subst hr;refine ww hp (dG h4 λ_ s5 ⟨x,H5,I5,r5,y5,Ph,Ri⟩=>?_);have I5':=I5.pinned (MF Ri) (T.obj _ _ Ph);refine ww hp (dG (hg _ s5 σ3 H5 x u _ I5' r5 (step x H5 y5)) λ_ s6 ⟨σ6,H6,I6,q6⟩=>?_);refine ww hp (dG (hb _ s6 σ6 H6 _ I6 q6) λf s7 q7=>?_);have again:∀{σ7:St}{H7:Hp},Inv X (pins++pg fp s5.heap) σ7 H7 s7->N σ7 H7->∃m,m<n/\∃i σ' H',Inv X pins σ' H' s7/\tn i s7.heap/\(∀b∈fp,H' b=η)/\W i m σ' H':=λ{σ7 H7} I7 n7=>by
   obtain⟨m',hm,w7⟩:=hN σ7 H7 n7;refine⟨m',hm,i+1,σ7,H7,I7.LF,T.keep _ _ _ Ph λb hb o e=>(I7.pin (b,o) (aq _ (aq _ (hV hb e)))).1,λb hb=>?_,w7⟩;obtain⟨o,e,d⟩:=T.obj _ _ Ph b hb;exact (I7.pin (b,o) (aq _ (aq _ (hV hb e)))).2.1
  cases f with
  |next=>obtain⟨σ7,H7,I7,n7⟩:=q7;exact again I7 n7
  |cont=>obtain⟨σ7,H7,I7,n7⟩:=q7;exact again I7 n7
  |brk=>obtain⟨σ7,H7,I7,q7⟩:=q7;exact⟨σ7,H7,I7.LF,q7⟩
  |ret v=>obtain⟨x7,σ7,H7,I7,r7,q7⟩:=q7;exact⟨x7,σ7,H7,I7.LF,r7,q7⟩
end
theorem yo {n:Nat}{D:Ends}{σ:St}(Pv:Nat->St->Hp->Prop)(h0:Pv 0 σ H)
  (hs:∀i σ H,i<n->Pv i σ H->g (.int (lo+i)) σ H λσ2 H2=>tb { D with nx:=Pv (i+1),ct:=Pv (i+1),bk:=D.nx } σ2 H2) (hd:∀σ H,Pv n σ H->D.nx σ H) :
  ∃W:Nat->Nat->St->Hp->Prop,(∃m,W 0 m σ H)/\∀i m σ H,W i m σ H ->
   ((Iu lo n).stop i H/\D.nx σ H)\/((Iu lo n).go i H/\∃N:St->Hp->Prop,(∀σ' H',N σ' H'->∃m',m'<m/\W (i+1) m' σ' H')/\∀x H',(Iu lo n).Pe i H x H'->g x σ H' λσ2 H2=>tb { D with nx:=N,ct:=N,bk:=D.nx } σ2 H2):=by
 refine⟨λi m σ H=>m=n-i/\i<=n/\Pv i σ H,⟨n,by simp,dn _,h0⟩,?_⟩;rintro i m σ H ⟨rfl,hi,p⟩;by_cases LB:i<n
 .refine .inr ⟨LB,Pv (i+1),λσ' H' p'=>⟨n-(i+1),by omega,rfl,LB,p'⟩,λx H' y=>?_⟩;obtain⟨e,y⟩:=y;subst e y;exact hs i σ _ LB p
 .have e:i=n:=by omega
  subst e;exact .inl ⟨au _,hd σ H p⟩
end L2
namespace L2
open PySem PySem.Spec PyProof.Rows
noncomputable abbrev R2:=V->V->Hp->VK->Prop
noncomputable def mI (X:Cx)(f:Value->Value->Sem Value)(r:R2):Prop :=
 ∀(pins:List (Addr×Obj)) (s:ρ) (σ:St) (H:Hp) (x y:V) (v u:Value) (Q:VK),Inv X pins σ H s->RelV x v->RelV y u->r x y H Q ->
  Ε (Ζ X.prog X.w) X.A (f v u) (EP X pins σ Q) X.xe s
noncomputable def Vx (X:Cx)(f:Value->Sem Value)(r:V->Hp->VK->Prop):Prop :=
 ∀(pins:List (Addr×Obj)) (s:ρ) (σ:St) (H:Hp) (x:V) (v:Value) (Q:VK),Inv X pins σ H s->RelV x v->r x H Q ->
  Ε (Ζ X.prog X.w) X.A (f v) (EP X pins σ Q) X.xe s
noncomputable def gW (X:Cx)(f:Value)(r:List V->Hp->VK->Prop):Prop :=
 ∀(pins:List (Addr×Obj)) (s:ρ) (σ:St) (H:Hp) (xs:List V) (us:List Value) (Q:VK),Inv X pins σ H s->aT xs us->r xs H Q ->
  Ε (Ζ X.prog X.w) X.A (call f us) (EP X pins σ Q) X.xe s
noncomputable def Vy (X:Cx)(r:V->Hp->(Bool->Hp->Prop)->Prop):Prop :=
 ∀(pins:List (Addr×Obj)) (s:ρ) (σ:St) (H:Hp) (x:V) (v:Value) (Q:Bool->Hp->Prop),Inv X pins σ H s->RelV x v->r x H Q ->
  Ε (Ζ X.prog X.w) X.A (truthy v) (TP X pins σ Q) X.xe s
def Jh (r:R2)(ta tb:TE):TE:=λσ H Q=>ta σ H λx H1=>tb σ H1 λy H2=>r x y H2 Q
def tUn (r:V->Hp->VK->Prop)(ta:TE):TE:=λσ H Q=>ta σ H λx H1=>r x H1 Q
noncomputable def rI (C:Int->Int->Prop)(g:Int->Int->V):R2:=λx y H Q=>∃i j,x=.int i/\y=.int j/\C i j/\Q (g i j) H
noncomputable def zq (g:Int->Int->V):R2:=λx y H Q=>∃i j,x=.int i/\y=.int j/\Q (g i j) H
def rU (g:Int->V):V->Hp->VK->Prop:=λx H Q=>∃i,x=.int i/\Q (g i) H
variable {f:Value->Value->Sem Value}{g:Int->Int->Int}{r:R2}
section
variable {X:Cx}{a b c:Expr}{ta tb tc:TE}{pos:GE}
theorem GV (ha:PE X a ta)(hb:PE X b tb){pins:List (Addr×Obj)}{s:ρ}{σ:St}{H:Hp}{R:V->V->Hp->Prop}(I:Inv X pins σ H s)
  (h:ta σ H λx H1=>tb σ H1 λy H2=>R x y H2) {Q:Value->ρ->Prop}
  (hf:∀v u s2 x y H2,Inv X pins σ H2 s2->RelV x v->RelV y u->R x y H2->Ε (Ζ X.prog X.w) X.A (f v u) Q X.xe s2) :
  Ε (Ζ X.prog X.w) X.A (eval a X.env) (λv s₁=>Ε (Ζ X.prog X.w) X.A (eval b X.env) (λu s₂=>Ε (Ζ X.prog X.w) X.A (f v u) Q X.xe s₂) X.xe s₁) X.xe s:=by
 refine dG (ha pins s σ H _ I h) λv s1 ⟨x,H1,I1,r1,q1⟩=>?_
 refine dG (hb pins s1 σ H1 _ I1 q1) λu s2 ⟨y,H2,I2,r2,q2⟩=>?_
 exact hf v u s2 x y H2 I2 r1 r2 q2
theorem Kb {op:li}(ho:mI X (wP op) r)(ha:PE X a ta)(hb:PE X b tb):PE X (.BinOp a op b pos) (Jh r ta tb):=by
 intro pins s σ H Q I h;exact wpAny_BinOp (GV ha hb I h λv u s2 x y H2 I2 rx ry q=>ho pins s2 σ H2 x y v u Q I2 rx ry q)
theorem IT {op:UnaryOp}{r:V->Hp->VK->Prop}(ho:Vx X (unaryOp op) r)(ha:PE X a ta):PE X (.UnaryOp op a pos) (tUn r ta):=by
 intro pins s σ H Q I h;exact UnaryOp_ (dG (ha pins s σ H _ I h) λv s1 ⟨x,H1,I1,r1,q1⟩=>ho pins s1 σ H1 x v Q I1 r1 q1)
theorem QR {C:Int->Int->Prop}
  (rule:∀(i j:Int) (t u:YR) (s:ρ) (Q:Value->ρ->Prop) (E:Value->ρ->Prop),C i j->Q (.int (g i j) s.toks) { s with toks:=s.toks+1 }->Ε (Ζ X.prog X.w) X.A (f (.int i t) (.int j u)) Q E s) :
  mI X f (rI C λi j=>.int (g i j)):=by
 intro pins s σ H x y v u Q I rx ry h;obtain⟨i,j,rfl,rfl,hc,q⟩:=h;obtain⟨t,rfl⟩:=rx;obtain⟨t',rfl⟩:=ry;exact rule i j t t' s _ _ hc ⟨.int (g i j),H,I.tok _,⟨_,rfl⟩,q⟩
theorem AH 
  (rule:∀(i j:Int) (t u:YR) (s:ρ) (Q:Value->ρ->Prop) (E:Value->ρ->Prop),Q (.int (g i j) s.toks) { s with toks:=s.toks+1 }->Ε (Ζ X.prog X.w) X.A (f (.int i t) (.int j u)) Q E s) :
  mI X f (zq λi j=>.int (g i j)):=by
 intro pins s σ H x y v u Q I rx ry h;obtain⟨i,j,rfl,rfl,q⟩:=h;obtain⟨t,rfl⟩:=rx;obtain⟨t',rfl⟩:=ry;exact rule i j t t' s _ _ ⟨.int (g i j),H,I.tok _,⟨_,rfl⟩,q⟩
theorem DN {g:Int->Int->Bool}
  (rule:∀(i j:Int) (t u:YR) (s:ρ) (Q:Value->ρ->Prop) (E:Value->ρ->Prop),Q (.bool (g i j)) s->Ε (Ζ X.prog X.w) X.A (f (.int i t) (.int j u)) Q E s) :
  mI X f (zq λi j=>.bl (g i j)):=by
 intro pins s σ H x y v u Q I rx ry h;obtain⟨i,j,rfl,rfl,q⟩:=h;obtain⟨t,rfl⟩:=rx;obtain⟨t',rfl⟩:=ry;exact rule i j t t' s _ _ ⟨.bl (g i j),H,I,rfl,q⟩
def VJ (i j:Int):Prop:=0<j/\j<1073741824
def VI (i j:Int):Prop:=0<=j/\j<=1000000/\i.natAbs<2 ^ 64
def HK (i j:Int):Prop:=(-(2 ^ 64)<i/\i<2 ^ 64)\/(-(2 ^ 64)<j/\j<2 ^ 64)
theorem HK.ok {i j:Int}(h:HK i j):IntMulOk i j:=by
 rcases h with ⟨h1,h2⟩|⟨h1,h2⟩
 .exact .of_left (Ï h1 h2)
 .exact .of_right (Ï h1 h2)
theorem HR:mI X (wP .Add) (zq λi j=>.int (i+j)):=AH λ_ _ _ _ _ _ _ q=>add_int q
theorem GF:mI X (wP .Sub) (zq λi j=>.int (i-j)):=AH λ_ _ _ _ _ _ _ q=>sub_int q
theorem Gq:mI X (wP .Mult) (rI HK λi j=>.int (i*j)):=QR λ_ _ _ _ _ _ _ hc q=>mul_int q hc.ok
theorem CS:mI X (wP .FloorDiv) (rI VJ λi j=>.int (i / j)):=QR λi j _ _ _ _ _ hc q=>by
 have h1:(0:Int)<j:=hc.1;have h2:j<1073741824:=hc.2;exact floordiv_int (by omega) (by rw[Int.fdiv_eq_ediv_of_nonneg i (by omega)];exact q) (.inl (PyProof.noPylong_small (by omega)))
theorem FD:mI X (wP .Mod) (rI (λ_ j=>0<j) λi j=>.int (i%j)):=QR λi j _ _ _ _ _ hc q=>by
 have h1:(0:Int)<j:=hc;exact mod_int' (by omega) (by rw[Int.fmod_eq_emod_of_nonneg i (by omega)];exact q)
theorem FV:mI X (wP .Pow) (rI VI λi j=>.int (i ^ j.toNat)):=QR λ_ _ _ _ _ _ _ hc q=>pow_int_small hc.1 hc.2.1 hc.2.2 q
theorem Hs:mI X (wP .BitXor) (zq λi j=>.int (Ρ i j)):=AH λ_ _ _ _ _ _ _ q=>xor_int q
theorem Cv:mI X (Y0 .Add) (zq λi j=>.int (i+j)):=AH λ_ _ _ _ _ _ _ q=>iadd_int q
theorem Eh:mI X (Y0 .Sub) (zq λi j=>.int (i-j)):=AH λ_ _ _ _ _ _ _ q=>isub_int q
theorem unI {f:Value->Sem Value}{g:Int->Int}
  (rule:∀(i:Int) (t:YR) (s:ρ) (Q:Value->ρ->Prop) (E:Value->ρ->Prop),Q (.int (g i) s.toks) { s with toks:=s.toks+1 }->Ε (Ζ X.prog X.w) X.A (f (.int i t)) Q E s) :
  Vx X f (rU λi=>.int (g i)):=by
 intro pins s σ H x v Q I rx h;obtain⟨i,rfl,q⟩:=h;obtain⟨t,rfl⟩:=rx;exact rule i t s _ _ ⟨.int (g i),H,I.tok _,⟨_,rfl⟩,q⟩
theorem HB:Vx X (unaryOp .USub) (rU λi=>.int (-i)):=unI λ_ _ _ _ _ q=>neg_int q
end
variable {op:XU}
section
variable {X:Cx}{a b c:Expr}{ta tb tc:TE}{pos:GE}
theorem JB:mI X (kt .Lt) (zq λi j=>.bl (decide (i<j))):=DN λ_ _ _ _ _ _ _ q=>lt_int q
theorem JH:mI X (kt .LtE) (zq λi j=>.bl (decide (i<=j))):=DN λ_ _ _ _ _ _ _ q=>le_int q
theorem JZ:mI X (kt .Gt) (zq λi j=>.bl (decide (j<i))):=DN λ_ _ _ _ _ _ _ q=>gt_int q
theorem Kk:mI X (kt .GtE) (zq λi j=>.bl (decide (j<=i))):=DN λ_ _ _ _ _ _ _ q=>ge_int q
theorem Dy (ho:mI X (kt op) r)(ha:PE X a ta)(hb:PE X b tb)(hm:xz op b=ε):PE X (.Compare a [op] [b] pos) (Jh r ta tb):=by
 intro pins s σ H Q I h;exact wpAny_Compare1 (GV ha hb I h λv u s2 x y H2 I2 rx ry q=>ho pins s2 σ H2 x y v u Q I2 rx ry q) hm
def Jq (t:TE):TT:=λσ H Q=>t σ H λx H'=>∃k,x=.bl k/\Q k H'
theorem DD (ho:mI X (kt op) r)(ha:PE X a ta)(hb:PE X b tb)(hm:xz op b=ε):PT X (.Compare a [op] [b] pos) (Jq (Jh r ta tb)):=by
 intro pins s σ H Q I h;refine wpAny_isTrue_Compare1 (dG (ha pins s σ H _ I h) λv s1 ⟨x,H1,I1,r1,q1⟩=>dG (hb pins s1 σ H1 _ I1 q1) λu s2 ⟨y,H2,I2,r2,q2⟩=>
  dG (ho pins s2 σ H2 x y v u _ I2 r1 r2 q2) λc s3 ⟨z,H3,I3,r3,k,e,q3⟩=>?_) hm
 subst e;cases r3;exact sB ⟨H3,I3,q3⟩
noncomputable def Gn (K:Β)(x:V)(H:Hp)(k:Bool):Prop :=
 match x with
 |.Lj=>k=ε
 |.bl b=>k=b
 |.int i=>k=(i != 0)
 |.str y=>y.length<=sizeLine/\k=((y.length:Int) != 0)
 |.QC y=>y.size<=sizeLine/\k=((y.size:Int) != 0)
 |.ref p=>(∃xs,mL K H p xs/\k = !xs.isEmpty)\/(∃xs,rb K H p xs/\k = !xs.isEmpty)\/∃kvs,H p=θ (.dK kvs)/\k = !kvs.isEmpty
 |_=>False
theorem vR {κ:Type}{kvs:List (κ×V)}{vs:List (κ×Value)}(r:KV kvs vs):(!vs.isEmpty) = !kvs.isEmpty:=by
 cases r<;>rfl
theorem oD {xs:List V}{its:List Value}(r:aT xs its):(!its.toArray.isEmpty) = !xs.isEmpty:=by
 cases r<;>simp
theorem oN:(sizeLine:Nat)<2 ^ 63:=by rw[Yl];decide
theorem Ht:Vy X (λx H Q=>∃k,Gn X.K x H k/\Q k H):=by
 intro pins s σ H x v Q I rx h;obtain⟨k,e,q⟩:=h;have hl:=oN;have hs:sizeLine=16777216:=Yl;cases x with
 |Lj=>
  cases rx;have e':k=ε:=e;subst e';exact truthy_none ⟨H,I,q⟩
 |bl b=>
  cases rx;have e':k=b:=e;subst e';exact sB ⟨H,I,q⟩
 |int i=>
  obtain⟨t,rfl⟩:=rx;have e':k=(i != 0):=e;subst e';exact PySem.P.truthy_int ⟨H,I,q⟩
 |str y=>
  obtain⟨t,rfl⟩:=rx;obtain⟨hy,e'⟩:y.length<=sizeLine/\k=((y.length:Int) != 0):=e;subst e';exact PySem.P.truthy_str (by omega) ⟨H,I.tok _,q⟩
 |QC y=>
  obtain⟨t,rfl⟩:=rx;obtain⟨hy,e'⟩:y.size<=sizeLine/\k=((y.size:Int) != 0):=e;subst e';exact PySem.W.truthy_bytes (by omega) ⟨H,I.tok _,q⟩
 |ref p=>
  cases rx;have e':(∃xs,mL X.K H p xs/\k = !xs.isEmpty)\/(∃xs,rb X.K H p xs/\k = !xs.isEmpty)\/∃kvs,H p=θ (.dK kvs)/\k = !kvs.isEmpty:=e;rcases e' with ⟨xs,hx,e'⟩|⟨xs,hx,e'⟩|⟨kvs,hx,e'⟩
  .subst e';obtain⟨its,r,pl,hz⟩:=I.list hx;have hlen:=r.length;exact wpAny_truthy_list pl.isList (by simp only[ao];omega) ⟨H,I.tok _,by rw[oD r];exact q⟩
  .subst e';obtain⟨its,r,pl,hz⟩:=I.tuple hx;have hlen:=r.length;exact truthy_tuple pl (by simp only[ao];omega) ⟨H,I.tok _,by rw[oD r];exact q⟩
  .subst e';obtain⟨hz,hS,vs,r,m⟩:kvs.length<=sizeLine/\(p==Db)=ε/\∃vs,KV kvs vs/\s.heap.DictOf (bS X.prog X.w) p vs:=I.Ll p _ hx;have hlen:kvs.length=vs.length:=Ya r;exact wpAny_truthy_dict hS m (by omega) ⟨H,I.tok _,by rw[vR r];exact q⟩
 |_=>exact (show False from e).elim
theorem Bn (ha:PE X a ta)(he:∀whole,isTrue a X.env whole=(do let v <- whole;Ą a.pos;Yy [v] (truthy v))) :
  PT X a (λσ H Q=>ta σ H λx H'=>∃k,Gn X.K x H' k/\Q k H'):=by
 intro pins s σ H Q I h;exact isTrue_plain (dG (ha pins s σ H _ I h) λv s1 ⟨x,H1,I1,r1,q1⟩=>Ht pins s1 σ H1 x v Q I1 r1 q1) (he _)
theorem vals1 {x:V}{us:List Value}(r:aT [x] us):∃u,us=[u]/\RelV x u:=by
 cases r with
 |cons r1 r2=>cases r2;exact⟨_,rfl,r1⟩
theorem Bi:gW X (.builtin "abs") (λxs H Q=>∃i,xs=[.int i]/\Q (.int (if i<0 then -i else i)) H):=by
 intro pins s σ H xs us Q I r h;obtain⟨i,rfl,q⟩:=h;obtain⟨u,rfl,t,rfl⟩:=vals1 r;exact call_abs_int λu tk=>⟨.int (if i<0 then -i else i),H,I.tok _,⟨_,rfl⟩,q⟩
end
end L2
namespace L2
open PySem PySem.Spec PyProof.Rows
section
variable {prog:Program}{w:Ν}{A:Φ}{E:Value->ρ->Prop}{s:ρ}{K:Β}{x dx C f:Addr}{mA:Str->Option Value}{name:Str}{v:Value}
end
section
variable {P:Program}{w:Ν}{H H':Hp}{h h':Heap}{a C dx:Addr}{fs T4:List (Str×V)}
end
section
variable {X:Cx}{pins:List (Addr×Obj)}{σ:St}{H:Hp}{s:ρ}{a C dx:Addr}{fs:List (Str×V)}{f:Str}{v:V}{A:Φ}{E:Value->ρ->Prop}
end
section
variable {X:Cx}{o e value:Expr}{f:Str}{pos pos' Rx:GE}{ta tv:TE}
end
section
variable {X:Cx}{pins:List (Addr×Obj)}{σ:St}{H:Hp}{s:ρ}{A:Φ}{E:Value->ρ->Prop}{Q:Value->ρ->Prop}{c:Value}{b:Bool}
end
end L2
namespace L2
open PySem PySem.Spec PyProof.Rows
structure gP (k:Nat)(A:Φ):Prop where
 hd:A.handled=η
 dp:A.depth+3*k+5<recursionLimit
 un:A.units+16*k+200<cLine
variable {A:Φ}{k:Nat}
theorem gP.deeper (r:gP (k+1) A)(env:Yw):gP k (A.deeper env) :=
 ⟨r.hd,by have:=r.dp;show A.depth+1+3*k+5<_;omega,by have:=r.un;show A.units+3+16*k+200<_;omega⟩
theorem gP.depth (r:gP k A):A.depth<recursionLimit:=by have:=r.dp;omega
theorem gP.units (r:gP k A):A.units+64<cLine:=by have:=r.un;omega
def yV:TA:=λ_ H Q=>Q [] H
def iC (ta:TE)(tr:TA):TA:=λσ H Q=>ta σ H λx H1=>tr σ H1 λxs H2=>Q (x::xs) H2
section
variable {X:Cx}{e:Expr}{es:List Expr}{te:TE}{t:TA}{pos:GE}
theorem pM:PA X [] yV:=λ_ _ _ _ H Q I h=>WP ⟨[],H,I,.nil,h⟩
theorem dM (ha:PE X e te)(hr:PA X es t)(hs:Ι (e::es) X.env=(ε,eval e X.env)::Ι es X.env:=by rfl):PA X (e::es) (iC te t):=by
 intro pos pins s σ H Q I h;rw[hs];show Ε _ _ (ã ((ε,eval e X.env)::Do pos (Ι es X.env))) _ _ s;refine TD (dG (ha pins s σ H _ I h) λu s1 ⟨x,H1,I1,r1,q1⟩=>?_);exact dG (hr pos pins s1 σ H1 _ I1 q1) λus s2 ⟨xs,H2,I2,r2,q2⟩=>⟨x::xs,H2,I2,.cons r1 r2,q2⟩
def RC (t:TA):TE:=λσ H Q=>t σ H λxs H1=>xs.length<=sizeLine/\∀p,H1 p=η->Q (.ref p) (upd H1 p (.tup xs))
def RG (t:TA):TE:=λσ H Q=>t σ H λxs H1=>xs.length<=sizeLine/\∀p,H1 p=η->Q (.ref p) (upd H1 p (.lst xs))
theorem Gm {x1}(h:PA X es t):PE X (.Tuple es x1 pos) (RC t):=by
 intro pins s σ H Q I hq;refine wpAny_Tuple_spliced (dG (h pos pins s σ H _ I hq) λus s1 ⟨xs,H1,I1,r,z,q⟩=>⟨by rw[<-r.length];exact z,?_⟩);have hf:H1 s1.heap.objs.size=η:=I1.Ll.fresh (au _);refine⟨.ref s1.heap.objs.size,upd H1 s1.heap.objs.size (.tup xs),I1.laid (t':=s1.toks) (λb u e=>ψ _ e) (au _) ?_,rfl,q _ hf⟩;exact⟨z,us,r,⟨_,Λ _ rfl,rfl,_,rfl⟩⟩
theorem GU (h:PA X es t):PE X (.List es pos) (RG t):=by
 intro pins s σ H Q I hq;refine wpAny_List_spliced (dG (h pos pins s σ H _ I hq) λus s1 ⟨xs,H1,I1,r,z,q⟩=>⟨by rw[<-r.length];exact z,?_⟩);have hf:H1 s1.heap.objs.size=η:=I1.Ll.fresh (au _);refine⟨.ref s1.heap.objs.size,upd H1 s1.heap.objs.size (.lst xs),I1.laid (t':=s1.toks) (λb u e=>ψ _ e) (au _) ?_,rfl,q _ hf⟩;exact⟨z,us,0,r,Λ _ rfl⟩
end
noncomputable abbrev Sp:=List V->Hp->VK->XK->Prop
noncomputable abbrev vT:=List Yw->Hp->ρ->XK->Value->ρ->Prop
structure BM (P:Program)(w:Ν)(K:Β)(mg:Str->Option Value)(base:Heap)(A:Φ)(outer:List Yw)(s:ρ)(H:Hp):Prop where
 frames:A.frames=θ outer
 mod:Mod K mg base
 bs:∀b o,base.get? b=θ o->s.heap.get? b=θ o/\H b=η
 Ox:base.objs.size<=s.heap.objs.size
 L3:s.heap.FunFrames base outer
 Pq:∀b∈Bp outer,H b=η
 Ll:nJ P w H s.heap
 bare:PP s.gens
noncomputable def CE (outer:List Yw)(P:Program)(w:Ν)(H:Hp)(s:ρ)(Q:VK)(u:Value)(s':ρ):Prop :=
 ∃v H',s'.os=s.os/\PP s'.gens/\Un (Bp outer) [] H H' s.heap s'.heap/\nJ P w H' s'.heap/\RelV v u/\Q v H'
noncomputable def CR (CX:vT)(outer:List Yw)(P:Program)(w:Ν)(H:Hp)(s:ρ)(Q:VK)(E:XK)(r:Zl)(s':ρ):Prop :=
 match r with
 |.ok (.ret u)=>CE outer P w H s Q u s'
 |.ok _=>False
 |.error e=>CX outer H s E e s'
structure nU (P:Program)(w:Ν)(K:Β)(mg:Str->Option Value)(base:Heap)(CX:vT)(k:Nat)(f:Addr)(fd:pi)(ps:List Str)(sp:Sp):Prop where
 len:∀vs H Q E,sp vs H Q E->vs.length=ps.length
 run:∀(A:Φ) (outer:List Yw) (s:ρ) (H:Hp) (args:Args) (us:List Value) (vs:List V) (Q:VK) (E:XK),gP k A->BM P w K mg base A outer s H->Zm s fd args (ps.zip us)->aT vs us->sp vs H Q E ->
  FM (Ζ P w) A (.call (.ref f) args) (CR CX outer P w H s Q E) s
variable {Q:VK}
section
variable {X:Cx}{pins:List (Addr×Obj)}{σ:St}{H:Hp}{s s':ρ}
theorem Inv.env0 (I:Inv X pins σ H s):BM X.prog X.w X.K X.mg X.base X.A X.stack s H :=
 ⟨I.ok.frames,I.ok.mod,I.bs,cu I.ok.Ox I.sz,I.stack,I.MQ,I.Ll,I.bare⟩
theorem Inv.after {u:Value}(I:Inv X pins σ H s)(h:CE X.stack X.prog X.w H s Q u s'):EP X pins σ Q u s':=by
 obtain⟨v,H',os,bare,un,Ll,r,q⟩:=h;obtain⟨hh,g,d,t,os'⟩:=s';obtain rfl:os'=s.os:=os;exact⟨v,H',I.call (h':=hh) (g':=g) (d':=d) (t':=t) (ch:=[]) un Ll bare (λb z=>absurd z (by simp)),r,q⟩
end
def qx (sp:Sp)(Nd:List V)(E:XK)(t:TA):TE:=λσ H Q=>t σ H λvs H1=>sp (vs++Nd) H1 Q E
noncomputable def Binds (K:Β)(fd:pi)(ps:List Str)(ds:List Value):Prop :=
 ∀(s:ρ) (us:List Value),K.In s.heap->(us++ds).length=ps.length->Zm s fd ⟨us,[]⟩ (ps.zip (us++ds))
variable {ps:List Str}
theorem Binds.all {K:Β}{fd:pi}(h:∀us:List Value,us.length=ps.length->Η fd ⟨us,[]⟩=pure (ps.zip us)):Binds K fd ps []:=λs us _ hl=>by
 rw[bc] at hl ⊢;exact .of_eq (h us hl)
def rG (CX:vT)(X:Cx)(E:XK):Prop:=∀(pins:List (Addr×Obj)) (σ:St) (H:Hp) (s:ρ) (e:Value) (s':ρ),Inv X pins σ H s->CX X.stack H s E e s'->X.xe e s'
variable {H:Hp}{s:ρ}{vs:List V}
section
variable {X:Cx}{CX:vT}{k:Nat}{f C:Addr}{fd:pi}{ps:List Str}{sp:Sp}{Nd:List V}{ds:List Value}{E:XK}{x m:Str}{p pos apos:GE}{e o:Expr}{es:List Expr}{ta:TE}{t:TA}
theorem BC {pins:List (Addr×Obj)}{σ:St}{us:List Value}(F:nU X.prog X.w X.K X.mg X.base CX k f fd ps sp)(hr:gP k X.A)(hb:Binds X.K fd ps ds)(hd:aT Nd ds)(hx:rG CX X E)
  (I:Inv X pins σ H s) (r:aT vs us) (h:sp (vs++Nd) H Q E):Ε (Ζ X.prog X.w) X.A (call (.ref f) us) (EP X pins σ Q) X.xe s:=by
 have r2:aT (vs++Nd) (us++ds):=r.append hd;have hl:(us++ds).length=ps.length:=by rw[<-r2.length];exact F.len _ _ _ _ h
 refine Z3 (X6 (F.run X.A X.stack s H ⟨us,[]⟩ (us++ds) (vs++Nd) Q E hr I.env0 (hb s us I.NR hl) r2 h) λr s' hq=>?_);cases r with
 |error e=>exact hx pins σ H s e s' I hq
 |ok fl=>
  cases fl with
  |ret u=>exact I.after hq
  |next=>exact bv hq
  |brk=>exact bv hq
  |cont=>exact bv hq
theorem Dn (F:nU X.prog X.w X.K X.mg X.base CX k f fd ps sp)(hr:gP k X.A)(hg:Gl X x)(hm:X.mg x=θ (.ref f))(hk:sw X.K (.ref f)=ζ)(hb:Binds X.K fd ps ds)(hd:aT Nd ds)(hx:rG CX X E)
  (ha:PA X (e::es) t) (N7:(x==("__debug__" : Str))=ε:=by decide) (he:Ι (e::es) X.env=(ε,eval e X.env)::Ι es X.env:=by rfl) (LQ:(Do pos (Ι es X.env)).any (·.1)=ε:=by rfl) :
  PE X (.Call (.Name x p) (e::es) [] pos) (qx sp Nd E t):=by
 intro pins s σ H Q I h;refine wn (n8 I hg hm ?_ N7);refine YF (h₀:=X.base) I.ok.mod.P6 hk (dG (ha pos pins s σ H _ I h) λus s1 ⟨vs,H1,I1,r,q⟩=>⟨I1.NR,?_⟩) he LQ;exact BC F hr hb hd hx I1 r q
theorem Am (F:nU X.prog X.w X.K X.mg X.base CX k f fd ps sp)(hr:gP k X.A)(hg:Gl X x)(hm:X.mg x=θ (.ref f))(hk:sw X.K (.ref f)=ζ)(hb:Binds X.K fd ps ds)(hd:aT Nd ds)(hx:rG CX X E)
  (N7:(x==("__debug__" : Str))=ε:=by decide):PE X (.Call (.Name x p) [] [] pos) (qx sp Nd E yV):=by
 intro pins s σ H Q I h;refine wn (n8 I hg hm ?_ N7);exact PySem.W.callWith_K0 I.NR hk (BC (us:=[]) F hr hb hd hx I .nil h)
end
section
variable {X:Cx}{CX:vT}{k:Nat}{f C:Addr}{fd:pi}{ps ks:List Str}{sp:Sp}{E:XK}{x m:Str}{p pos apos kpos:GE}{e o:Expr}{es:List Expr}{kws:List Zn}{te ta:TE}{t tk:TA}{nm:Option Str}
variable {g:List Value->List Value->List Value}{gV:List V->List V->List V}
end
structure eZ (N P:List Str)(sc:Scope):Prop where
 kind:sc.kind=.function
 co:sc.isCoroutine=ε
 gen:sc.isGenerator=ε
 nd:N.Nodup
 pre:N.take P.length=P
 par:∀x∈P,sc.names.lookup x=θ .local\/sc.names.lookup x=θ .cell
 OL:∀y∈sc.names,y.2≠.free
variable {kindOf:Str->Option NameKind}{x:Str}
theorem qW:∀{binds:List (Str×Value)}{m:Str->Option Value},(∀v,(x,v)∉binds)->Y1 kindOf binds m x=m x
 |[],_,_=>rfl
 | (n,v)::r,m,h=>by
  unfold Y1;rw[qW λw hw=>h w (aa _ hw)];split
  .have:x≠n:=by rintro rfl;exact h v ag
   simp[this]
  .rfl
theorem rA:∀{binds:List (Str×Value)}{m:Str->Option Value},(∀v,(x,v)∉binds)->Y2 kindOf binds m x=m x
 |[],_,_=>rfl
 | (n,v)::r,m,h=>by
  unfold Y2;rw[rA λw hw=>h w (aa _ hw)];split
  .rfl
  .have:x≠n:=by rintro rfl;exact h v ag
   simp[this]
variable {v:Value}
theorem qU:∀{P:List Str}{vs:List Value}{i:Nat}{m:Str->Option Value},P.Nodup->P[i]? = θ x->vs[i]? = θ v->kindOf x=θ .local ->
  Y1 kindOf (P.zip vs) m x=θ v
 |[],_,_,_,_,h,_,_=>by simp at h
 |_::_,[],_,_,_,_,h,_=>by simp at h
 |p::P,w::vs,0,m,nd,h1,h2,hk=>by
  simp at h1 h2;subst h1;subst h2;show Y1 kindOf ((p,w)::P.zip vs) m p=_;unfold Y1;rw[qW λv hv=>(jy.mp nd).1 (jx hv).1,if_pos hk];simp
 |p::P,w::vs,i+1,m,nd,h1,h2,hk=>by
  show Y1 kindOf ((p,w)::P.zip vs) m x=_;unfold Y1;exact qU (i:=i) (jy.mp nd).2 (by simpa using h1) (by simpa using h2) hk
theorem qw:∀{P:List Str}{vs:List Value}{i:Nat}{m:Str->Option Value},P.Nodup->P[i]? = θ x->vs[i]? = θ v->kindOf x≠θ .local ->
  Y2 kindOf (P.zip vs) m x=θ v
 |[],_,_,_,_,h,_,_=>by simp at h
 |_::_,[],_,_,_,_,h,_=>by simp at h
 |p::P,w::vs,0,m,nd,h1,h2,hk=>by
  simp at h1 h2;subst h1;subst h2;show Y2 kindOf ((p,w)::P.zip vs) m p=_;unfold Y2;rw[rA λv hv=>(jy.mp nd).1 (jx hv).1,if_neg hk];simp
 |p::P,w::vs,i+1,m,nd,h1,h2,hk=>by
  show Y2 kindOf ((p,w)::P.zip vs) m x=_;unfold Y2;exact qw (i:=i) (jy.mp nd).2 (by simpa using h1) (by simpa using h2) hk
noncomputable def start (N:List Str)(vs:List V):St:=vs.map θ++ν (N.length-vs.length) η
noncomputable def iB (CX:vT)(P:Program)(w:Ν)(K:Β)(mg:Str->Option Value)(base:Heap)(N:List Str)(qual:Str)(scope:Scope)(f:Addr)(cd:Value)(A:Φ)(outer:List Yw)(s:ρ)(H:Hp)(E:XK):Cx where
 prog:=P
 w:=w
 K:=K
 mg:=mg
 base:=base
 A:=A.deeper (P3 qual scope s.heap.objs.size f cd)
 N:=N
 s₀:=s
 H₀:=H
 env:=P3 qual scope s.heap.objs.size f cd
 outer:=outer
 stack:=P3 qual scope s.heap.objs.size f cd::outer
 ex:=[]
 calm:=ζ
 fn:=λ_=>ζ
 pn:=[]
 xe:=λe s'=>Ε (Ζ P w) (A.deeper (P3 qual scope s.heap.objs.size f cd)) (leaving (P3 qual scope s.heap.objs.size f cd) e) (λ_ RT=>CX outer H s E e RT) (λe' RT=>CX outer H s E e' RT) s'
theorem t9 {sc:Scope}{n:Nat}(h:sc.names.lookup x=θ .cell):∃c,(am n sc.names []).lookup x=θ c:=by
 have q:=jq sc.names n [] (.inl h);exact Option.isSome_iff_exists.mp q
variable {CX:vT}{P:Program}{base:Heap}{f:Addr}{mg:Str->Option Value}{qual:Str}{scope:Scope}{w:Ν}
theorem qV {K:Β}{N:List Str}{cd:Value}{outer:List Yw}{s1:ρ}{E:XK}{us:List Value}
  (S:eZ N ps scope) (hd:A.handled=η) (e0:BM P w K mg base A outer s H) (hl:vs.length=ps.length) (r:aT vs us)
  (x:InCallC s s.heap.objs.size (Y1 (P3 qual scope s.heap.objs.size f cd).kindOf (ps.zip us) λ_=>η) (am (s.heap.objs.size+1) scope.names []) (Y2 (P3 qual scope s.heap.objs.size f cd).kindOf (ps.zip us) λ_=>η) s1) :
  Inv (iB CX P w K mg base N qual scope f cd A outer s H E) [] (start N vs) H s1:=by
 have LQ:ps.length<=N.length:=by have:=fm ul S.pre;rw[dk] at this;omega
 obtain⟨h1,tk,rfl,hk⟩:=x.done;have PN:∀b:Addr,b∉(iB CX P w K mg base N qual scope f cd A outer s H E).ex:=λb z=>absurd (show b∈([]:List Addr) from z) (by simp)
 refine⟨⟨e0.mod,S.kind,rfl,rfl,au _,λy z c h1 h2=>?_,λy hy=>?_,λy c _ h=>?_,λ_=>hd,Around.frames_deeper e0.frames,.inr ⟨rfl,rfl⟩,λb z=>absurd z (PN b),e0.bs,e0.Ox,λb _ _=>PN b,λb z=>absurd z (PN b),e0.L3,e0.Pq⟩,
  rfl,e0.bare,Un.kept hk,⟨_,x.toInCall.ns,λi y v h1 h2 h3=>?_⟩,λy c h=>⟨_,x.cell y c h⟩,e0.Ll.fresh (au _),λy c h=>?_,λp hp=>absurd (show p∈([]:List (Addr×Obj)) from hp) (by simp),e0.Ll.kept hk,?_⟩
 .exact ą x.apart (cy h1) (cy h2)
 .have hy:scope.names.lookup y=θ .cell\/scope.names.lookup y=θ .free:=hy;rcases hy with hy|hy
  .exact t9 hy
  .exact absurd rfl (S.OL _ (cy hy))
 .exact XM (x.above y c (cy h))
 .have hi:i<vs.length:=by
   unfold start at h2;by_cases hi:i<vs.length
   .exact hi
   .rw[Μ (by simpa using hi)] at h2;rw[Ω] at h2;split at h2<;>cases h2
  have ha:vs[i]? = θ v:=by
   unfold start at h2;rw[Θ (by simpa using hi),π] at h2;cases e:vs[i]? with
   |none=>rw[e] at h2;cases h2
   |some a=>rw[e] at h2;cases h2;rfl
  obtain⟨u,hu,rv⟩:=r.get ha;have hp:ps[i]? = θ y:=by
   rw[<-S.pre,List.getElem?_take_of_lt (by omega)];exact h1
  have Wi:ps.Nodup:=by rw[<-S.pre];exact S.nd.sublist (List.take_sublist _ _)
  refine⟨u,rv,?_⟩;rcases S.par y (Α hp) with k|k
  .exact .inl ⟨k,qU Wi hp hu k⟩
  .obtain⟨c,e⟩:=t9 (n:=s.heap.objs.size+1) k;refine .inr ⟨.inl k,c,e,?_⟩;have q:=x.cell y c e;rw[qw Wi hp hu (by show scope.names.lookup y≠_;rw[k];decide)] at q;exact q
 .exact e0.Ll.fresh (XM (x.above y c (cy h)))
 .unfold start;show _=N.length;rw[az,ai,bf];omega
theorem JK {K:Β}{name:Str}{params:Arguments}{body:List Stmt}{dV kV doc pm Lo ct oc:Value}{an od:Option Addr}
  {NP:Array (Option Value)}{N:List Str}{sp:Sp}(lk:K.lookup f=θ ⟨oc,od,.func (jp name qual params body scope dV kV doc pm an Lo ct),NP⟩) (Mh:Ev K Lo qual=ζ) (S:eZ N ps scope)
  (len:∀vs H Q E,sp vs H Q E->vs.length=ps.length)
  (Mw:∀(A:Φ) (outer:List Yw) (s:ρ) (H:Hp) (vs:List V) (Q:VK) (E:XK),gP k (A.deeper (P3 qual scope s.heap.objs.size f Lo))->sp vs H Q E ->
   ∃t,lK (iB CX P w K mg base N qual scope f Lo A outer s H E) body t/\t { nx:=λ_ H'=>Q .Lj H',rt:=Q } (start N vs) H) :
  nU P w K mg base CX (k+1) f (jp name qual params body scope dV kV doc pm an Lo ct) ps sp:=by
 refine⟨len,λA outer s H args us vs Q E hr e0 hb r Ny=>?_⟩;have hl:=len _ _ _ _ Ny;have KX:K.In s.heap:=e0.mod.P6.keeps λb o e=>(e0.bs b o e).1
 have lim:s.heap.NoLimit:=e0.mod.nolimit.keeps λb o e=>(e0.bs b o e).1
 have NC:∀y∈ps.zip us,scope.names.lookup y.1=θ .local\/(scope.names.lookup y.1=θ .cell/\((am (s.heap.objs.size+1) scope.names []).lookup y.1).isSome=ζ):=λ⟨n,v⟩ hy=>by
  rcases S.par n (jx hy).1 with q|q
  .exact .inl q
  .exact .inr ⟨q,jq _ _ _ (.inl q)⟩
 refine Zr hr.depth (KX _ _ lk) rfl S.co S.gen rfl (YG KX Mh) (hb _ _ _ _ ?_);refine YH S.kind NC λenv he s1 x=>?_
 subst he;refine⟨lim.keeps x.toInCall.keep,Ć ?_⟩;obtain⟨t,ht,hq⟩:=Mw A outer s H vs Q E (hr.deeper _) Ny;have I:Inv (iB CX P w K mg base N qual scope f Lo A outer s H E) [] (start N vs) H s1:=qV S hr.hd e0 hl r x;refine kw (ht [] s1 (start N vs) H _ I hq) (λfl s' hs=>?_) λe s' hs=>hs
 have fin:∀{σ':St}{H':Hp}{v:V}{u:Value},Inv (iB CX P w K mg base N qual scope f Lo A outer s H E) [] σ' H' s'->RelV v u->Q v H'->CE outer P w H s Q u s' :=
  λ{σ' H' v u} J rv q=>⟨v,H',J.os,J.bare,J.base,J.Ll,rv,q⟩
 cases fl with
 |ret u=>
  obtain⟨v,σ',H',J,rv,q⟩:=hs;exact fin J rv q
 |next=>
  obtain⟨σ',H',J,q⟩:=hs;exact fin (v:=V.Lj) (u:=Tk) J rfl q
 |brk=>
  obtain⟨_,_,_,q⟩:=hs;exact bv q
 |cont=>
  obtain⟨_,_,_,q⟩:=hs;exact bv q
end L2
namespace L2
open PySem PySem.Spec PyProof.Rows
section
variable {X:Cx}{x:Str}{p pos:GE}{e:Expr}{es:List Expr}{t:TA}{id T:String}{r:List V->Hp->VK->Prop}
def QM (r:List V->Hp->VK->Prop)(t:TA):TE:=λσ H Q=>t σ H λvs H1=>r vs H1 Q
theorem uv (hc:gW X (.builtin id) r)(hg:Gl X x)(hm:X.mg x=η)(hv:wf x=θ (.builtin id))(ha:PA X (e::es) t)(hn:x≠"__name__":=by decide) (N7:(x==("__debug__" : Str))=ε:=by decide)
  (he:Ι (e::es) X.env=(ε,eval e X.env)::Ι es X.env:=by rfl) (LQ:(Do pos (Ι es X.env)).any (·.1)=ε:=by rfl):PE X (.Call (.Name x p) (e::es) [] pos) (QM r t):=by
 intro pins s σ H Q I h;refine wn (iQ I hg hm hv ?_ hn N7);exact Á (dG (ha pos pins s σ H _ I h) λus s1 ⟨vs,H1,I1,r1,q1⟩=>hc pins s1 σ H1 vs us Q I1 r1 q1) he LQ
theorem yL (hc:gW X (.type T) r)(hg:Gl X x)(hm:X.mg x=η)(hv:wf x=θ (.type T))(ha:PA X (e::es) t)(hn:x≠"__name__":=by decide) (N7:(x==("__debug__" : Str))=ε:=by decide)
  (he:Ι (e::es) X.env=(ε,eval e X.env)::Ι es X.env:=by rfl) (LQ:(Do pos (Ι es X.env)).any (·.1)=ε:=by rfl):PE X (.Call (.Name x p) (e::es) [] pos) (QM r t):=by
 intro pins s σ H Q I h;refine wn (iQ I hg hm hv ?_ hn N7);exact du (dG (ha pos pins s σ H _ I h) λus s1 ⟨vs,H1,I1,r1,q1⟩=>hc pins s1 σ H1 vs us Q I1 r1 q1) he LQ
end
end L2
namespace HT
open PySem PyProof.Rows
section
open PySem.SeqAt
open PySem.AutoSeq1 (wpAny_loadPart')
open PySem.MeetsSeq PySem.MeetsSeq2 PySem.MeetsSeq3
end
section
variable {prog:Program}{w:Ν}{A:Φ}{E:Value->ρ->Prop}{s:ρ}
noncomputable def kZ (n d:Nat):Option Int->Nat
 |none=>d
 |some v=>if v<0 then (v+(n:Int)).toNat else min v.toNat n
end
end HT
namespace L2
open PySem PySem.Spec PyProof.Rows
noncomputable abbrev TO:=St->Hp->(Option Int->Hp->Prop)->Prop
noncomputable def PO (X:Cx)(e:Option Expr)(t:TO):Prop :=
 ∀(pins:List (Addr×Obj)) (s:ρ) (σ:St) (H:Hp) (Q:Option Int->Hp->Prop),Inv X pins σ H s->t σ H Q ->
  Ε (Ζ X.prog X.w) X.A (evalPart e X.env) (λu s'=>∃o H',Inv X pins σ H' s'/\IsPart u o/\Q o H') X.xe s
noncomputable def Ep:TO:=λ_ H Q=>Q η H
noncomputable def Km (t:TE):TO:=λσ H Q=>t σ H λx H1=>∃i,x=.int i/\Q (θ i) H1
section
variable {X:Cx}{e:Expr}{te:TE}{lo hi:Option Expr}{tl th:TO}{pos p2:GE}
theorem DX:PO X η Ep:=by
 intro pins s σ H Q I h;rw[Ð];exact Χ ⟨η,H,I,.none,h⟩
theorem Eg (h:PE X e te):PO X (θ e) (Km te):=by
 intro pins s σ H Q I hw;rw[evalPart_some];refine dG (h pins s σ H _ I hw) λu s1 ⟨x,H1,I1,r1,q1⟩=>?_
 obtain⟨i,rfl,q⟩:=q1;obtain⟨t,rfl⟩:=r1;exact⟨θ i,H1,I1,.int i t,q⟩
noncomputable def Xr (X:Cx)(r:V->Option Int->Option Int->Hp->VK->Prop):Prop :=
 ∀(pins:List (Addr×Obj)) (s:ρ) (σ:St) (H:Hp) (x:V) (v vl vu:Value) (lo hi:Option Int) (sl:Addr) (Q:VK),Inv X pins σ H s->RelV x v->s.heap.IsSliceOf sl vl vu .none->IsPart vl lo->IsPart vu hi->r x lo hi H Q ->
  ∃T id,typeLookup (.type T) "__getitem__" = pure (θ (.builtin id))/\s.TypeIs v T/\Ε (Ζ X.prog X.w) X.A (ć v (.ref sl)) (EP X pins σ Q) X.xe s
def tSl (r:V->Option Int->Option Int->Hp->VK->Prop)(te:TE)(tl th:TO):TE:=λσ H Q=>te σ H λx H1=>tl σ H1 λl H2=>th σ H2 λu H3=>r x l u H3 Q
theorem zy {r:V->Option Int->Option Int->Hp->VK->Prop}(hr:Xr X r)(he:PE X e te)(hl:PO X lo tl)(hu:PO X hi th):PE X (.Subscript e (.Slice lo hi η p2) pos) (tSl r te tl th):=by
 intro pins s σ H Q I h;refine Subscript_ (dG (he pins s σ H _ I h) λv s1 ⟨x,H1,I1,r1,q1⟩=>?_);refine wpAny_Slice (dG (hl pins s1 σ H1 _ I1 q1) λvl s2 ⟨l,H2,I2,pl,q2⟩=>dG (hu pins s2 σ H2 _ I2 q2) λvu s3 ⟨u,H3,I3,pu,q3⟩=>?_);rw[Ð];refine Χ ?_;have I4:Inv X pins σ H3 { s3 with heap:=s3.heap.push { cls:=.type "slice",data:=.fields #[vl,vu,.none] } }:=I3.kept (t':=s3.toks) λb ob q=>ψ _ q
 obtain⟨T,id,hT,ht,hg⟩:=hr pins { s3 with heap:=s3.heap.push { cls:=.type "slice",data:=.fields #[vl,vu,.none] } } σ H3 x v vl vu l u s3.heap.objs.size Q I4 r1 (ç ..) pl pu q3;show Ε (Ζ X.prog X.w) X.A (Ñ e (.Slice lo hi η p2) v (.ref s3.heap.objs.size)) (EP X pins σ Q) X.xe { s3 with heap:=s3.heap.push { cls:=.type "slice",data:=.fields #[vl,vu,.none] } };exact tail_any (ops:=[.ref s3.heap.objs.size,v]) ht hT hg (by with_unfolding_all rfl)
noncomputable def yC (xs:List V)(lo hi:Option Int):List V:=(xs.drop (HT.kZ xs.length 0 lo)).take (HT.kZ xs.length xs.length hi-HT.kZ xs.length 0 lo)
theorem ui (xs:List V)(lo hi:Option Int):(yC xs lo hi).length<=xs.length:=by
 unfold yC;rw[dk,gn];omega
end
end L2
namespace L2
open PySem PySem.Spec PyProof.Rows
noncomputable def kQ (n:Nat)(i:Int):Option Nat:=if 0<=i then (if i<n then θ i.toNat else η) else if -(n:Int)<=i then θ (i+n).toNat else η
noncomputable def E9 {α:Type}(xs:List α)(i:Int):Option α:=(kQ xs.length i).bind λj=>xs[j]?
variable {i:Int}{n:Nat}
theorem xu {j:Nat}(h:kQ n i=θ j):Yd i n=θ j/\j<n/\-(n:Int)<=i/\i<n:=by
 unfold kQ at h;by_cases h0:0<=i
 .rw[if_pos h0] at h;by_cases h1:i<n
  .rw[if_pos h1] at h;have e:i.toNat=j:=eo h;exact⟨by rw[ZD h0 h1,e],by omega,by omega,h1⟩
  .rw[if_neg h1] at h;cases h
 .rw[if_neg h0] at h;by_cases h1 : -(n:Int)<=i
  .rw[if_pos h1] at h;have e:(i+n).toNat=j:=eo h;exact⟨by rw[Zo (by omega) h1,e],by omega,h1,by omega⟩
  .rw[if_neg h1] at h;cases h
theorem wY {α:Type}{xs:List α}{v:α}(h:E9 xs i=θ v):∃j,Yd i xs.length=θ j/\xs[j]? = θ v/\j<xs.length/\-(xs.length:Int)<=i/\i<xs.length:=by
 unfold E9 at h;cases e:kQ xs.length i with
 |none=>rw[e] at h;cases h
 |some j=>
  rw[e] at h;obtain⟨h1,h2,h3,h4⟩:=xu e;exact⟨j,h1,h,h2,h3,h4⟩
def oj (b:Expr):Prop:=∀o i,ē b ε o i=operate [o,i] (ć o i)
noncomputable def DT (X:Cx)(r:R2):Prop :=
 ∀(value slice:Expr) (pins:List (Addr×Obj)) (s:ρ) (σ:St) (H:Hp) (x y:V) (v u:Value) (Q:VK),Inv X pins σ H s->RelV x v->RelV y u->r x y H Q ->
  ē slice ε v u=operate [v,u] (ć v u)->Ε (Ζ X.prog X.w) X.A (Ñ value slice v u) (EP X pins σ Q) X.xe s
noncomputable def Ir (X:Cx)(id:String)(r:V->List V->Hp->VK->Prop):Prop :=
 ∀(pins:List (Addr×Obj)) (s:ρ) (σ:St) (H:Hp) (x:V) (xs:List V) (v:Value) (us:List Value) (Q:VK),Inv X pins σ H s->RelV x v->aT xs us->r x xs H Q ->
  Ε (Ζ X.prog X.w) X.A (call (.builtin id) (v::us)) (EP X pins σ Q) X.xe s
variable {A:Φ}{H:Hp}{p:Addr}{pins:List (Addr×Obj)}{r:R2}{s:ρ}{u v:Value}{x y:V}{xs:List V}
section
variable {X:Cx}{a b:Expr}{ta tb:TE}{pos:GE}
theorem DT.or {r':R2}(h:DT X r)(h':DT X r'):DT X (λx y H Q=>r x y H Q\/r' x y H Q):=by
 intro value slice pins s σ H x y v u Q I rx ry q hs;rcases q with q|q
 .exact h value slice pins s σ H x y v u Q I rx ry q hs
 .exact h' value slice pins s σ H x y v u Q I rx ry q hs
theorem Fd (hr:DT X r)(ha:PE X a ta)(hb:PE X b tb)(hs:oj b):PE X (.Subscript a b pos) (Jh r ta tb):=by
 intro pins s σ H Q I h;exact Subscript_ (GV ha hb I h λv u s2 x y H2 I2 rx ry q=>hr a b pins s2 σ H2 x y v u Q I2 rx ry q (hs _ _))
noncomputable def Se (K:Β):R2:=λx y H Q=>∃p xs i v,x=.ref p/\y=.int i/\mL K H p xs/\E9 xs i=θ v/\Q v H
noncomputable def Sd (K:Β):R2:=λx y H Q=>∃p xs i v,x=.ref p/\y=.int i/\rb K H p xs/\E9 xs i=θ v/\Q v H
theorem xy:DT X (Se X.K):=by
 intro value slice pins s σ H x y v u Q I rx ry h hs;obtain⟨p,xs,i,z,rfl,rfl,hq,he,q⟩:=h;cases rx;obtain⟨t,rfl⟩:=ry;obtain⟨its,r,pl,hz⟩:=I.list hq;obtain⟨j,h1,h2,h3,h4,h5⟩:=wY he;obtain⟨w,ew,gJ⟩:=r.get h2;have hl:=r.length;have hn:=oN;have fin:EP X pins σ Q w s:=⟨z,H,I,gJ,q⟩;by_cases h0:0<=i
 .have hj:i.toNat=j:=by
   rw[ZD h0 h5] at h1;exact eo h1
  exact item_listR pl.isList h0 (by omega) (by rw[hj];simpa using ew) fin hs
 .have hj:(i+(its.toArray.size:Int)).toNat=j:=by
   rw[Zo (by omega) h4] at h1;rw[ao,<-hl];exact eo h1
  exact Ch (x:=w) pl.isList.typeIs è.lookup
   (wpAny_getItem_list_neg (Q:=λr s'=>r=w/\EP X pins σ Q r s') pl.isList (by omega) (by rw[ao]<;>omega) (by omega) (by rw[hj];simpa using ew) ⟨rfl,fin⟩) hs
theorem z9:DT X (Sd X.K):=by
 intro value slice pins s σ H x y v u Q I rx ry h hs;obtain⟨p,xs,i,z,rfl,rfl,hq,he,q⟩:=h;cases rx;obtain⟨t,rfl⟩:=ry;obtain⟨its,r,pl,hz⟩:=I.tuple hq;obtain⟨j,h1,h2,h3,h4,h5⟩:=wY he;obtain⟨w,ew,gJ⟩:=r.get h2;have hl:=r.length;have hn:=oN;have fin:EP X pins σ Q w s:=⟨z,H,I,gJ,q⟩;exact Ch (x:=w) pl.typeIs slot_tuple_getitem.lookup
  (getItem_tuple (j:=j) (Q:=λr s'=>r=w/\EP X pins σ Q r s') pl (by omega) (by omega) (by rw[ao,<-hl];exact h1) (by simpa using ew) ⟨rfl,fin⟩) hs
theorem vY (its:List Value)(n j:Nat)(u:Value):XA (·.setIfInBounds j u) { cls:=.type "list",data:=.seq its.toArray n }={ cls:=.type "list",data:=.seq (its.set j u).toArray n }:=by
 simp[XA]
theorem Inv.lst {σ:St}(I:Inv X pins σ H s)(h:H p=θ (.lst xs)) :
  ∃(its:List Value) (n:Nat),aT xs its/\s.heap.get? p=θ { cls:=.type "list",data:=.seq its.toArray n }/\xs.length<=sizeLine:=by
 obtain⟨z,its,n,r,e⟩:=I.Ll p _ h;exact⟨its,n,r,e,z⟩
theorem Inv.ON {σ:St}{ys:List V}{its its':List Value}{n':Nat}{f:Obj->Obj}(I:Inv X pins σ H s)(h:H p=θ (.lst xs))
  (ho:s.heap.get? p=θ { cls:=.type "list",data:=.seq its.toArray n }) (hf:f { cls:=.type "list",data:=.seq its.toArray n }={ cls:=.type "list",data:=.seq its'.toArray n' }) (r:aT ys its') (hz:ys.length<=sizeLine) (t:Nat) :
  Inv X pins σ (upd H p (.lst ys)) { s with heap:=s.heap.update p f,toks:=t }:=by
 have e:(s.heap.update p f).get? p=θ { cls:=.type "list",data:=.seq its'.toArray n' }:=by
  rw[KM f ho (by rw[hf]<;>rfl),hf]
 refine I.write (x:=p) (e:=p) (by rw[h];trivial) (.inl rfl) (λb u hb q=>(db _ _ (cv hb)).trans q) ⟨_,e⟩ ?_;exact⟨hz,its',n',r,e⟩
def Fh:V->V->V->Hp->(Hp->Prop)->Prop:=λo i v H Q=>∃p xs k j,o=.ref p/\i=.int k/\H p=θ (.lst xs)/\kQ xs.length k=θ j/\Q (upd H p (.lst (xs.set j v)))
theorem set_list:Kq X Fh:=by
 intro pins s σ H o i v ov iv u Q I ro ri rv h;obtain⟨p,xs,k,j,rfl,rfl,hp,hj,q⟩:=h;cases ro;obtain⟨t,rfl⟩:=ri;obtain⟨its,n,r,ho,hz⟩:=I.lst hp;obtain⟨h1,h2,h3,h4⟩:=xu hj;have hl:=r.length;have hn:=oN;have I':Inv X pins σ (upd H p (.lst (xs.set j v))) { s with heap:=s.heap.update p (XA (·.setIfInBounds j u)) } :=
  I.ON hp ho (vY its n j u) (r.set rv j) (by rw[ak];exact hz) s.toks
 by_cases h0:0<=k
 .have hk:k.toNat=j:=by
   rw[ZD h0 h4] at h1;exact eo h1
  exact PySem.W.ki_setAt ho h0 (by omega) (by rw[ao,<-hl];exact h4) (by rw[hk];exact⟨_,I',q⟩)
 .have hk:(k+(its.toArray.size:Int)).toNat=j:=by
   rw[Zo (by omega) h3] at h1;rw[ao,<-hl];exact eo h1
  exact PySem.W.ki_setBack ho (by omega) (by rw[ao,<-hl];exact h3) (by omega) (by rw[hk];exact⟨_,I',q⟩)
theorem sf (lo hi:Option Int)(n:Nat):(Go lo hi η n).1=((HT.kZ n 0 lo:Nat):Int)/\(Go lo hi η n).2.1=((HT.kZ n n hi:Nat):Int)/\(Go lo hi η n).2.2=1:=by
 refine⟨?_,?_,rfl⟩
 .cases lo with
  |none=>simp[Go,HT.kZ]
  |some i=>
   simp only[Go,HT.kZ,Y3,show (1:Int) > 0 by decide,if_true];by_cases h:i<0
   .simp only[h,if_true]<;>omega
   .simp only[h,if_false]<;>omega
 .cases hi with
  |none=>simp[Go,HT.kZ]
  |some i=>
   simp only[Go,HT.kZ,Y3,show (1:Int) > 0 by decide,if_true];by_cases h:i<0
   .simp only[h,if_true]<;>omega
   .simp only[h,if_false]<;>omega
theorem p9 (its:List Value)(lo hi:Option Int):slicePick its.toArray lo hi η=((its.drop (HT.kZ its.length 0 lo)).take (HT.kZ its.length its.length hi-HT.kZ its.length 0 lo)).toArray:=by
 obtain⟨h1,h2,h3⟩:=sf lo hi its.toArray.size;unfold slicePick;rw[h1,h2,h3];simp only[sliceRange_one,pick_run,ao]<;>rfl
def Sa (K:Β):V->Option Int->Option Int->Hp->VK->Prop:=λx lo hi H Q=>∃a xs,x=.ref a/\mL K H a xs/\∀p,H p=η->Q (.ref p) (upd H p (.lst (yC xs lo hi)))
theorem Dw:Xr X (Sa X.K):=by
 intro pins s σ H x v vl vu lo hi sl Q I rx hs pl pu h;obtain⟨a,xs,rfl,hx,q⟩:=h;cases rx;obtain⟨its,r,ht,hz⟩:=I.list hx;have hlen:=r.length;refine⟨"list",_,è.lookup,ht.isList.typeIs,?_⟩;refine wpAny_getItem_list_slice ht.isList hs pl pu .none (by simp) ?_ (by rw[ao]<;>omega);rw[p9,<-hlen];refine⟨.ref s.heap.objs.size,_,I.laid (t':=s.toks) (o:=.lst (yC xs lo hi)) (λb ob q=>ψ _ q) (au _) ?_,rfl,q _ (I.Ll.fresh (au _))⟩;exact⟨cu (ui xs lo hi) hz,_,0,(r.drop (HT.kZ xs.length 0 lo)).take (HT.kZ xs.length xs.length hi-HT.kZ xs.length 0 lo),Λ _ rfl⟩
noncomputable def km:V->Bool
 |.Lj=>ζ
 |.bl _=>ζ
 |.int _=>ζ
 |.str _=>ζ
 |_=>ε
noncomputable def Cr:V->V->Bool
 |.Lj,.Lj=>ζ
 |.bl a,.bl b=>a==b
 |.bl a,.int b=>(if a then 1 else 0)==b
 |.int a,.bl b=>a==(if b then 1 else 0)
 |.int a,.int b=>a==b
 |.str a,.str b=>a==b
 |_,_=>ε
theorem Hc (ry:RelV y u)(rx:RelV x v)(fy:km y=ζ)(fx:km x=ζ):TW A s u v (Cr y x):=by
 cases y with
 |Lj=>
  cases ry;cases x with
  |Lj=>cases rx;exact Ò _
  |bl b=>cases rx;exact Ó b
  |int b=>obtain⟨t,rfl⟩:=rx;exact Ô b t
  |str b=>obtain⟨t,rfl⟩:=rx;exact Õ b t
  |_=>exact absurd (show ε=ζ from fx) ba
 |bl a=>
  cases ry;cases x with
  |Lj=>cases rx;exact Ö a
  |bl b=>cases rx;exact Ø a b
  |int b=>obtain⟨t,rfl⟩:=rx;exact Ù a b t
  |str b=>obtain⟨t,rfl⟩:=rx;exact Ú a b t
  |_=>exact absurd (show ε=ζ from fx) ba
 |int a=>
  obtain⟨t',rfl⟩:=ry;cases x with
  |Lj=>cases rx;exact Û a t'
  |bl b=>cases rx;exact Ü a t' b
  |int b=>obtain⟨t,rfl⟩:=rx;exact Ý a t' b t
  |str b=>obtain⟨t,rfl⟩:=rx;exact Yj a t' b t
  |_=>exact absurd (show ε=ζ from fx) ba
 |str a=>
  obtain⟨t',rfl⟩:=ry;cases x with
  |Lj=>cases rx;exact Þ a t'
  |bl b=>cases rx;exact Ā a t' b
  |int b=>obtain⟨t,rfl⟩:=rx;exact Yk a t' b t
  |str b=>obtain⟨t,rfl⟩:=rx;exact ā a t' b t
  |_=>exact absurd (show ε=ζ from fx) ba
 |_=>exact absurd (show ε=ζ from fy) ba
noncomputable def vW (x:V)(u:Value):Bool:=match u with
 |.none=>Cr .Lj x
 |.bool b=>Cr (.bl b) x
 |.int i _=>Cr (.int i) x
 |.str z _=>Cr (.str z) x
 |_=>ε
theorem BF (r:RelV y u)(f:km y=ζ):vW x u=Cr y x:=by
 cases y with
 |Lj=>cases r;rfl
 |bl b=>cases r;rfl
 |int i=>obtain⟨t,rfl⟩:=r;rfl
 |str z=>obtain⟨t,rfl⟩:=r;rfl
 |_=>exact absurd (show ε=ζ from f) ba
theorem lN:∀{xs:List V}{us:List Value},aT xs us->xs.all km=ζ->us.any (vW x)=xs.any λy=>Cr y x
 |_,_,.nil,_=>rfl
 |y::xs,u::us,.cons r t,f=>by
  rw[fh,aj] at f;rw[fv,fv,BF r f.1,lN t f.2]
theorem kx (rx:RelV x v)(fx:km x=ζ):∀{xs:List V}{us:List Value},aT xs us->xs.all km=ζ->∀u∈us,TW A s u v (vW x u)
 |_,_,.nil,_=>λu hu=>by cases hu
 |y::xs,u::us,.cons r t,f=>λu' hu=>by
  rw[fh,aj] at f;rcases fe.mp hu with rfl|hu
  .rw[BF r f.1];exact Hc r rx f.1 fx
  .exact kx rx fx t f.2 u' hu
noncomputable def Q7 (x:V)(xs:List V):Bool:=xs.any λy=>Cr y x
noncomputable def Wa (K:Β)(neg:Bool):R2:=λx y H Q=>∃p xs,y=.ref p/\(mL K H p xs\/rb K H p xs)/\km x=ζ/\xs.all km=ζ/\Q (.bl (if neg then !Q7 x xs else Q7 x xs)) H
theorem yb:mI X (kt .In) (Wa X.K ε):=by
 intro pins s σ H x y v u Q I rx ry h;obtain⟨p,xs,rfl,hq,fx,fs,q⟩:=h;cases ry;rcases hq with hq|hq
 .obtain⟨its,r,pl,hz⟩:=I.list hq;refine SeqAt.in_listAt (vW x) pl.isList (λw hw=>kx rx fx r fs w (by simpa using hw)) ⟨.bl _,H,I,rfl,?_⟩;rw[show its.toArray.any (vW x)=its.any (vW x) by simp,lN r fs];exact q
 .obtain⟨its,r,pl,hz⟩:=I.tuple hq;refine SeqAt.in_tupleAt (vW x) pl (λw hw=>kx rx fx r fs w (by simpa using hw)) ⟨.bl _,H,I,rfl,?_⟩;rw[show its.toArray.any (vW x)=its.any (vW x) by simp,lN r fs];exact q
theorem rO:mI X (kt .NotIn) (Wa X.K ζ):=by
 intro pins s σ H x y v u Q I rx ry h;obtain⟨p,xs,rfl,hq,fx,fs,q⟩:=h;cases ry;rcases hq with hq|hq
 .obtain⟨its,r,pl,hz⟩:=I.list hq;refine SeqAt.notIn_listAt (vW x) pl.isList (λw hw=>kx rx fx r fs w (by simpa using hw)) ⟨.bl _,H,I,rfl,?_⟩;rw[show its.toArray.any (vW x)=its.any (vW x) by simp,lN r fs];exact q
 .obtain⟨its,r,pl,hz⟩:=I.tuple hq;refine SeqAt.notIn_tupleAt (vW x) pl (λw hw=>kx rx fx r fs w (by simpa using hw)) ⟨.bl _,H,I,rfl,?_⟩;rw[show its.toArray.any (vW x)=its.any (vW x) by simp,lN r fs];exact q
theorem lL:gW X (.builtin "len") (λxs H Q=>∃p ys,xs=[.ref p]/\(mL X.K H p ys\/rb X.K H p ys)/\Q (.int ys.length) H):=by
 intro pins s σ H xs us Q I r h;obtain⟨p,ys,rfl,hq,q⟩:=h;obtain⟨u,rfl,rx⟩:=vals1 r;cases rx;have hn:=oN;rcases hq with hq|hq
 .obtain⟨its,r',pl,hz⟩:=I.list hq;have hlen:=r'.length;exact Calls.call_len_list pl.isList (by simp only[ao]<;>omega) ⟨.int ys.length,H,I.tok _,⟨s.toks+1,by rw[ao,hlen]⟩,q⟩
 .obtain⟨its,r',pl,hz⟩:=I.tuple hq;have hlen:=r'.length;exact len_tuple pl (by simp only[ao]<;>omega) ⟨.int ys.length,H,I.tok _,⟨s.toks+1,by rw[ao,hlen]⟩,q⟩
theorem lT:gW X (.type "list") (λxs H Q=>∃p ys,xs=[.ref p]/\(mL X.K H p ys\/rb X.K H p ys)/\∀l,H l=η->Q (.ref l) (upd H l (.lst ys))):=by
 intro pins s σ H xs us Q I r h;obtain⟨p,ys,rfl,hq,q⟩:=h;obtain⟨u,rfl,rx⟩:=vals1 r;cases rx;have fin:∀(its:List Value),aT ys its->ys.length<=sizeLine->∀(h':Heap) (c':Nat),(∀b o',s.heap.get? b=θ o'->h'.get? b=θ o') ->
   h'.get? s.heap.objs.size=θ { cls:=.type "list",dict:=η,data:=.seq its.toArray c',slots:=#[] }->EP X pins σ Q (.ref s.heap.objs.size) { s with heap:=h' }:=λits r' hz h' c' kp e=>
  ⟨.ref s.heap.objs.size,_,I.laid (t':=s.toks) kp (au _) (show dI X.prog X.w _ h' _ (.lst ys) from ⟨hz,its,c',r',e⟩),rfl,q _ (I.Ll.fresh (au _))⟩
 rcases hq with hq|hq
 .obtain⟨its,r',pl,hz⟩:=I.list hq;have hlen:=r'.length;obtain⟨o,ho,hc,n,hd⟩:=pl.isList;exact Ă p (.inl rfl) ho hc hd (λh' c' kp e=>fin its r' hz h' c' kp e) (by simp only[ao]<;>omega)
 .obtain⟨its,r',pl,hz⟩:=I.tuple hq;have hlen:=r'.length;obtain⟨o,ho,hc,n,hd⟩:=pl;exact Ă p (.inr rfl) ho hc hd (λh' c' kp e=>fin its r' hz h' c' kp e) (by simp only[ao]<;>omega)
def Rw (K:Β)(T:String)(x:V)(H:Hp):Prop:=match x with
 |.str _=>T = "str"
 |.int _=>T = "int"
 |.ref p=>(T = "list"/\∃xs,mL K H p xs)\/(T = "tuple"/\∃o,K.lookup p=θ o/\o.cls=.type "tuple"/\o.dict=η) \/
   (T = "dict"/\((∃kvs,H p=θ (.dK kvs))\/∃kvs,H p=θ (.dT kvs)))\/(T = "set"/\∃S n,H p=θ (.set S n))
 |_=>False
theorem Ci {σ:St}{T:String}(I:Inv X pins σ H s)(r:RelV x v)(ty:Rw X.K T x H) :
  s.TypeIs v T/\∀a,v=.ref a->∃ob,s.heap.get? a=θ ob/\ob.dict=η:=by
 cases x with
 |str z=>
  obtain⟨t,rfl⟩:=r;cases (show T = "str" from ty);exact⟨typeIs_str s z t,λ_ e=>nomatch e⟩
 |int i=>
  obtain⟨t,rfl⟩:=r;cases (show T = "int" from ty);exact⟨YI s i t,λ_ e=>nomatch e⟩
 |ref p=>
  cases r;rcases ty with ⟨rfl,xs,hq⟩|⟨rfl,o,hk,hc,hd⟩|⟨rfl,hk⟩|⟨rfl,S,n,hk⟩
  .obtain⟨its,_,pl,_⟩:=I.list hq;refine⟨pl.isList.typeIs,λa e=>?_⟩;cases e;obtain⟨o,n,e,c,hd,_⟩:=pl;exact⟨o,e,hd⟩
  .refine⟨⟨o,I.NR p o hk,hc⟩,λa e=>?_⟩;cases e;exact⟨o,I.NR _ o hk,hd⟩
  .have z:∃o,s.heap.get? p=θ o/\o.ExactDict:=by
    rcases hk with ⟨kvs,hk⟩|⟨kvs,hk⟩
    .obtain⟨_,_,_,_,o,_,_,e,ex,_⟩:=I.Ll p _ hk;exact⟨o,e,ex⟩
    .obtain⟨_,_,_,_,o,_,_,e,ex,_⟩:=I.Ll p _ hk;exact⟨o,e,ex⟩
   obtain⟨o,e,ex⟩:=z;refine⟨⟨o,e,ex.1⟩,λa e2=>?_⟩;cases e2;exact⟨o,e,ex.2.1⟩
  .obtain⟨o,_,_,_,e,ex,_⟩:=I.Ll p _ hk;refine⟨⟨o,e,ex.1⟩,λa e2=>?_⟩;cases e2;exact⟨o,e,ex.2.1⟩
 |_=>exact bv ty
def JS (K:Β)(T:String)(r:V->List V->Hp->VK->Prop)(to:TE):TE:=λσ H Q=>to σ H λx H1=>Rw K T x H1/\r x [] H1 Q
def DB (K:Β)(T:String)(r:V->List V->Hp->VK->Prop)(to:TE)(t:TA):TE:=λσ H Q=>to σ H λx H1=>Rw K T x H1/\t σ H1 λxs H2=>r x xs H2 Q
variable {o e:Expr}{es:List Expr}{to:TE}{t:TA}{name:Str}{apos cpos:GE}{T id:String}{r:V->List V->Hp->VK->Prop}
theorem HM (pa:PlainAttrs T)(slot:Slot T name id)(MA:Z4 (.builtin id)=pure (.type "method_descriptor")) (hm:Ir X id r) (ho:PE X o to)
  (NG:XV o name X.env (eval o X.env)=eval o X.env:=by rfl) (NB:(apos.endLine==cpos.line)=ζ:=by rfl):PE X (.Call (.Attribute o name apos) [] [] cpos) (JS X.K T r to):=by
 intro pins s σ H Q I h;refine wpAny_Call_method0_late NG NB (dG (ho pins s σ H _ I h) λv s1 ⟨x,H1,I1,r1,ty,q1⟩=>?_);obtain⟨h1,h2⟩:=Ci I1 r1 ty;exact⟨T,id,pa,slot,MA,h1,h2,Yq rfl (PySem.evalArgs_none (hm pins s1 σ H1 x [] v [] Q I1 r1 .nil q1))⟩
theorem nF (pa:PlainAttrs T)(slot:Slot T name id)(MA:Z4 (.builtin id)=pure (.type "method_descriptor")) (hm:Ir X id r) (ho:PE X o to) (ha:PA X (e::es) t)
  (NG:XV o name X.env (eval o X.env)=eval o X.env:=by rfl)
  (Tu:((Do cpos (Ι (e::es) X.env)).all (λx=>!x.1)&&(backToKw cpos (keywordEach [] X.env)).all (λx=>x.1.isSome)
   && decide ((e::es).length+([]:List Zn).length+(if ([]:List Zn).isEmpty then 0 else 1)<30))=ζ:=by rfl)
  (NB:(apos.endLine==cpos.line)=ζ:=by rfl) (hs:Ι (e::es) X.env=(ε,eval e X.env)::Ι es X.env:=by rfl) (OW:(Do cpos (Ι es X.env)).any (·.1)=ε:=by rfl) :
  PE X (.Call (.Attribute o name apos) (e::es) [] cpos) (DB X.K T r to t):=by
 intro pins s σ H Q I h;refine wpAny_Call_method_late NG Tu NB rfl (dG (ho pins s σ H _ I h) λv s1 ⟨x,H1,I1,r1,ty,q1⟩=>?_);obtain⟨h1,h2⟩:=Ci I1 r1 ty;refine⟨T,id,pa,slot,MA,h1,h2,?_⟩;have hA:=ha cpos pins s1 σ H1 _ I1 q1;rw[hs] at hA ⊢;refine Yq (by show (ε || (Do cpos (Ι es X.env)).any (·.1))=ε;rw[OW]<;>rfl) (Calls.evalArgs_plain ?_);exact dG hA λus s2 ⟨vs,H2,I2,r2,q2⟩=>hm pins s2 σ H2 x vs v us Q I2 r1 r2 q2
end
end L2
namespace L2
open PySem PySem.Spec PyProof.Rows
noncomputable def DC (X:Cx)(id:String)(r:V->List V->Hp->VK->Prop):Prop :=
 ∀(pins:List (Addr×Obj)) (s:ρ) (σ:St) (H:Hp) (x:V) (xs:List V) (v:Value) (us:List Value) (Q:VK),Inv X pins σ H s->RelV x v->aT xs us->r x xs H Q ->
  Ε (Ζ X.prog X.w) X.A (call (.builtin id) (v::us)) (EP X pins σ Q) X.xe s
theorem aT.one:∀{x:V}{us:List Value},aT [x] us->∃u,us=[u]/\RelV x u
 |_,_,.cons r .nil=>⟨_,rfl,r⟩
theorem aT.two:∀{x y:V}{us:List Value},aT [x,y] us->∃u v,us=[u,v]/\RelV x u/\RelV y v
 |_,_,_,.cons r (.cons q .nil)=>⟨_,_,rfl,r,q⟩
theorem aT.zero:∀{us:List Value},aT [] us->us=[]
 |_,.nil=>rfl
variable {us:List Value}{xs:List V}
theorem aT.dropLast (h:aT xs us):aT xs.dropLast us.dropLast:=by
 induction h with
 |nil=>exact .nil
 |cons r t ih=>
  cases t with
  |nil=>exact .nil
  |cons q t'=>exact .cons r ih
theorem aT.eraseIdx:∀{xs:List V}{us:List Value}(i:Nat),aT xs us->aT (xs.eraseIdx i) (us.eraseIdx i)
 |_,_,_,.nil=>.nil
 |_,_,0,.cons _ t=>t
 |_,_,i+1,.cons r t=>.cons r (aT.eraseIdx i t)
theorem aT.rep (h:aT xs us):∀k:Nat,aT (ν k xs).flatten (ν k us).flatten
 |0=>.nil
 |k+1=>by
  rw[dq,dq,dz,dz];exact aT.append h (aT.rep h k)
theorem pS {α:Type}(l:List α):l.eraseIdx (l.length-1)=l.dropLast:=by
 induction l with
 |nil=>rfl
 |cons a r ih=>
  cases r with
  |nil=>rfl
  |cons b r=>
   have e:(a::b::r).length-1=((b::r).length-1)+1:=by
    have h1:(a::b::r).length=r.length+2:=rfl;have h2:(b::r).length=r.length+1:=rfl;omega
   rw[e,List.eraseIdx_cons_succ,ih]
   all_goals rfl
theorem qS {α:Type}:∀(l:List α) (i:Nat),(l.eraseIdx i).length<=l.length
 |[],_=>au _
 |_::_,0=>X0 _
 |_::r,i+1=>Nat.succ_le_succ (qS r i)
theorem foldl_rep (its:List Value):∀(k:Nat) (acc:List Value),
  Y4 (λx1 x2=>x1++x2) acc.toArray (ν k its.toArray)=(acc++(ν k its).flatten).toArray
 |0,acc=>by simp
 |k+1,acc=>by
  have e:acc.toArray++its.toArray=(acc++its).toArray:=by simp
  have e2:(acc++its)++(ν k its).flatten=acc++(ν (k+1) its).flatten:=by
   rw[dq,dz,ef]
  rw[<-e2,<-foldl_rep its k (acc++its),<-e,dq,List.foldl_cons]
variable {n:Nat}
section
variable {X:Cx}{pins:List (Addr×Obj)}{σ:St}{H:Hp}{s:ρ}{l b:Addr}{xs ys zs:List V}
theorem Inv.Nv {its its':List Value}{f:Array Value->Array Value}{t':Nat}(I:Inv X pins σ H s)(hH:H l=θ (.lst xs))
  (e:s.heap.get? l=θ { cls:=.type "list",data:=.seq its.toArray n }) (hf:f its.toArray=its'.toArray) (hv:aT ys its') (hz:ys.length<=sizeLine) :
  Inv X pins σ (upd H l (.lst ys)) { s with heap:=s.heap.update l (XA f),toks:=t' }:=by
 have q:=Ĉ e f;rw[hf] at q;refine I.write (x:=l) (e:=l) (by rw[hH];exact trivial) (.inl rfl) (λb' u hb hu=>(db s.heap (XA f) (cv hb)).trans hu) ⟨_,q⟩ ?_;exact⟨hz,its',_,hv,q⟩
theorem Inv.OQ {its:List Value}{t':Nat}(I:Inv X pins σ H s)(hv:aT ys its)(hz:ys.length<=sizeLine) :
  Inv X pins σ (upd H s.heap.objs.size (.lst ys)) { s with heap:=s.heap.push { cls:=.type "list",data:=.seq its.toArray },toks:=t' } :=
 I.laid (λ_ _ q=>ψ _ q) (au _) ⟨hz,its,0,hv,Λ _ rfl⟩
theorem Inv.fresh (I:Inv X pins σ H s):H s.heap.objs.size=η:=I.Ll.fresh (au _)
theorem Inv.vD (I:Inv X pins σ H s)(hH:H l=θ (.lst xs)):xs.length<=sizeLine/\∃(its:List Value) (n:Nat),aT xs its/\xs.length=its.length/\s.heap.get? l=θ { cls:=.type "list",data:=.seq its.toArray n }:=by
 obtain⟨z,its,n,r,e⟩:=I.Ll l _ hH;exact⟨z,its,n,r,r.length,e⟩
theorem tw (h:n<=sizeLine):wp n=ε:=by
 unfold wp;exact bh (by omega)
end
section
variable {X:Cx}
def C2:V->List V->Hp->VK->Prop:=λx vs H Q=>∃l xs y,x=.ref l/\vs=[y]/\H l=θ (.lst xs)/\xs.length<sizeLine/\Q .Lj (upd H l (.lst (xs ++ [y])))
theorem qy:DC X "list.append" C2:=by
 intro pins s σ H x vs v us Q I rx rv h;obtain⟨l,xs,y,rfl,rfl,hH,hz,q⟩:=h;cases rx;obtain⟨u,rfl,ru⟩:=rv.one;obtain⟨z,its,n,r,hl,e⟩:=I.vD hH;refine EQ ij ⟨_,e,rfl⟩ F.entry_list_append (F.args_list_append_2 _ _) (PySem.list_append l its.toArray n u (by rw[ao];omega)) ⟨e,?_⟩;refine⟨.Lj,_,I.Nv (its':=its ++ [u]) hH e (by simp) (r.append (.cons ru .nil)) ?_,rfl,q⟩;rw[az,i4];omega
def Sb:V->List V->Hp->VK->Prop:=λx vs H Q=>∃l xs y,x=.ref l/\vs=[]/\H l=θ (.lst xs)/\xs[xs.length-1]? = θ y/\Q y (upd H l (.lst xs.dropLast))
theorem Fm:DC X "list.pop" Sb:=by
 intro pins s σ H x vs v us Q I rx rv h;obtain⟨l,xs,y,rfl,rfl,hH,hy,q⟩:=h;cases rx;have SR:=rv.zero;subst SR;obtain⟨z,its,n,r,hl,e⟩:=I.vD hH;obtain⟨u,hu,ru⟩:=r.get hy;have Q8:its.toArray[its.toArray.size-1]? = θ u:=by
  show its.toArray[its.length-1]? = θ u;rw[<-Yz,<-hl];exact hu
 refine EQ é ⟨_,e,rfl⟩ Z5 (F.args_list_pop_1 _) (Ĕ l its.toArray n u Q8 (by rw[ao];omega)) ⟨e,?_⟩;refine⟨y,_,I.Nv (its':=its.dropLast) hH e ?_ r.dropLast ?_,ru,q⟩
 .show its.toArray.eraseIdxIfInBounds (its.toArray.size-1)=its.dropLast.toArray;rw[ao,XN,pS]
 .rw[List.length_dropLast];omega
def Gp:V->List V->Hp->VK->Prop:=λx vs H Q=>∃l xs i k y,x=.ref l/\vs=[.int i]/\H l=θ (.lst xs)/\-(2 ^ 63)<=i/\i<2 ^ 63/\Yd i xs.length=θ k/\xs[k]? = θ y/\Q y (upd H l (.lst (xs.eraseIdx k)))
theorem B9:DC X "list.pop" Gp:=by
 intro pins s σ H x vs v us Q I rx rv h;obtain⟨l,xs,i,k,y,rfl,rfl,hH,h1,h2,hk,hy,q⟩:=h;cases rx;obtain⟨u,rfl,ru⟩:=rv.one;obtain⟨t,rfl⟩:=ru;obtain⟨z,its,n,r,hl,e⟩:=I.vD hH;obtain⟨w,hw,gJ⟩:=r.get hy;refine EQ é ⟨_,e,rfl⟩ Z5 (F.args_list_pop_2 _ _)
  (ĕ l its.toArray n i t k w (Ê h1 h2) (by rw[ao,<-hl];exact hk) (by rw[<-Yz];exact hw) (by rw[ao];omega)) ⟨e,?_⟩
 refine⟨y,_,I.Nv (its':=its.eraseIdx k) hH e ?_ (r.eraseIdx k) ?_,gJ,q⟩
 .show its.toArray.eraseIdxIfInBounds k=(its.eraseIdx k).toArray;rw[XN]
 .have:=qS xs k;omega
def Fu:V->List V->Hp->VK->Prop:=λx vs H Q=>∃l xs,x=.ref l/\vs=[]/\H l=θ (.lst xs)/\Q .Lj (upd H l (.lst []))
theorem AE:DC X "list.clear" Fu:=by
 intro pins s σ H x vs v us Q I rx rv h;obtain⟨l,xs,rfl,rfl,hH,q⟩:=h;cases rx;have SR:=rv.zero;subst SR;obtain⟨z,its,n,r,hl,e⟩:=I.vD hH;refine EQ F.slot_list_clear ⟨_,e,rfl⟩ F.entry_list_clear (F.args_list_clear_1 _) (Ė l its.toArray n (by rw[ao];omega)) ⟨e,?_⟩;exact⟨.Lj,_,I.Nv (its':=[]) (ys:=[]) hH e rfl .nil (dn _),rfl,q⟩
theorem len_rep {α:Type}(xs:List α)(k:Nat):(ν k xs).flatten.length=k*xs.length:=by
 induction k with
 |zero=>simp
 |succ k ih=>rw[dq,dz,az,ih,Nat.succ_mul,XO]
end
section
variable {prog:Program}{w:Ν}{A:Φ}{E:Value->ρ->Prop}{s:ρ}
end
section
variable {X:Cx}
end
end L2
namespace Att
open PySem PySem.W PySem.Calls PyProof.Rows
variable {P:Zi}{h:Heap}
theorem nW:∀(ns:List Int) (vs:List Value),WellAll P h vs (ns.map Â)->XF vs ns:=by
 intro ns
 induction ns with
 |nil=>
  intro vs w;rw[jw] at w;cases w;exact .nil
 |cons n ns ih=>
  intro vs w;rw[av] at w;cases w with
  |cons a b=>
   cases a;exact .cons _ _ (ih _ b)
variable {l:OpenLaw}{n:Nat}
theorem zo (hn:l.most=θ n){args:List WData}{vals:List Value}
  (N5:l.row.toRowW.claim.pre args=ζ) (P9:WellAll P h vals args) :
  ∃a vs ns,vals=[FB a]/\args=[WData.list (ns.map Â)]/\h.get? a=θ { cls:=.type "list",data:=.seq vs.toArray }/\XF vs ns/\ns.length<=n:=by
 have hsh:WShape.hasAll [] args [.list .int]=ζ:=(pre_splitW N5).1;have hc:l.pre.holds [] { args:=args }=ζ:=(pre_splitW N5).2;obtain⟨d,r,rfl,h1,h2⟩:=hasAllW_cons hsh;obtain rfl:=hasAllW_nil h2;obtain⟨xs,rfl,h3⟩:=hasW_list h1;obtain⟨ns,rfl⟩:=items_int h3;have hlen:ns.length<=n:=by
  unfold OpenLaw.pre at hc;have h4:(WTm.not (.lt (.lit (.int (n:Int))) (.len (.arg 0)))).holds [] { args:=[.list (ns.map .int)] }=ζ:=by
   have h4:=(holds_andW hc).1;rw[hn] at h4;exact h4
  have h5:=condW_of h4 (w_not (w_lt w_lit (w_len_list (w_arg rfl))));rw[ai] at h5;refine i7 λq=>?_
  have q':(n:Int)<((ns.length:Nat):Int):=by omega
  first
   | (rw[cm q'] at h5;exact absurd h5 (by decide))
   | (simp at h5;omega)
 cases P9 with
 |cons w1 w2=>
  cases w2;cases w1 with
  |list ho TK=>exact⟨_,_,ns,rfl,rfl,ho,nW ns _ TK,hlen⟩
theorem yT (l:OpenLaw)(args:List WData):l.row.toRowW.claim.post args (.bool ζ) args=ζ :=
 postW_of (r:=l.row.toRowW) (X:=(ζ==ζ))
  (show ê [] (.bool ζ) .bool=ζ by first|rfl|decide|simp[ê,WShape.arms,WShape.armsAll])
  (show (WTm.eq .res (.lit (.bool ζ))).value [] { args:=args,res:=θ (.bool ζ),after:=args }=θ (.bool (ζ==ζ)) from w_eq_bool (w_res rfl) w_lit) rfl
theorem uA {q:Program}{loose:List Str}{XP:(Str->Option Value)->Heap->Prop}{YP:Ν->Heap->Prop}{d:DefRec}
  (hn:l.most=θ n) (Qq:d.params.defaults=[])
  (call:∀(w:Ν) (s₀ s₁:ρ) (mg mb:Str->Option Value) (fa:Addr) (o:Obj) (pm cd doc:Value) (a:Addr) (vs:List Value) (ns:List Int),
   Ground q loose [] XP w s₀ mg mb s₁.heap->YP w s₁.heap ->
   s₁.heap.get? fa=θ o->o.data=.func (docDef d.name d.params d.body d.scope pm cd doc)->s₁.heap.CodeRec cd d.name->mg d.name=θ (.ref fa) ->
   s₁.heap.get? a=θ { cls:=.type "list",data:=.seq vs.toArray }->XF vs ns->ns.length<=n->s₁.gens = #[] ->
   FM (Ζ l.prog w) XG (.call (.ref fa) ⟨[.ref a],[]⟩) (λr s'=>r=.ok (.ret (.bool ζ))/\OldK s₁.heap s'.heap/\s'.os=s₁.os/\PP s'.gens) s₁) :
  WalkO q loose XP YP l.row.toRowW d [] (λf vs=>YW f vs):=by
 intro w s₀ s₁ mg mb G Y fa o pm cd doc dV kV ho hd Mh hD Td hg args vals as N5 hlay hrd P9 Qk;obtain rfl:dV=.none:=Dflts.none hD Qq;obtain rfl:kV=.none:=Dflts.noKw hD;obtain⟨a,vs,ns,rfl,rfl,OY,hints,hlen⟩:=zo hn N5 P9;refine enter_call (X6 (call w s₀ s₁ mg mb fa o pm cd doc a vs ns G Y ho (fd_plain hd) Mh Td OY hints hlen hg) λr s' hq=>?_);obtain⟨rfl,h2,h3,h4⟩:=hq;exact⟨.inl ⟨.bool ζ,.bool ζ,[],rfl,λ_=>rfl,.bool ζ,yT l _,λ_=>⟨Yb,λ_ hm=>(nomatch hm)⟩⟩,h2,h3,h4⟩
variable {L:Addr}
section
variable {prog:Program}{w:Ν}{A:Φ}{E:Value->ρ->Prop}{s:ρ}{K:Frag}
noncomputable def si (h:Heap):Heap:={ h with objs:=#[] }
theorem ph (h:Heap)(b:Addr):(si h).get? b=η:=by
 cases e:(si h).get? b with
 |none=>rfl
 |some o=>exact absurd (ω e) (gi _)
noncomputable def ledger (h:Heap)(L d:Addr):List (Addr×Obj):=(υ h.objs.size).filterMap λa=>if a=L\/a=d then η else (h.get? a).map λo=>(a,o)
theorem la {d a:Addr}{o:Obj}:(a,o)∈ledger h L d↔a≠L/\a≠d/\h.get? a=θ o:=by
 unfold ledger;rw[UF];constructor
 .rintro⟨b,_,e⟩;split at e
  .cases e
  .rename_i hb;obtain⟨o',ho,e'⟩:=ae.mp e;cases e';exact⟨λq=>hb (.inl q),λq=>hb (.inr q),ho⟩
 .rintro⟨n1,n2,ho⟩;refine⟨a,na.mpr (ω ho),?_⟩;rw[if_neg (show ¬ (a=L\/a=d) from λq=>q.elim n1 n2),ho]<;>rfl
theorem Fv {m:Str->Option Value}(n:h.Ns L m):Fr (si h) L h m :=
 ⟨n,λb o e=>(by rw[ph] at e;cases e),dn _⟩
end
end Att
namespace L2
open PySem PySem.Spec PyProof.Rows
theorem jK:∀{vs:List Value}{ns:List Int},XF vs ns->aT (ns.map V.int) vs
 |_,_,.nil=>.nil
 |_,_,.cons n t h=>.cons ⟨t,rfl⟩ (jK h)
def Hm (H:Hp):Prop:=∀b,H b=η\/∃o xs,H b=θ (.L4 o (.lst xs))
theorem Aq {P:Program}{w:Ν}{K:Β}{mg mb:Str->Option Value}{CX:vT}{k:Nat}{fa a:Addr}{fd:pi}{x:Str}{sp:Sp}{s₁:ρ}{vs:List Value}{ns:List Int}
  (KX:K.In s₁.heap) (WA:s₁.heap.Ns bi mg) (hb:s₁.heap.Ns ZY mb) (hbb:∀x:Str,x≠"__name__"->mb x=wf x) (N6:s₁.heap.NoLimit) (hg:s₁.gens = #[])
  (ha:s₁.heap.get? a=θ { cls:=.type "list",data:=.seq vs.toArray }) (hi:XF vs ns) (hl:ns.length<=sizeLine) (hr:gP k XG)
  (F:∀base:Heap,K.In base->base.Ns bi mg->nU P w K mg base CX k fa fd [x] sp) (Qs:∀(s:ρ) (u:Value),Zm s fd ⟨[u],[]⟩ [(x,u)])
  (Ny:∀H:Hp,Hm H->mL K H a (ns.map V.int)->sp [.ref a] H (λv _=>v=.bl ζ) λ_ _ _=>False)
  (TN:∀H e s',CX [] H s₁ (λ_ _ _=>False) e s'->False) :
  FM (Ζ P w) XG (.call (.ref fa) ⟨[.ref a],[]⟩) (λr s'=>r=.ok (.ret (.bool ζ))/\OldK s₁.heap s'.heap/\s'.os=s₁.os/\PP s'.gens) s₁:=by
 have rv:=jK hi;have SD:=hi.length;have core:∀H:Hp,Hm H->mL K H a (ns.map V.int)->nJ P w H s₁.heap->(∀b,H b≠η->b=a)->(H a≠η->K.lookup a=η) ->
   FM (Ζ P w) XG (.call (.ref fa) ⟨[.ref a],[]⟩) (λr s'=>r=.ok (.ret (.bool ζ))/\OldK s₁.heap s'.heap/\s'.os=s₁.os/\PP s'.gens) s₁:=by
  intro H hO hS Ll hA hK;have MX:∀{b:Addr}{o:Obj},s₁.heap.get? b=θ o->H b=η->(rX s₁.heap H).get? b=θ o:=λe n=>Ae e n
  have PN:∀{b:Addr}{o:Obj}{es:Array DictEntry}{ep:Nat},s₁.heap.get? b=θ o->o.data=.dict es ep->H b=η:=λ{b o es ep} e d=>by
   cases q:H b with
   |none=>rfl
   |some u=>
    have e':b=a:=hA b (by rw[q];simp);subst e';rw[ha] at e;cases e;have d':Data.seq vs.toArray _=Ç es ep:=d;cases d'
  have QV:∀{b:Addr}{m:Str->Option Value},s₁.heap.Ns b m->(rX s₁.heap H).Ns b m:=λ{b m} ⟨o,es,ep,e,d,r⟩=>⟨o,es,ep,MX e (PN e d),d,r⟩
  have WQ:K.In (rX s₁.heap H):=λb o e=>MX (KX b o e) (by
   cases q:H b with
   |none=>rfl
   |some u=>
    have e':b=a:=hA b (by rw[q];simp);subst e';rw[hK (by rw[q];simp)] at e;cases e)
  have hM:Mod K mg (rX s₁.heap H):=⟨WQ,QV WA,⟨mb,QV hb,hbb⟩,let ⟨mc,h1,h2⟩:=N6;⟨mc,QV h1,h2⟩⟩;have e0:BM P w K mg (rX s₁.heap H) XG [] s₁ H:=⟨rfl,hM,λb o e=>Ey e,õ (xY _ _),trivial,λb hb=>absurd (show b∈([]:List Addr) from hb) (by simp),Ll,.of_eq hg⟩;refine X6 ((F _ WQ (QV WA)).run XG [] s₁ H ⟨[.ref a],[]⟩ [.ref a] [.ref a] _ _ hr e0 (Qs s₁ (.ref a)) (.cons rfl .nil) (Ny H hO hS)) λr s' h=>?_
  cases r with
  |error e=>exact (TN H e s' h).elim
  |ok fl=>
   cases fl with
   |next=>exact bv h
   |brk=>exact bv h
   |cont=>exact bv h
   |ret u=>
    obtain⟨v,H',os,bare,un,S8,r',q⟩:=h;have q':v=.bl ζ:=q;subst q';obtain rfl:u=At ζ:=r';refine⟨rfl,OldK.of_keep λb o e=>?_,os,bare⟩;cases q:H b with
    |none=>exact un.keep b o e q (by intro z;exact absurd (show b∈([]:List Addr) from z) (by simp)) (by simp)
    |some u=>
     rcases hO b with z|⟨ob,xs,z⟩
     .rw[q] at z;cases z
     .have z2:=un.Ml b ob _ z;obtain⟨e1,_⟩:=Ll b _ z;obtain⟨e2,_⟩:=S8 b _ z2;rw[e] at e1;cases e1;exact e2
 cases hk:K.lookup a with
 |some o=>
  have e:=KX a o hk;rw[ha] at e;cases e;refine core (λ_=>η) (λ_=>.inl rfl) (.inr ⟨_,vs.toArray,_,hk,rfl,rfl,rfl,by rw[ao,SD];exact hl,by simpa using rv⟩) (λb u z=>by have z':(η:Option HO)=θ u:=z;cases z') (λb z=>absurd rfl z) λz=>absurd rfl z
 |none=>
  refine core (λb=>if b=a then θ (.L4 { cls:=.type "list",data:=.seq vs.toArray } (.lst (ns.map V.int))) else η) (λb=>?_) (.inl (.inr ⟨{ cls:=.type "list",data:=.seq vs.toArray },if_pos rfl⟩)) (λb u z=>?_) (λb z=>?_) λ_=>hk
  .by_cases hb:b=a
   .exact .inr ⟨_,_,if_pos hb⟩
   .exact .inl (if_neg hb)
  .by_cases hb:b=a
   .have z':=(if_pos hb).symm.trans z;cases z';subst hb;exact⟨ha,by rw[ai];exact hl,vs,_,rv,ha⟩
   .have z':=(if_neg hb).symm.trans z;cases z'
  .by_cases hb:b=a
   .exact hb
   .exact absurd (if_neg hb) z
end L2
namespace L2
open PySem PySem.Spec PyProof.Rows
theorem Eo {l:Y5}{n k:Nat}{q:Program}{loose:List Str}{XP:(Str->Option Value)->Heap->Prop}{YP:Ν->Heap->Prop}{d:DefRec}{K:Zi->Β}{CX:Ν->vT}{sp:Ν->Sp}{x:Str}
  (hn:l.most=θ n) (hn2:n<=sizeLine) (Qq:d.params.defaults=[]) (hr:gP k XG)
  (hY:∀(w:Ν) (h:Heap),YP w h->(K w.params).In h)
  (F:∀(w:Ν) (mg:Str->Option Value) (fa:Addr) (h:Heap),(K w.params).In h->h.Ns bi mg->mg d.name=θ (.ref fa) ->
   ∃fd:pi,(∀(s:ρ) (u:Value),Zm s fd ⟨[u],[]⟩ [(x,u)]) /\
    ∀base:Heap,(K w.params).In base->base.Ns bi mg->nU l.prog w (K w.params) mg base (CX w) k fa fd [x] (sp w))
  (Ny:∀(w:Ν) (H:Hp) (a:Addr) (ns:List Int),ns.length<=n->Hm H->mL (K w.params) H a (ns.map V.int)->sp w [.ref a] H (λv _=>v=.bl ζ) λ_ _ _=>False)
  (TN:∀(w:Ν) (H:Hp) (s:ρ) (e:Value) (s':ρ),CX w [] H s (λ_ _ _=>False) e s'->False) :
  Zs q loose XP YP l.row.toRowW d [] (λf vs=>YW f vs):=by
 refine Att.uA hn Qq λw s₀ s₁ mg mb fa o pm cd doc a vs ns G Y ho hd Mh Td OY hints hlen hg=>?_
 have KX:=hY w _ Y;obtain⟨fd,hb,hF⟩:=F w mg fa _ KX G.T.g Td;exact Aq KX G.T.g G.T.b G.T.builtins G.T.nolimit hg OY hints (cu hlen hn2) hr hF hb (λH hO hS=>Ny w H a ns hlen hO hS) λH e s'=>TN w H s₁ e s'
end L2
namespace L2
open PySem PySem.Spec PyProof.Rows
noncomputable abbrev nh:vT:=λ_ _ _ _ _ _=>False
noncomputable abbrev E0:XK:=λ_ _ _=>False
theorem ED {X:Cx}:rG nh X E0:=λ_ _ _ _ _ _ _ h=>h.elim
structure uY (K:Β)(x qual:Str)(st:Stmt)(f:Addr)(fd:pi):Prop where
 ex:∃(oc:Value) (od:Option Addr) (kV doc pm:Value) (an:Option Addr) (Lo ct:Value) (NP:Array (Option Value)),
  fd=jp x qual (gF st) (bB st) (aI st) .none kV doc pm an Lo ct/\K.lookup f=θ ⟨oc,od,.func fd,NP⟩/\Ev K Lo qual=ζ
 kp:sw K (.ref f)=ζ
variable {f:Addr}{fd:pi}{ps:List Str}{qual x:Str}{st:Stmt}
section
variable {P:Program}{w:Ν}{K:Β}{mg:Str->Option Value}{base:Heap}
theorem uY.ok {x:Str}{N:List Str}{k:Nat}{sp:Sp}(F:uY K x qual st f fd)(S:eZ N ps (aI st))(len:∀vs H Q E,sp vs H Q E->vs.length=ps.length)
  (Mw:∀(Lo:Value) (A:Φ) (outer:List Yw) (s:ρ) (H:Hp) (vs:List V) (Q:VK) (E:XK),gP k (A.deeper (P3 qual (aI st) s.heap.objs.size f Lo))->sp vs H Q E ->
   ∃t,lK (iB nh P w K mg base N qual (aI st) f Lo A outer s H E).LR (bB st) t/\t { nx:=λ_ H'=>Q .Lj H',rt:=Q } (start N vs) H):nU P w K mg base nh (k+1) f fd ps sp:=by
 obtain⟨oc,od,kV,doc,pm,an,Lo,ct,NP,rfl,lk,Mh⟩:=F.ex;refine JK lk Mh S len λA outer s H vs Q E hr Ny=>?_
 obtain⟨t,h,q⟩:=Mw Lo A outer s H vs Q E hr Ny;exact⟨t,h.LR,q⟩
theorem uY.binds (F:uY K x qual st f fd)
  (h:∀(kV doc pm:Value) (an:Option Addr) (Lo ct:Value) (us:List Value),us.length=ps.length->Η (jp x qual (gF st) (bB st) (aI st) .none kV doc pm an Lo ct) ⟨us,[]⟩=pure (ps.zip us)):Binds K fd ps []:=by
 obtain⟨oc,od,kV,doc,pm,an,Lo,ct,NP,rfl,lk,Mh⟩:=F.ex;exact .all (h kV doc pm an Lo ct)
theorem FJ {st:Stmt}{oc:Value}{od an:Option Addr}{NP:Array (Option Value)}{kV doc pm Lo ct:Value}(l:K.lookup f=θ ⟨oc,od,.func (jp x qual (gF st) (bB st) (aI st) .none kV doc pm an Lo ct),NP⟩)
  (c:Ev K Lo qual=ζ) (k:sw K (.ref f)=ζ):uY K x qual st f (jp x qual (gF st) (bB st) (aI st) .none kV doc pm an Lo ct):=⟨⟨oc,od,kV,doc,pm,an,Lo,ct,NP,rfl,l,c⟩,k⟩
end
section
variable {X:Cx}
theorem pv (i:Nat){pos:GE}(hN:X.N[i]? = θ x:=by rfl)(hv:Cs X.env.scope x:=by first|exact Or.inl rfl|exact ë (Or.inl rfl)|exact ë (ë rfl))(hd:(x==("__debug__" : Str))=ε:=by decide)
  (Mh:(x==("__classdict__" : Str))=ε:=by decide):PE X (.Name x pos) (CN i):=rR hN hv hd Mh
end
def aN (H H':Hp):Prop:=∀b o,H b=θ o->H' b=θ o
theorem aN.refl (H:Hp):aN H H:=λ_ _ h=>h
variable {H:Hp}
theorem aN.trans {H1 H2:Hp}(a:aN H H1)(b:aN H1 H2):aN H H2:=λc o h=>b c o (a c o h)
variable {u:Value}{y:V}
section
variable {κ:Type}[DecidableEq κ]
noncomputable def oX (kvs:List (κ×V))(k:κ):Option V:=(kvs.find? λkv=>decide (kv.1=k)).map (·.2)
noncomputable def putK (kvs:List (κ×V))(k:κ)(v:V):List (κ×V) :=
 if (kvs.any λkv=>decide (kv.1=k))=ζ then kvs.map (λkv=>if kv.1=k then (kv.1,v) else kv) else kvs ++ [(k,v)]
theorem oS {p:κ×V}{r:List (κ×V)}{k:κ}(e:p.1=k):oX (p::r) k=θ p.2:=by simp[oX,u8,e]
theorem pF {p:κ×V}{r:List (κ×V)}{k:κ}(e:¬ p.1=k):oX (p::r) k=oX r k:=by simp[oX,u8,e]
theorem uy (k:κ):∀kvs:List (κ×V),(kvs.any λkv=>decide (kv.1=k))=(oX kvs k).isSome
 |[]=>rfl
 |p::r=>by
  rw[fv];by_cases e:p.1=k
  .simp only[oS e,decide_eq_true e,YA,YN]
  .rw[pF e,bh e,Z6];exact uy k r
theorem ur (kvs:List (κ×V))(k:κ)(v:V):(putK kvs k v).length<=kvs.length+1:=by
 unfold putK;split
 .rw[ai];omega
 .rw[az,cg,List.length_nil];omega
theorem BD.Mf {o:Option V}{u:Option Value}(r:BD o u):o.isSome=u.isSome:=by
 cases o with
 |none=>cases u with
  |none=>rfl
  |some _=>exact (show False from r).elim
 |some _=>cases u with
  |none=>exact (show False from r).elim
  |some _=>rfl
theorem KV.val {kvs:List (κ×V)}{vs:List (κ×Value)}(r:KV kvs vs)(k:κ):BD (oX kvs k) (sK vs k):=by
 unfold KV at r
 induction r with
 |nil=>exact Y6
 |@cons p q ps qs h t ih=>
  obtain⟨h1,h2⟩:=h;by_cases e:p.1=k
  .have e':q.1=k:=h1.symm.trans e;have b:sK (q::qs) k=θ q.2:=by simp[sK,u8,e']
   rw[oS e,b];exact h2
  .have e':¬ q.1=k:=λz=>e (h1.trans z)
   have b:sK (q::qs) k=sK qs k:=by simp[sK,u8,e']
   rw[pF e,b];exact ih
theorem KV.any {kvs:List (κ×V)}{vs:List (κ×Value)}(r:KV kvs vs)(k:κ):(kvs.any λkv=>decide (kv.1=k))=vs.any λkv=>decide (kv.1=k):=by
 unfold KV at r
 induction r with
 |nil=>rfl
 |cons h t ih=>rw[fv,fv,ih,h.1]
theorem KV.RZ {kvs:List (κ×V)}{vs:List (κ×Value)}(r:KV kvs vs)(k:κ)(ry:RelV y u) :
  KV (kvs.map λkv=>if kv.1=k then (kv.1,y) else kv) (vs.map λkv=>if kv.1=k then (kv.1,u) else kv):=by
 unfold KV at r ⊢
 induction r with
 |nil=>exact .nil
 |@cons p q ps qs h t ih=>
  rw[av,av];refine .cons ?_ ih;obtain⟨h1,h2⟩:=h;by_cases e:p.1=k
  .rw[if_pos e,if_pos (h1.symm.trans e)];exact⟨h1,ry⟩
  .rw[if_neg e,if_neg (λz=>e (h1.trans z))];exact⟨h1,h2⟩
theorem KV.put {kvs:List (κ×V)}{vs:List (κ×Value)}(r:KV kvs vs)(k:κ)(ry:RelV y u):KV (putK kvs k y) (stored vs k u):=by
 unfold putK stored;rw[r.any k];by_cases e:(vs.any λkv=>decide (kv.1=k))=ζ
 .rw[if_pos e,if_pos e];exact r.RZ k ry
 .rw[if_neg e,if_neg e];exact Paired.snoc r ⟨rfl,ry⟩
theorem KV.keys {kvs:List (κ×V)}{vs:List (κ×Value)}(r:KV kvs vs):kvs.map (·.1)=vs.map (·.1):=by
 unfold KV at r
 induction r with
 |nil=>rfl
 |cons h t ih=>rw[av,av,ih,h.1]
theorem KV.length {kvs:List (κ×V)}{vs:List (κ×Value)}(r:KV kvs vs):kvs.length=vs.length:=Ya r
end
variable {P:Program}{w:Ν}
theorem BH {k:Key}(r:RelV (kV k) u):(bS P w).is k u=ζ:=by
 cases k with
 |inl i=>obtain⟨t,e⟩:=(show ∃t,u=Ο i t from r);subst e;exact iD P w i t
 |inr x=>obtain⟨t,e⟩:=(show ∃t,u=Op x t from r);subst e;exact uo P w x t
variable {kvs:List (Key×V)}
section
variable {P:Program}{w:Ν}{H:Hp}{h:Heap}{a:Addr}
theorem Kr {u:HO}(ok:nJ P w H h)(e:Rd H a u):dI P w H h a u:=e.ok ok
theorem uG (ok:nJ P w H h)(e:Rd H a (.dK kvs)):kvs.length<=sizeLine/\(a==Db)=ε/\∃vs,KV kvs vs/\h.DictOf (bS P w) a vs :=
 show dI P w H h a (.dK kvs) from Kr ok e
theorem EW (ok:nJ P w H h)(e:H a=θ (.dK kvs)):kvs.length<=sizeLine/\(a==Db)=ε/\∃vs,KV kvs vs/\h.DictOf (bS P w) a vs:=uG ok (.inl e)
end
noncomputable def FW (H:Hp)(a:Addr)(y:V)(r:Option V):Prop :=
 (∃kvs k,Rd H a (.dK kvs)/\y=kV k/\r=oX kvs k)
noncomputable def yh (H:Hp)(a:Addr)(y v:V)(H':Hp):Prop :=
 (∃kvs k,H a=θ (.dK kvs)/\y=kV k/\kvs.length<sizeLine/\H'=upd H a (.dK (putK kvs k v)))
theorem yh.k {a:Addr}{k:Key}{v:V}(e:H a=θ (.dK kvs))(hl:kvs.length<sizeLine):yh H a (kV k) v (upd H a (.dK (putK kvs k v))):=⟨kvs,k,e,rfl,hl,rfl⟩
variable {H':Hp}{h':Heap}
section
variable {X:Cx}{pins:List (Addr×Obj)}{σ:St}{H:Hp}{s:ρ}{a:Addr}{y v:V}{u r:Value}{o:Option V}{A:Φ}{E:Value->ρ->Prop}
theorem Inv.big (I:Inv X pins σ H s):Db<s.heap.objs.size:=by
 have h:bi<s.heap.objs.size:=(I.mod.glob.keeps I.bk).lt;exact Nat.lt_trans (by decide) h
theorem UG {Q:Value->ρ->Prop}(hu:A.units+1<cLine)(I:Inv X pins σ H s)(g:FW H a y o)(ry:RelV y u)(h:∀s',Inv X pins σ H s'->Q (.bool o.isSome) s') :
  Ε (Ζ X.prog X.w) A (kt .In u (.ref a)) Q E s:=by
 obtain⟨kvs,k,e,ey,l⟩:=g;subst ey;obtain⟨z,hd,vs,rel,dd⟩:=uG I.Ll e;refine wpAny_in_of (BH ry) hd dd.mapOf ?_;rw[<-(rel.val k).Mf,<-l];exact h _ (I.tok _)
theorem De {Q:Value->ρ->Prop}(hu:A.units+1<cLine)(I:Inv X pins σ H s)(g:FW H a y o)(ry:RelV y u)(h:∀s',Inv X pins σ H s'->Q (.bool (!o.isSome)) s') :
  Ε (Ζ X.prog X.w) A (kt .NotIn u (.ref a)) Q E s:=by
 obtain⟨kvs,k,e,ey,l⟩:=g;subst ey;obtain⟨z,hd,vs,rel,dd⟩:=uG I.Ll e;refine wpAny_notIn_of (BH ry) hd dd.mapOf ?_;rw[<-(rel.val k).Mf,<-l];exact h _ (I.tok _)
theorem xb {t':Nat}{ob:HO}(I:Inv X pins σ H s)(mu:sj (H a))(hs:Yx a s.heap h')(he:∃q,h'.get? a=θ q)(new:dI X.prog X.w (upd H a ob) h' a ob) :
  Inv X pins σ (upd H a ob) { s with heap:=h',toks:=t' } :=
 I.write (x:=a) (e:=a) mu (.inl rfl) (λb q hb z=>(hs.2 b hb).trans z) he new
theorem FR {vs:List (Key×Value)}(z:kvs.length<=sizeLine)(hd:(a==Db)=ε)(rel:KV kvs vs)(dd:h'.DictOf (bS P w) a vs) :
  dI P w H' h' a (.dK kvs):=⟨z,hd,vs,rel,dd⟩
theorem yX {Q:Unit->ρ->Prop}(hu:A.units+1<cLine)(I:Inv X pins σ H s)(g:yh H a y v H')(ry:RelV y u)(rv:RelV v r)(h:∀s',Inv X pins σ H' s'->Q () s') :
  Ε (Ζ X.prog X.w) A (ă (.ref a) u r) Q E s:=by
 obtain⟨kvs,k,e,ey,l,eH⟩:=g;subst ey eH;obtain⟨z,hd,vs,rel,dd⟩:=EW I.Ll e;have hz:vs.length<=sizeLine:=by rw[<-rel.length];exact z
 have hl:(putK kvs k v).length<=sizeLine:=by have:=ur kvs k v;omega
 refine wpAny_setItem_pairs (hsz:=hz) (BH ry) dd λh' UE hs=>h _ ?_
 have he:∃q,h'.get? a=θ q:=let ⟨q,_,_,hq,_⟩:=UE;⟨q,hq⟩;exact xb I (by rw[e];exact Y6) hs he (FR hl hd (rel.put k rv) UE)
end
section
variable {X:Cx}{pins:List (Addr×Obj)}{σ:St}{H:Hp}{s:ρ}{a:Addr}{kvs:List (Key×V)}{k:Key}{u:Value}{A:Φ}{E:Value->ρ->Prop}
end
section
variable {X:Cx}{o i e value:Expr}{pos pos' Rx:GE}{td ty tv:TE}
end
theorem Ai (h:Heap)(hb:Db<h.objs.size):dI P w H (h.push { cls:=.type "dict",data:=.dict #[] }) h.objs.size (.dK []) :=
 ⟨dn _,ja.mpr (cv (bz hb)),[],.nil,Ë h⟩
def AS:TE:=λ_ H Q=>∀p,H p=η->Q (.ref p) (upd H p (.dK []))
section
variable {X:Cx}{pos:GE}
theorem AF:PE X (.Dict [] [] pos) AS:=λpins s σ H Q I h=>
 wpAny_Dict_empty ⟨.ref s.heap.objs.size,_,I.laid (a:=s.heap.objs.size) (o:=.dK []) (t':=s.toks) (λ_ _ q=>ψ _ q) (au _) (Ai s.heap I.big),rfl,h _ (I.Ll.fresh (au _))⟩
end
end L2
end
section
namespace Pc
open PySem
inductive MV where
 |tr|int (i:Int)|tup (is:List Int)
deriving Inhabited,DecidableEq
inductive D where
 |Lj|bl (b:Bool)|int (i:Int)|str (s:Str)|lst (xs:List D)|tup (xs:List D)
 |Mp (kvs:List ((Int ⊕ Str)×Option Int))
 |Lx (ks:List (Int×MV))
 |LJ (ks:List (Int×MV))
deriving Inhabited
mutual
noncomputable def D.flat:D->Bool
 |.lst _=>ε
 |.tup xs=>D.Lh xs
 |.Lj=>ζ
 |.bl _=>ζ
 |.int _=>ζ
 |.str _=>ζ
 |.Mp _=>ζ
 |.Lx _=>ε
 |.LJ _=>ζ
noncomputable def D.Lh:List D->Bool
 |[]=>ζ
 |x::xs=>D.flat x&&D.Lh xs
end
noncomputable def lJ (f:D->D->Option Bool):List D->List D->Option Bool
 |[],[]=>θ ζ
 |x::xs,y::ys=>(f x y).bind λa=>(lJ f xs ys).map λb=>a&&b
 |_,_=>η
noncomputable def D.Lq:Nat->D->D->Option Bool
 |0,_,_=>η
 |_+1,.int a,.int b=>θ (a==b)
 |n+1,.lst a,.lst b=>if a.length=b.length then lJ (D.Lq n) a b else θ ε
 |n+1,.tup a,.tup b=>if a.length=b.length then lJ (D.Lq n) a b else η
 |_+1,_,_=>η
noncomputable def D.LY:D->Bool
 |.lst _=>ε
 |.tup _=>ε
 |.Mp _=>ε
 |.Lx _=>ε
 |.LJ _=>ε
 |_=>ζ
noncomputable def D.Qz:D->D->Bool
 |.Lj,.Lj=>ζ
 |.bl a,.bl b=>a==b
 |.int a,.int b=>a==b
 |.str a,.str b=>a==b
 |.bl a,.int b=>(if a then (1:Int) else 0)==b
 |.int a,.bl b=>a==(if b then (1:Int) else 0)
 |_,_=>ε
structure Xz where
 cls:Str
 fs:List (Str×D)
deriving Inhabited
inductive Rs (α:Type) where
 |ok (a:α)|exc (e:Xz)|bad
noncomputable def Rs.bind {α β:Type}(x:Rs α)(f:α->Rs β):Rs β:=match x with
 |.ok a=>f a
 |.exc e=>.exc e
 |.bad=>.bad
inductive Rt where
 |mv (R:List Nat)
 |sh (R:List Nat)
noncomputable def Rt.roots:Rt->List Nat
 |.mv R=>R
 |.sh R=>R
inductive Tg where
 |own|lk|sh (R:List Nat)
noncomputable abbrev Slot:=Option (D×Tg)
noncomputable abbrev En:=List Slot
noncomputable def lim:Nat:=1000000
inductive nQ where
 |nm (i:Nat)|tp (is:List Nat)
inductive Cz where
 |len|list|tuple|int|str|abs|min2|max2|all|any|sum|MU (T:String)|sorted|bool|Sz|MH|Ua|M1
inductive Rp where
 |LG|LP
inductive sj where
 |append|extend|insert|pop|nO|reverse|clear
mutual
inductive Ex where
 |var (i:Nat)
 |cst (d:D)
 |MM (k:Nat)
 |bin (op:li) (a b:Ex)
 |neg (a:Ex)
 |cmp (op:XU) (a b:Ex)
 |chn (op OJ:XU) (a b c:Ex)
 |and (a b:Ex)
 |or (a b:Ex)
 |not (a:Ex)
 |ite (c a b:Ex)
 |lst (es:nV)
 |tup (es:nV)
 |ix (a i:Ex)
 |sl (a:Ex) (lo hi:nY)
 |call (f:Nat) (es:nV)
 |blt (b:Cz) (es:nV)
 |NQ (m:Rp) (o:Ex) (es:nV)
 |comp (own:Nat) (pick:List Nat) (t:nQ) (it:tX) (c:nY) (e:Ex)
 |MO
 |UD (l:List (Nat×Int))
 |snoc (a b:Ex)
 |app (g:List D->Option D) (es:nV)
inductive nV where
 |nil|cons (e:Ex) (es:nV)
inductive nY where
 |none|some (e:Ex)
inductive tX where
 |seq (e:Ex)|Lm (a:Ex)|M0 (a b:Ex)|enum (e:Ex)|zip (a b:Ex)|rev (e:Ex)
end
abbrev Ku:Ex:=.cst (.int 2)
abbrev Kv:Ex:=.cst (.int 1)
abbrev Kw:Ex:=.cst (.int 0)
abbrev Kx:Ex:=.cst (.int 2147483647)
abbrev Ky:Ex:=.cst (.int 3)
abbrev Kz:Ex:=.cst (.int 7)
abbrev KA:Ex:=.cst (.int 64)
abbrev KC:Ex:=.cst (.int 97)
abbrev KD:Ex:=.cst (.int 63)
abbrev KG:Ex:=.cst (.int 31)
abbrev KH:Ex:=.cst (.int 16)
abbrev KI:Ex:=.cst (.int 15)
abbrev KJ:Ex:=.cst (.int 19)
abbrev KL:Ex:=.cst (.int 8)
abbrev KN:Ex:=.cst (.int 4)
abbrev KO:Ex:=.cst (.int 5)
abbrev KP (n:Int):Ex:=.cst (.int n)
abbrev KQ:Ex:=.var 4
abbrev KR:Ex:=.var 2
abbrev KS:Ex:=.var 3
abbrev KU:Ex:=.var 0
abbrev KW:Ex:=.var 1
abbrev KY:Ex:=.var 5
abbrev KZ:Ex:=.var 6
abbrev K0:Ex:=.var 7
abbrev K1:Ex:=.var 8
abbrev K2:Ex:=.var 10
abbrev K3:Ex:=.var 12
abbrev K4:Ex:=.var 11
abbrev K5:Ex:=.var 13
abbrev K6:Ex:=.var 9
abbrev K7:Ex:=.var 14
abbrev K8:Ex:=.var 15
abbrev La (a b:Ex):nV:=.cons a (.cons b .nil)
abbrev K9 (a:Ex):nV:=.cons a .nil
abbrev Lb (a b c:Ex):nV:=.cons a (.cons b (.cons c .nil))
abbrev Lc (a b c d:Ex):nV:=.cons a (.cons b (.cons c (.cons d .nil)))
abbrev Ld (a:Ex):Ex:=.blt .len (K9 a)
mutual
inductive St where
 |asg (t:nQ) (e:Ex) (mv:Bool)
 |mut (x:Nat) (path:nY) (m:sj) (es:nV)
 |Lv (x:Nat) (path:nY) (i:Ex) (e:Ex)
 |MG (x:Nat) (i v:Ex)
 |aug (x:Nat) (op:li) (e:Ex)
 |Si (y x:Nat) (es:nV)
 |M6 (y x:Nat) (es:nV)
 |NI (x:Nat) (s:St)
 |expr (e:Ex)
 |ite (c:Ex) (a b:bJ)
 |Li (t:nQ) (it:tX) (b:bJ)
 |N9 (x:Nat) (e:Ex) (b:bJ)
 |Oc (c:Ex) (b:bJ)
 |ret (e:Ex)
 |OI|brk|cnt|pass
inductive bJ where
 |nil|cons (s:St) (r:bJ)
end
noncomputable def ck (n:Nat)(d:D):Option D:=if n<=lim then θ d else η
noncomputable def small (i:Int):Bool:=decide (-(2 ^ 64)<i/\i<2 ^ 64)
noncomputable def binI:li->Int->Int->Option Int
 |.Add,i,j=>θ (i+j)
 |.Sub,i,j=>θ (i-j)
 |.Mult,i,j=>if small i || small j then θ (i*j) else η
 |.FloorDiv,i,j=>if 0<j/\j<1073741824 then θ (i / j) else η
 |.Mod,i,j=>if 0<j then θ (i%j) else η
 |.Pow,i,j=>if 0<=j/\j<=1000000/\i.natAbs<2 ^ 64 then θ (i ^ j.toNat) else η
 |.BitXor,i,j=>θ (Ρ i j)
 |_,_,_=>η
noncomputable def mR:li->D->D->Option D
 |op,.int i,.int j=>(binI op i j).map .int
 |.Add,.lst a,.lst b=>ck (a.length+b.length) (.lst (a++b))
 |.Mult,.lst a,.int k=>if -(2 ^ 63)<=k/\k<2 ^ 63 then (if D.Lh a then ck (a.length*k.toNat) (.lst (ν k.toNat a).flatten) else η) else η
 |_,_,_=>η
noncomputable def Rv:Option Int->D
 |none=>.Lj
 |some i=>.int i
noncomputable def xW (kvs:List ((Int ⊕ Str)×Option Int))(k:Int ⊕ Str):Option (Option Int):=(kvs.find? λq=>decide (q.1=k)).map (·.2)
noncomputable def rY (kvs:List (Int×MV))(k:Int)(m:MV):List (Int×MV):=if (kvs.any λq=>decide (q.1=k))=ζ then kvs.map (λq=>if q.1=k then (q.1,m) else q) else kvs ++ [(k,m)]
noncomputable def mT:List D->Option (List Int)
 |[]=>θ []
 |.int i::r=>(mT r).map (i :: ·)
 |_::_=>η
noncomputable def Q2:MV->D
 |.tr=>.bl ζ
 |.int i=>.int i
 |.tup is=>.tup (is.map .int)
noncomputable def DZ:D->Option MV
 |.bl ζ=>θ .tr
 |.int i=>θ (.int i)
 |.tup xs=>(mT xs).map .tup
 |_=>η
noncomputable def IA (gl:Nat->D):List (Nat×Int)->List (Int×MV)->Option (List (Int×MV))
 |[],ks=>θ ks
 |q::r,ks=>match gl q.1 with
  |.int i=>IA gl r (rY ks i (.int q.2))
  |_=>η
noncomputable def Kh (i j:Int):Bool:=!(i==42&&j==21)
noncomputable def CO:D->D->D->Option D
 |.Lx ks,.int k,v=>if ks.length<lim then (DZ v).map λm=>.Lx (rY ks k m) else η
 |_,_,_=>η
noncomputable def inD (x:D):D->Option Bool
 |.lst ys=>if x.LY&&ys.all D.LY then θ (ys.any λy=>D.Qz y x) else η
 |.Lx ks=>match x with
  |.int k=>θ (ks.any λq=>decide (q.1=k))
  |_=>η
 |_=>η
noncomputable def mE:XU->D->D->Option Bool
 |.Lt,.int i,.int j=>θ (decide (i<j))
 |.LtE,.int i,.int j=>θ (decide (i<=j))
 |.Gt,.int i,.int j=>θ (decide (j<i))
 |.GtE,.int i,.int j=>θ (decide (j<=i))
 |.Eq,x,y=>D.Lq 40 x y
 |.NotEq,x,y=>(D.Lq 40 x y).map (!·)
 |.In,x,y=>inD x y
 |.NotIn,x,y=>(inD x y).map (!·)
 |_,_,_=>η
noncomputable def truth:D->Option Bool
 |.bl b=>θ b
 |.int i=>θ (i != 0)
 |.str s=>if s.length<=lim then θ ((s.length:Int) != 0) else η
 |.lst xs=>θ (!xs.isEmpty)
 |.tup xs=>θ (!xs.isEmpty)
 |.Lj=>θ ε
 |.Mp _=>η
 |.Lx _=>η
 |.LJ _=>η
noncomputable def kQ (n:Nat)(i:Int):Option Nat:=if 0<=i then (if i<n then θ i.toNat else η) else if -(n:Int)<=i then θ (i+n).toNat else η
noncomputable def kZ (n d:Nat):Option Int->Nat
 |none=>d
 |some v=>if v<0 then (v+(n:Int)).toNat else min v.toNat n
noncomputable def cut {α:Type}(xs:List α)(lo hi:Option Int):List α :=
 let a:=kZ xs.length 0 lo
 (xs.drop a).take (kZ xs.length xs.length hi-a)
noncomputable def EN:D->D->Option D
 |.lst xs,.int i=>(kQ xs.length i).bind λj=>xs[j]?
 |.tup xs,.int i=>(kQ xs.length i).bind λj=>xs[j]?
 |.Mp kvs,.int i=>(xW kvs (.inl i)).map Rv
 |.LJ ks,.int k=>(ks.find? λq=>decide (q.1=k)).map λq=>Q2 q.2
 |_,_=>η
noncomputable def Ga:D->Option Int->Option Int->Option D
 |.lst xs,lo,hi=>θ (.lst (cut xs lo hi))
 |_,_,_=>η
noncomputable def D.inner:D->Bool
 |.lst xs=>D.Lh xs
 |.tup xs=>D.Lh xs
 |_=>ζ
noncomputable def jC (d:D)(R:List Nat):Rt:=if d.inner then .mv [] else .sh R
noncomputable def vJ (d:D)(r:Rt):Rt:=if d.flat then .mv [] else .sh r.roots
noncomputable def eW:List Rt->Option (List Nat)
 |[]=>θ []
 |.mv R::r=>(eW r).map (R ++ ·)
 |.sh _::_=>η
noncomputable def bF (l:List Rt):List Nat:=(l.map Rt.roots).flatten
noncomputable def IJ:D->D->Rt->Option D
 |.lst xs,y,.mv []=>if D.Lh xs&&decide (xs.length+1<=lim) then θ (.lst (xs ++ [y])) else η
 |_,_,_=>η
noncomputable def oU (l:List Rt):Rt:=match eW l with
 |some R=>if R.Nodup then .mv R else .sh R
 |none=>.sh (bF l)
noncomputable def rH (T:String):D->Bool
 |.Lj=>T == "NoneType"
 |.bl _=>T == "bool" || T == "int"
 |.int _=>T == "int"
 |.str _=>T == "str"
 |.lst _=>T == "list"
 |.tup _=>T == "tuple"
 |.Mp _=>ε
 |.Lx _=>ε
 |.LJ _=>ε
noncomputable def D.Ma:D->Bool
 |.bl _=>ζ
 |_=>ε
noncomputable def allB:List D->Option Bool
 |[]=>θ ζ
 |.bl b::r=>if b then allB r else θ ε
 |_::_=>η
noncomputable def anyB:List D->Option Bool
 |[]=>θ ε
 |.bl b::r=>if b then θ ζ else anyB r
 |_::_=>η
noncomputable def vH:Int->List D->Option Int
 |a,[]=>θ a
 |a,.int i::r=>vH (a+i) r
 |_,_::_=>η
noncomputable def qD:Int->List D->Option Int
 |a,[]=>θ a
 |a,.int i::r=>qD (if i > a then i else a) r
 |_,_::_=>η
noncomputable def cN:Int->Int->Nat->List D
 |_,_,0=>[]
 |a,s,n+1=>.int a::cN (a+s) s n
noncomputable def me (i:Int):Bool:=decide (-(2 ^ 62)<=i/\i<2 ^ 62)
noncomputable def ER:List D->Option (List (List Int))
 |[]=>θ []
 |.tup xs::r=>(mT xs).bind λk=>if k.isEmpty then η else (ER r).map (k :: ·)
 |_::_=>η
noncomputable def ID:List Int->List Int->Bool
 |[],[]=>ε
 |[],_::_=>ζ
 |_::_,[]=>ε
 |a::x,b::y=>if a==b then ID x y else decide (a<b)
noncomputable def insI (a:Int):List Int->List Int
 |[]=>[a]
 |b::l=>if a<=b then a::b::l else b::insI a l
noncomputable def fV:List Int->List Int
 |[]=>[]
 |a::l=>insI a (fV l)
noncomputable def AW:List D->Option D
 |[.lst xs]=>match mT xs with
  |some ns=>if ns.length<64 then θ (.lst ((fV ns).map .int)) else η
  |none=>η
 |_=>η
noncomputable def J3:List D->Option D
 |[.lst xs]=>θ (.int xs.length)
 |[.tup xs]=>θ (.int xs.length)
 |_=>η
noncomputable def GX:List D->Option D
 |[.lst xs]=>θ (.lst xs)
 |[.tup xs]=>θ (.lst xs)
 |_=>η
noncomputable def DW:List D->Option D
 |[.lst xs]=>θ (.tup xs)
 |_=>η
noncomputable def Je:List D->Option D
 |[.int i]=>θ (.int (if i<0 then -i else i))
 |_=>η
noncomputable def AI (lt:Nat->Nat->Bool):Nat->Nat->Nat->Nat
 |0,_,m=>m
 |k+1,j,m=>AI lt k (j+1) (if lt j m then j else m)
noncomputable def minD (xs:List D):Option D:=if xs.isEmpty then η else match mT xs with
 |some ns=>xs[AI (λi j=>decide (ns.getD i 0<ns.getD j 0)) (xs.length-1) 1 0]?
 |none=>(ER xs).bind λks=>xs[AI (λi j=>ID (ks.getD i []) (ks.getD j [])) (xs.length-1) 1 0]?
noncomputable def GJ:List D->Option D
 |[.int i,.int j]=>θ (.int (if j<i then j else i))
 |[.lst xs]=>minD xs
 |_=>η
noncomputable def Hh:List D->Option D
 |[.int i,.int j]=>θ (.int (if j > i then j else i))
 |_=>η
noncomputable def Fj:List D->Option D
 |[.lst xs]=>if xs.all D.Ma then (allB xs).map .bl else η
 |_=>η
noncomputable def IW:List D->Option D
 |[.lst xs]=>if xs.all D.Ma then (anyB xs).map .bl else η
 |_=>η
noncomputable def EH:List D->Option D
 |[.lst xs]=>(vH 0 xs).map .int
 |_=>η
noncomputable def EC (T:String):List D->Option D
 |[.bl b]=>θ (.bl (rH T (.bl b)))
 |[.int i]=>θ (.bl (rH T (.int i)))
 |[.lst l]=>θ (.bl (rH T (.lst l)))
 |[.tup l]=>θ (.bl (rH T (.tup l)))
 |_=>η
noncomputable def Hl:List D->Option D
 |[.lst xs]=>θ (.lst xs.reverse)
 |_=>η
noncomputable def BS:List D->Option D
 |[.int n]=>if me n=ζ/\n<=1000000 then θ (.lst (cN 0 1 n.toNat)) else η
 |_=>η
noncomputable def Kc:List D->Option D
 |[.bl b]=>θ (.int (if b then 1 else 0))
 |_=>η
noncomputable def HA:List D->Option D
 |[.int i,.int j]=>if 0<j/\j<1073741824 then θ (.tup [.int (i / j),.int (i%j)]) else η
 |_=>η
noncomputable def JI:List D->Option D
 |[.int i]=>if i.natAbs<1000000 then θ (.str (ge (toString i))) else η
 |_=>η
noncomputable def B6:List D->Option D
 |[.lst [],.int d]=>θ (.int d)
 |[.lst (.int i::r),.int _]=>(qD i r).map .int
 |_=>η
noncomputable def kS:Cz->List D->Option D
 |.sorted,ds=>AW ds
 |.len,ds=>J3 ds
 |.list,ds=>GX ds
 |.tuple,ds=>DW ds
 |.abs,ds=>Je ds
 |.min2,ds=>GJ ds
 |.max2,ds=>Hh ds
 |.all,ds=>Fj ds
 |.any,ds=>IW ds
 |.sum,ds=>EH ds
 |.MU T,ds=>EC T ds
 |.Sz,ds=>Hl ds
 |.MH,ds=>BS ds
 |.int,ds=>Kc ds
 |.Ua,ds=>HA ds
 |.M1,ds=>B6 ds
 |.str,ds=>JI ds
 |_,_=>η
noncomputable def uq (k:Int):List D->Option Nat
 |[]=>θ 0
 |.int i::r=>(uq k r).map λc=>if i==k then c+1 else c
 |_::_=>η
noncomputable def xU (n:Nat)(d:D):List D->Option (List Bool)
 |[]=>θ []
 |x::r=>(D.Lq n x d).bind λb=>(xU n d r).map (b :: ·)
noncomputable def Ds (n:Nat)(d:D)(ds:List D):Option Nat:=(xU n d ds).bind λbs=>bs.findIdx? id
noncomputable def yd:Rp->D->List D->Option D
 |.LG,.lst xs,[.tup t]=>if xs.length<=lim then (Ds 20 (.tup t) xs).map λ(j:Nat)=>.int (j:Int) else η
 |.LP,.lst xs,[.int k]=>(uq k xs).map λ(c:Nat)=>.int (c:Int)
 |_,_,_=>η
noncomputable def Tg.drop (i:Nat):Tg->Tg
 |.sh R=>.sh (R.filter (· != i))
 |t=>t
noncomputable def dJ (d:D)(R:List Nat):Tg:=if d.flat then .own else .sh R
noncomputable def put (env:En)(i:Nat)(d:D)(t:Tg):En:=(env.map λ(s:Slot)=>s.map λ(p:D×Tg)=>(p.1,p.2.drop i)).set i (θ (d,t))
noncomputable def kO (R:List Nat):Tg->Bool
 |.sh Q=>Q.any λq=>R.contains q
 |_=>ε
noncomputable def kill (R:List Nat)(env:En):En:=env.mapIdx λi (s:Slot)=>match s with
 |some (d,t)=>if R.contains i || kO R t then η else θ (d,t)
 |none=>η
noncomputable def bV (env:En)(R:List Nat):Bool:=R.all λi=>match env[i]? with
 |some (θ (_,.own))=>ζ
 |_=>ε
noncomputable def bindM (f:D->Tg):List Nat->List D->En->Option En
 |[],[],env=>θ env
 |i::is,d::ds,env=>if i<env.length then bindM f is ds (put env i d (f d)) else η
 |_,_,_=>η
noncomputable def be (R:List Nat):nQ->D->En->Option En
 |.nm i,d,env=>if i<env.length then θ (put env i d (dJ d R)) else η
 |.tp is,.tup ds,env=>bindM (λd=>dJ d R) is ds env
 |_,_,_=>η
structure Tb where
 cl:Nat->List D->Rs (D×Bool)
 gl:Nat->D
 fuel:Nat
noncomputable def gQ {α:Type}:Option α->Rs α
 |some a=>.ok a
 |none=>.bad
noncomputable def Hj:D->Option (List D)
 |.lst xs=>θ xs
 |.tup xs=>θ xs
 |.LJ ks=>θ (ks.map λq=>.int q.1)
 |_=>η
noncomputable def qQ:D->Option (List D)
 |.lst xs=>θ xs
 |_=>η
noncomputable def fE (f:D->Rs (Option (D×Rt))):List D->Rs (List (D×Rt))
 |[]=>.ok []
 |d::r=>(f d).bind λo=>(fE f r).bind λl=>.ok (match o with
  |some p=>p::l
  |none=>l)
noncomputable def bM (o:Option En)(c:En->Rs Bool)(e:En->Rs (D×Rt)):Rs (Option (D×Rt)):=match o with
 |none=>.bad
 |some env=>(c env).bind λk=>if k then (e env).bind λq=>.ok (θ q) else .ok η
noncomputable def gC:Rt->Bool
 |.mv []=>ζ
 |_=>ε
noncomputable def bG (i:Nat):Tg->List Nat
 |.own=>[i]
 |.lk=>[i]
 |.sh R=>R
noncomputable def qO (env:En)(pick:List Nat):List Nat:=(pick.map λj=>match env[j]? with
 |some (θ (_,t))=>bG j t
 |_=>[]).flatten
noncomputable def aO (env:En)(own:Nat)(pick:List Nat):En:=ν own η++pick.map λi=>match env[i]? with
 |some (θ (d,_))=>θ (d,.sh [])
 |_=>η
mutual
noncomputable def ev (T:Tb):Ex->En->Rs (D×Rt)
 |.var i,env=>match env[i]? with
  |some (θ (d,t))=>.ok (d,if d.flat then .mv [] else match t with
   |.own=>.mv [i]
   |.lk=>.mv [i]
   |.sh R=>.sh R)
  |_=>.bad
 |.cst d,_=>.ok (d,.mv [])
 |.MM k,_=>.ok (T.gl k,.mv [])
 |.bin op a b,env=>(ev T a env).bind λp=>(ev T b env).bind λq=>(gQ (mR op p.1 q.1)).bind λd=>.ok (d,jC d (p.2.roots++q.2.roots))
 |.neg a,env=>(ev T a env).bind λp=>match p.1 with
  |.int i=>.ok (.int (-i),.mv [])
  |_=>.bad
 |.cmp op a b,env=>(ev T a env).bind λp=>(ev T b env).bind λq=>(gQ (mE op p.1 q.1)).bind λc=>.ok (.bl c,.mv [])
 |.chn op OJ a b c,env=>(ev T a env).bind λp=>(ev T b env).bind λq=>(gQ (mE op p.1 q.1)).bind λk=>
   if k then (ev T c env).bind λr=>(gQ (mE OJ q.1 r.1)).bind λk'=>.ok (.bl k',.mv []) else .ok (.bl ε,.mv [])
 |.and a b,env=>(ev T a env).bind λp=>match p.1 with
  |.bl ζ=>ev T b env
  |.bl ε=>.ok (.bl ε,.mv [])
  |_=>.bad
 |.or a b,env=>(ev T a env).bind λp=>match p.1 with
  |.bl ζ=>.ok (.bl ζ,.mv [])
  |.bl ε=>ev T b env
  |_=>.bad
 |.not a,env=>(ev T a env).bind λp=>match p.1 with
  |.bl k=>.ok (.bl (!k),.mv [])
  |_=>.bad
 |.ite c a b,env=>(ev T c env).bind λp=>(gQ (truth p.1)).bind λk=>if k then ev T a env else ev T b env
 |.lst es,env=>(bL T es env).bind λl=>if l.length<=lim then .ok (.lst (l.map (·.1)),oU (l.map (·.2))) else .bad
 |.tup es,env=>(bL T es env).bind λl=>if l.length<=lim then .ok (.tup (l.map (·.1)),oU (l.map (·.2))) else .bad
 |.ix a i,env=>(ev T a env).bind λp=>(ev T i env).bind λq=>(gQ (EN p.1 q.1)).bind λd=>.ok (d,vJ d p.2)
 |.sl a lo hi,env=>(ev T a env).bind λp=>(jW T lo env).bind λl=>(jW T hi env).bind λh=>(gQ (Ga p.1 l h)).bind λd=>.ok (d,jC d p.2.roots)
 |.call f es,env=>(bL T es env).bind λl=>(T.cl f (l.map (·.1))).bind λr=>.ok (r.1,if r.2 then .mv [] else .sh (bF (l.map (·.2))))
 |.blt b es,env=>(bL T es env).bind λl=>(gQ (kS b (l.map (·.1)))).bind λd=>.ok (d,jC d (bF (l.map (·.2))))
 |.NQ m o es,env=>(ev T o env).bind λp=>(bL T es env).bind λl=>(gQ (yd m p.1 (l.map (·.1)))).bind λd=>.ok (d,jC d (p.2.roots++bF (l.map (·.2))))
 |.comp own pick t it c e,env=>(fU T it env).bind λp=>(fE (λd=>bM (be [] t d (aO env own pick)) (nT T c) (ev T e)) p.1).bind λl=>
    if p.1.length<=lim then .ok (.lst (l.map (·.1)),if l.all (λq=>q.1.flat || gC q.2) then .mv [] else .sh (p.2++qO env pick)) else .bad
 |.MO,_=>.ok (.Lx [],.mv [])
 |.UD l,_=>(gQ (IA T.gl l [])).bind λks=>.ok (.Lx ks,.mv [])
 |.snoc a b,env=>(ev T a env).bind λp=>(ev T b env).bind λq=>(gQ (IJ p.1 q.1 q.2)).bind λd=>.ok (d,.mv [])
 |.app g es,env=>(bL T es env).bind λl=>(gQ (g (l.map (·.1)))).bind λd=>.ok (d,.mv [])
noncomputable def bL (T:Tb):nV->En->Rs (List (D×Rt))
 |.nil,_=>.ok []
 |.cons e es,env=>(ev T e env).bind λp=>(bL T es env).bind λl=>.ok (p::l)
noncomputable def jW (T:Tb):nY->En->Rs (Option Int)
 |.none,_=>.ok η
 |.some e,env=>(ev T e env).bind λp=>match p.1 with
  |.int i=>.ok (θ i)
  |_=>.bad
noncomputable def nT (T:Tb):nY->En->Rs Bool
 |.none,_=>.ok ζ
 |.some e,env=>(ev T e env).bind λp=>gQ (truth p.1)
noncomputable def fU (T:Tb):tX->En->Rs (List D×List Nat)
 |.seq e,env=>(ev T e env).bind λp=>(gQ (Hj p.1)).bind λl=>.ok (l,p.2.roots)
 |.Lm a,env=>(ev T a env).bind λp=>match p.1 with
  |.int j=>if me j then .ok (cN 0 1 j.toNat,[]) else .bad
  |_=>.bad
 |.M0 a b,env=>(ev T a env).bind λp=>(ev T b env).bind λq=>match p.1,q.1 with
  |.int i,.int j=>if me i&&me j then .ok (cN i 1 (j-i).toNat,[]) else .bad
  |_,_=>.bad
 |.enum e,env=>(ev T e env).bind λp=>(gQ (qQ p.1)).bind λl=>.ok (l.zipIdx.map λq=>.tup [.int q.2,q.1],p.2.roots)
 |.zip a b,env=>(ev T a env).bind λp=>(ev T b env).bind λq=>(gQ (qQ p.1)).bind λl=>(gQ (qQ q.1)).bind λm=>.ok ((l.zip m).map λz=>.tup [z.1,z.2],p.2.roots++q.2.roots)
 |.rev e,env=>(ev T e env).bind λp=>(gQ (qQ p.1)).bind λl=>.ok (l.reverse,p.2.roots)
end
noncomputable def D.LL:D->Option Int->Option (List D)
 |.lst xs,η=>θ xs
 |.lst xs,θ i=>(kQ xs.length i).bind λj=>match xs[j]? with
  |some (.lst ys)=>θ ys
  |_=>η
 |.tup xs,θ i=>(kQ xs.length i).bind λj=>match xs[j]? with
  |some (.lst ys)=>θ ys
  |_=>η
 |_,_=>η
noncomputable def D.LO:D->Option Int->List D->D
 |.lst _,η,n=>.lst n
 |.lst xs,θ i,n=>match kQ xs.length i with
  |some j=>.lst (xs.set j (.lst n))
  |none=>.lst xs
 |.tup xs,θ i,n=>match kQ xs.length i with
  |some j=>.tup (xs.set j (.lst n))
  |none=>.tup xs
 |d,_,_=>d
noncomputable def yy:sj->List D->List D->Option (List D)
 |.append,xs,[d]=>θ (xs ++ [d])
 |.extend,xs,[.lst ys]=>if D.Lh ys then θ (xs++ys) else η
 |.insert,xs,[.int i,d]=>if -(2 ^ 63)<=i/\i<2 ^ 63 then θ (xs.take (kZ xs.length 0 (θ i))++d::xs.drop (kZ xs.length 0 (θ i))) else η
 |.pop,xs,[]=>if xs.isEmpty then η else θ xs.dropLast
 |.reverse,xs,[]=>θ xs.reverse
 |.clear,_,[]=>θ []
 |_,_,_=>η
noncomputable def nO (xs:List D)(j:Nat):Option (D×List D):=match xs[j]? with
 |some r=>if r.flat then θ (r,xs.eraseIdx j) else η
 |none=>η
noncomputable def sE (xs:List D):List D->Option (D×List D)
 |[]=>nO xs (xs.length-1)
 |[.int i]=>if -(2 ^ 63)<=i/\i<2 ^ 63 then (kQ xs.length i).bind (nO xs) else η
 |_=>η
inductive Fl where
 |nx (env:En)|rt (d:D) (fr:Bool)|bk (env:En)|ct (env:En)|xc (e:Xz) (env:En)|bad
noncomputable def yU:Option En->Fl
 |some env=>.nx env
 |none=>.bad
noncomputable def mW (t:nQ)(mv:Bool)(env:En)(p:D×Rt):Fl:=match t with
 |.nm i=>if i<env.length then (match p.2 with
  |.mv []=>.nx (put env i p.1 .own)
  |.mv R=>if mv then (if bV env R then .nx (put (kill R env) i p.1 .own) else .bad) else .nx (put env i p.1 (.sh (R.filter (· != i))))
  |.sh R=>.nx (put env i p.1 (.sh (R.filter (· != i))))) else .bad
 |.tp is=>match p.1 with
  |.tup ds=>match p.2 with
   |.mv []=>yU (bindM (λ_=>.own) is ds env)
   |r=>if is.all (λi=>!r.roots.contains i) then yU (bindM (λd=>dJ d r.roots) is ds env) else .bad
  |_=>.bad
noncomputable def Fl.andThen (f:Fl)(k:En->Fl):Fl:=match f with
 |.nx env=>k env
 |x=>x
noncomputable def iY {α:Type}(env:En)(x:Rs α)(k:α->Fl):Fl:=match x with
 |.ok a=>k a
 |.exc e=>.xc e env
 |.bad=>.bad
noncomputable def bU (t:nQ)(R:List Nat)(b:En->Fl):List D->En->Fl
 |[],env=>.nx env
 |d::r,env=>match be R t d env with
  |none=>.bad
  |some env'=>match b env' with
   |.nx e=>bU t R b r e
   |.ct e=>bU t R b r e
   |.bk e=>.nx e
   |x=>x
noncomputable def EZ (x:Nat)(b:En->Fl):List D->En->Fl
 |[],env=>.nx env
 |d::r,env=>if x<env.length then (match b (put env x d .own) with
  |.nx e=>EZ x b r e
  |_=>.bad) else .bad
noncomputable def ka (c:En->Rs Bool)(b:En->Fl):Nat->En->Fl
 |0,_=>.bad
 |n+1,env=>iY env (c env) λk=>if k then (match b env with
   |.nx e=>ka c b n e
   |.ct e=>ka c b n e
   |.bk e=>.nx e
   |x=>x) else .nx env
noncomputable def lock (R:List Nat)(env:En):En:=env.mapIdx λi (s:Slot)=>match s with
 |some (d,.own)=>if R.contains i then θ (d,.lk) else θ (d,.own)
 |s=>s
noncomputable def unlock (R:List Nat)(env0 env:En):En:=env.mapIdx λi (s:Slot)=>match s with
 |some (d,.lk)=>match env0[i]? with
  |some (θ (_,.own))=>if R.contains i then θ (d,.own) else θ (d,.lk)
  |_=>θ (d,.lk)
 |s=>s
noncomputable def sj.Lz:sj->Bool
 |.extend=>ζ
 |_=>ε
noncomputable def dU (x:Nat)(path:Option Int)(env:En)(d:D)(ys:List D)(rs:List Rt):Fl:=match eW rs with
 |none=>.bad
 |some R=>if R.Nodup&&bV env R && !R.contains x&&decide (ys.length<=lim) then .nx ((kill (x::R) env).set x (θ (d.LO path ys,.own))) else .bad
noncomputable def ownAt (env:En)(x:Nat):Option D:=match env[x]? with
 |some (θ (d,.own))=>θ d
 |_=>η
noncomputable def tq (env:En)(x:Nat):En:=match ownAt env x with
 |some (.Lx ks)=>(kill [x] env).set x (θ (.LJ ks,.own))
 |_=>env
noncomputable def F6:li->Int->Int->Option Int
 |.Add,i,j=>θ (i+j)
 |.Sub,i,j=>θ (i-j)
 |_,_,_=>η
noncomputable def IY (op:li)(x:Nat)(a:Int)(env:En)(p:D×Rt):Fl:=match p.1 with
 |.int b=>(match F6 op a b with
  |some c=>mW (.nm x) ε env (.int c,.mv [])
  |none=>.bad)
 |_=>.bad
noncomputable def intAt (env:En)(x:Nat):Option Int:=match env[x]? with
 |some (θ (.int a,_))=>θ a
 |_=>η
mutual
noncomputable def bC (T:Tb):St->En->Fl
 |.asg t e mv,env=>iY env (ev T e env) (mW t mv env)
 |.mut x path m es,env=>match ownAt env x with
  |none=>.bad
  |some d=>iY env (jW T path env) λp=>match d.LL p with
   |none=>.bad
   |some xs=>iY env (bL T es env) λl=>match yy m xs (l.map (·.1)) with
    |none=>.bad
    |some ys=>if (bF (l.map (·.2))).contains x then .bad else dU x p env d ys (if m.Lz then [] else l.map (·.2))
 |.MG x i v,env=>match ownAt env x with
  |none=>.bad
  |some d=>iY env (ev T v env) λu=>iY env (ev T i env) λq=>match CO d q.1 u.1 with
   |none=>.bad
   |some d'=>.nx ((kill [x] env).set x (θ (d',.own)))
 |.Lv x path i e,env=>match ownAt env x with
  |none=>.bad
  |some d=>iY env (ev T e env) λv=>iY env (jW T path env) λp=>match d.LL p with
   |none=>.bad
   |some xs=>iY env (ev T i env) λq=>match q.1 with
    |.int i=>(match kQ xs.length i with
     |none=>.bad
     |some j=>dU x p env d (xs.set j v.1) [v.2])
    |_=>.bad
 |.aug x op e,env=>match intAt env x with
  |none=>.bad
  |some a=>iY env (ev T e env) (IY op x a env)
 |.Si y x es,env=>match ownAt env x with
  |none=>.bad
  |some d=>(match d.LL η with
   |none=>.bad
   |some xs=>iY env (bL T es env) λl=>match sE xs (l.map (·.1)) with
    |none=>.bad
    |some q=>(dU x η env d q.2 []).andThen λe=>mW (.nm y) ε e (q.1,.mv []))
 |.M6 y x es,env=>if y=x then .bad else match ownAt env x with
  |none=>.bad
  |some d=>(match d.LL η with
   |none=>.bad
   |some xs=>iY env (bL T es env) λl=>match sE xs (l.map (·.1)) with
    |none=>.bad
    |some q=>(dU x η env d q.2 []).andThen λe=>match ownAt e y with
     |none=>.bad
     |some dy=>(match dy.LL η with
      |none=>.bad
      |some ys=>dU y η e dy (ys ++ [q.1]) []))
 |.NI x s,env=>bC T s (tq env x)
 |.expr e,env=>iY env (ev T e env) λ_=>.nx env
 |.ite c a b,env=>iY env (ev T c env) λp=>match truth p.1 with
  |some ζ=>aE T a env
  |some ε=>aE T b env
  |none=>.bad
 |.Li t it b,env=>iY env (fU T it env) λp=>(match bU t p.2 (aE T b) p.1 (lock p.2 env) with
  |.nx e=>.nx (unlock p.2 env e)
  |x=>x)
 |.N9 x e b,env=>iY env (ev T e env) λp=>match p with
  | (.lst xs,.mv [])=>EZ x (aE T b) xs env
  |_=>.bad
 |.Oc c b,env=>ka (λenv=>(ev T c env).bind λp=>gQ (truth p.1)) (aE T b) T.fuel env
 |.ret e,env=>iY env (ev T e env) λp=>.rt p.1 (match p.2 with
  |.mv R=>bV env R
  |.sh _=>ε)
 |.OI,_=>.rt .Lj ζ
 |.brk,env=>.bk env
 |.cnt,env=>.ct env
 |.pass,env=>.nx env
noncomputable def aE (T:Tb):bJ->En->Fl
 |.nil,env=>.nx env
 |.cons s r,env=>(bC T s env).andThen (aE T r)
end
structure Fn where
 ps:Nat
 slots:Nat
 body:bJ
noncomputable def aF (ds:List D)(n:Nat):En:=ds.map (λd=>θ (d,dJ d []))++ν (n-ds.length) η
noncomputable def run (fns:List Fn)(gl:Nat->D)(fuel:Nat):Nat->Nat->List D->Rs (D×Bool)
 |0,_,_=>.bad
 |n+1,f,ds=>match fns[f]? with
  |none=>.bad
  |some F=>if ds.length=F.ps then (match aE ⟨run fns gl fuel n,gl,fuel⟩ F.body (aF ds F.slots) with
   |.rt d fr=>.ok (d,fr)
   |.nx _=>.ok (.Lj,ζ)
   |.xc e _=>.exc e
   |_=>.bad) else .bad
end Pc
end
section
namespace Pc
open PySem L2
noncomputable abbrev Frag:=Β
inductive u5:List DictEntry->List (Key×Option Int)->Prop where
 |nil:u5 [] []
 |cons {e:DictEntry}{es:List DictEntry}{k v:Int}{kvs:List (Key×Option Int)}{t u:YR}(hh:e.hash=hashInt k) (hk:e.key=.int k t) (hv:e.val=.int v u) (r:u5 es kvs):u5 (e::es) ((.inl k,θ v)::kvs)
def Kp (K:Frag)(a:Addr)(kvs:List (Key×Option Int)):Prop:=∃o es ep,K.lookup a=θ o/\o.ExactDict/\o.data=.dict es ep/\u5 es.toList kvs/\(kvs.map (·.1)).Nodup
def xj (w:Ν)(K:Frag):Prop:=True
inductive ML where
 |l (vs:List V)|k (kvs:List (Key×V))
noncomputable def ML.o:ML->HO
 |.l vs=>.lst vs
 |.k kvs=>.dK kvs
noncomputable def FP:List V->Bool
 |[.int i,.int j]=>Kh i j
 |_=>ε
noncomputable def mK (K:Frag)(H:Hp)(a:Addr)(xs:List V):Prop :=
 H a=θ (.tup xs) \/
  FP xs=ε/\∃(o:Obj) (its:Array Value) (n:Nat),K.lookup a=θ o/\o.cls=.type "tuple"/\o.data=.seq its n/\its.size<=sizeLine/\aT xs its.toList
noncomputable def zr (K:Frag)(H:Hp):MV->V->Prop
 |.tr,v=>v=.bl ζ
 |.int i,v=>v=.int i
 |.tup is,v=>∃b,v=.ref b/\mK K H b (is.map .int)
noncomputable def nR (K:Frag)(H:Hp):List (Int×MV)->List (Key×V)->Prop
 |[],[]=>True
 |q::r,p::s=>p.1=.inl q.1/\zr K H q.2 p.2/\nR K H r s
 |_,_=>False
variable {H H':Hp}{K:Frag}
theorem zr.keep (t:∀b vs,mK K H b vs->mK K H' b vs):∀{m:MV}{v:V},zr K H m v->zr K H' m v
 |.tr,_,h=>h
 |.int _,_,h=>h
 |.tup _,_,⟨b,e,h⟩=>⟨b,e,t _ _ h⟩
theorem nR.keep (t:∀b vs,mK K H b vs->mK K H' b vs):∀{q:List (Int×MV)}{x:List (Key×V)},nR K H q x->nR K H' q x
 |[],[],h=>h
 |_::_,_::_,⟨a,b,c⟩=>⟨a,b.keep t,c.keep t⟩
 |[],_::_,h=>h.elim
 |_::_,[],h=>h.elim
theorem nR.len:∀{q:List (Int×MV)}{x:List (Key×V)},nR K H q x->x.length=q.length
 |[],[],_=>rfl
 |_::_,_::_,⟨_,_,c⟩=>by rw[cg,cg,c.len]
 |[],_::_,h=>h.elim
 |_::_,[],h=>h.elim
variable {a:Addr}
theorem mK.sq {xs:List V}(h:mK K H a xs):rb K H a xs:=h.imp .inl And.right
mutual
inductive Rep (K:Frag) (H:Hp):D->V->List Addr->Prop where
 |Lj:Rep K H .Lj .Lj []
 |bl (b:Bool):Rep K H (.bl b) (.bl b) []
 |int (i:Int):Rep K H (.int i) (.int i) []
 |str (s:Str):Rep K H (.str s) (.str s) []
 |lst {p:Addr}{vs:List V}{ds:List D}{G:List Addr}(h:Rd H p (.lst vs)) (r:aK K H ds vs G):Rep K H (.lst ds) (.ref p) (p::G)
 |tup {p:Addr}{vs:List V}{ds:List D}{G:List Addr}(h:mK K H p vs) (r:aK K H ds vs G):Rep K H (.tup ds) (.ref p) G
 |Mp {p:Addr}{kvs:List (Key×Option Int)}(h:Kp K p kvs):Rep K H (.Mp kvs) (.ref p) []
 |Lx {p:Addr}{ks:List (Int×MV)}{xs:List (Key×V)}(h:H p=θ (.dK xs)) (r:nR K H ks xs):Rep K H (.Lx ks) (.ref p) [p]
 |LJ {p:Addr}{ks:List (Int×MV)}{xs:List (Key×V)}{o:Obj}(h:H p=θ (.L4 o (.dK xs))) (r:nR K H ks xs):Rep K H (.LJ ks) (.ref p) []
inductive aK (K:Frag) (H:Hp):List D->List V->List Addr->Prop where
 |nil:aK K H [] [] []
 |cons {d:D}{v:V}{ds:List D}{vs:List V}{G G':List Addr}(h:Rep K H d v G) (r:aK K H ds vs G'):aK K H (d::ds) (v::vs) (G++G')
end
variable {b:Addr}
theorem Cu (k:∀u:HO,H b=θ u->H' b=θ u){o:HO}(h:Rd H b o):Rd H' b o:=by
 rcases h with h|⟨u,h⟩
 .exact .inl (k _ h)
 .exact .inr ⟨u,k _ h⟩
def Io (H H':Hp):Prop:=∀b o u,H b=θ (.L4 o u)->H' b=θ (.L4 o u)
variable {G:List Addr}{d:D}{ds:List D}{v:V}{vs:List V}
section
variable {K:Frag}{H H':Hp}
theorem Rep.keep (t:∀b vs,mK K H b vs->mK K H' b vs)(z:Io H H')(h:Rep K H d v G):(∀b∈G,∀u:HO,H b=θ u->H' b=θ u)->Rep K H' d v G :=
 Rep.rec (motive_1:=λd v G _=>(∀b∈G,∀u:HO,H b=θ u->H' b=θ u)->Rep K H' d v G) (motive_2:=λds vs G _=>(∀b∈G,∀u:HO,H b=θ u->H' b=θ u)->aK K H' ds vs G)
  (λ_=>.Lj) (λb _=>.bl b) (λi _=>.int i) (λs _=>.str s) (λh _ ih k=>.lst (Cu (k _ ag) h) (ih λb hb=>k b (aa _ hb)))
  (λh _ ih k=>.tup (t _ _ h) (ih k)) (λh _=>.Mp h) (λh r k=>.Lx (k _ ag _ h) (r.keep t)) (λh r _=>.LJ (z _ _ _ h) (r.keep t))
  (λ_=>.nil) (λ_ _ i1 i2 k=>.cons (i1 λb hb=>k b (a9 _ hb)) (i2 λb hb=>k b (aq _ hb))) h
theorem aK.keep (t:∀b vs,mK K H b vs->mK K H' b vs)(z:Io H H')(h:aK K H ds vs G):(∀b∈G,∀u:HO,H b=θ u->H' b=θ u)->aK K H' ds vs G :=
 aK.rec (motive_1:=λd v G _=>True) (motive_2:=λds vs G _=>(∀b∈G,∀u:HO,H b=θ u->H' b=θ u)->aK K H' ds vs G)
  trivial (λ_=>trivial) (λ_=>trivial) (λ_=>trivial) (λ_ _ _=>trivial) (λ_ _ _=>trivial) (λ_=>trivial) (λ_ _=>trivial) (λ_ _=>trivial)
  (λ_=>.nil) (λh _ _ i2 k=>.cons (Rep.keep t z h λb hb=>k b (a9 _ hb)) (i2 λb hb=>k b (aq _ hb))) h
theorem aN.rd (e:aN H H'){o:HO}(h:Rd H b o):Rd H' b o:=by
 rcases h with h|⟨u,h⟩
 .exact .inl (e _ _ h)
 .exact .inr ⟨u,e _ _ h⟩
theorem aN.OC (e:aN H H')(h:mK K H b vs):mK K H' b vs:=by
 rcases h with h|h
 .exact .inl (e _ _ h)
 .exact .inr h
theorem aN.sqT (e:aN H H')(h:rb K H b vs):rb K H' b vs:=by
 rcases h with h|h
 .exact .inl (aN.rd e h)
 .exact .inr h
theorem Rep.same (e:aN H H')(h:Rep K H d v G):Rep K H' d v G:=h.keep (λ_ _=>aN.OC e) (λ_ _ _ h=>e _ _ h) λ_ _ _ h=>e _ _ h
theorem aK.same (e:aN H H'){d:List D}{v:List V}(h:aK K H d v G):aK K H' d v G:=h.keep (λ_ _=>aN.OC e) (λ_ _ _ h=>e _ _ h) λ_ _ _ h=>e _ _ h
theorem Rep.flat (h:Rep K H d v G):d.flat=ζ->G=[] :=
 Rep.rec (motive_1:=λd v G _=>d.flat=ζ->G=[]) (motive_2:=λds vs G _=>D.Lh ds=ζ->G=[])
  (λ_=>rfl) (λ_ _=>rfl) (λ_ _=>rfl) (λ_ _=>rfl) (λ_ _ _ f=>by simp[D.flat] at f) (λ_ _ ih f=>ih (by simpa[D.flat] using f)) (λ_ _=>rfl) (λ_ _ f=>by simp[D.flat] at f) (λ_ _ _=>rfl)
  (λ_=>rfl) (λ_ _ i1 i2 f=>by
   simp only[D.Lh,aj] at f;rw[i1 f.1,i2 f.2];rfl) h
theorem aK.flat (h:aK K H ds vs G):D.Lh ds=ζ->G=[] :=
 aK.rec (motive_1:=λd v G _=>True) (motive_2:=λds vs G _=>D.Lh ds=ζ->G=[])
  trivial (λ_=>trivial) (λ_=>trivial) (λ_=>trivial) (λ_ _ _=>trivial) (λ_ _ _=>trivial) (λ_=>trivial) (λ_ _=>trivial) (λ_ _=>trivial)
  (λ_=>rfl) (λh _ _ i2 f=>by
   simp only[D.Lh,aj] at f;rw[Rep.flat h f.1,i2 f.2];rfl) h
theorem Rep.live (h:Rep K H d v G):∀a∈G,∃vs:ML,Rd H a vs.o :=
 Rep.rec (motive_1:=λd v G _=>∀a∈G,∃vs:ML,Rd H a vs.o) (motive_2:=λds vs G _=>∀a∈G,∃vs:ML,Rd H a vs.o)
  (λ_ h=>(nomatch h)) (λ_ _ h=>(nomatch h)) (λ_ _ h=>(nomatch h)) (λ_ _ h=>(nomatch h)) (λh _ ih a m=>(fe.mp m).elim (λe=>e ▸ ⟨.l _,h⟩) (ih a)) (λ_ _ ih=>ih) (λ_ _ h=>(nomatch h))
  (λh _ a m=>(gu.mp m) ▸ ⟨.k _,.inl h⟩) (λ_ _ _ h=>(nomatch h))
  (λ_ h=>(nomatch h)) (λ_ _ i1 i2 a m=>(il.mp m).elim (i1 a) (i2 a)) h
theorem aK.live (h:aK K H ds vs G):∀a∈G,∃vs:ML,Rd H a vs.o :=
 aK.rec (motive_1:=λd v G _=>True) (motive_2:=λds vs G _=>∀a∈G,∃vs:ML,Rd H a vs.o)
  trivial (λ_=>trivial) (λ_=>trivial) (λ_=>trivial) (λ_ _ _=>trivial) (λ_ _ _=>trivial) (λ_=>trivial) (λ_ _=>trivial) (λ_ _=>trivial)
  (λ_ h=>(nomatch h)) (λh _ _ i2 a m=>(il.mp m).elim (Rep.live h a) (i2 a)) h
theorem Rd.MS {u:HO}(h:Rd H a u):H a≠η:=by
 rcases h with h|⟨o,h⟩<;>rw[h]<;>simp
theorem Rep.nn (h:Rep K H d v G)(m:a∈G):H a≠η:=let ⟨_,q⟩:=h.live a m;Rd.MS q
theorem aK.nn {d:List D}{v:List V}(h:aK K H d v G)(m:a∈G):H a≠η:=let ⟨_,q⟩:=h.live a m;Rd.MS q
theorem aK.len:∀{ds:List D}{vs:List V}{G:List Addr},aK K H ds vs G->ds.length=vs.length
 |_,_,_,.nil=>rfl
 |_,_,_,.cons _ r=>by simp[aK.len r]
theorem aK.get:∀{ds:List D}{vs:List V}{G:List Addr}{i:Nat}{d:D},aK K H ds vs G->ds[i]? = θ d->∃v G',vs[i]? = θ v/\Rep K H d v G'/\G'.Sublist G
 |_,_,_,_,_,.nil,e=>by simp at e
 |_,_,_,0,_,.cons h r,e=>by
  simp at e;subst e;exact⟨_,_,rfl,h,List.sublist_append_left _ _⟩
 |_,_,_,i+1,d,.cons h r,e=>by
  obtain⟨v,G',a,b,c⟩:=aK.get (i:=i) (d:=d) r (by simpa using e);exact⟨v,G',by simpa using a,b,c.trans (Ye _ _)⟩
theorem aK.append:∀{ds es:List D}{vs us:List V}{G G':List Addr},aK K H ds vs G->aK K H es us G'->aK K H (ds++es) (vs++us) (G++G')
 |_,_,_,_,_,_,.nil,s=>s
 |_,_,_,_,_,_,.cons h r,s=>by
  rw[ef];exact .cons h (aK.append r s)
theorem aK.take:∀{ds:List D}{vs:List V}{G:List Addr}(n:Nat),aK K H ds vs G->∃G',aK K H (ds.take n) (vs.take n) G'/\G'.Sublist G
 |_,_,_,0,_=>⟨[],by simpa using .nil,by simp⟩
 |_,_,_,_+1,.nil=>⟨[],by simpa using .nil,by simp⟩
 |_,_,_,n+1,.cons h r=>by
  obtain⟨G',a,b⟩:=aK.take n r;exact⟨_,by simpa using .cons h a,Ã (Yf _) b⟩
theorem aK.drop:∀{ds:List D}{vs:List V}{G:List Addr}(n:Nat),aK K H ds vs G->∃G',aK K H (ds.drop n) (vs.drop n) G'/\G'.Sublist G
 |_,_,_,0,r=>⟨_,by simpa using r,Yf _⟩
 |_,_,_,_+1,.nil=>⟨[],by simpa using .nil,by simp⟩
 |_,_,_,n+1,.cons h r=>by
  obtain⟨G',a,b⟩:=aK.drop n r;exact⟨_,by simpa using a,b.trans (Ye _ _)⟩
theorem aK.split:∀{ds:List D}{vs:List V}{G:List Addr}{i:Nat}{d:D},aK K H ds vs G->ds[i]? = θ d->∃v G1 G' G2,vs[i]? = θ v/\G=G1++(G'++G2)/\Rep K H d v G' /\
  ∀(H':Hp) (d':D) (v':V) (N:List Addr),(∀b vs,mK K H b vs->mK K H' b vs)->Io H H'->(∀b∈G1++G2,∀u:HO,H b=θ u->H' b=θ u)->Rep K H' d' v' N->aK K H' (ds.set i d') (vs.set i v') (G1++(N++G2))
 |_,_,_,_,_,.nil,e=>by simp at e
 |_,_,_,0,_,.cons (G:=G) (G':=G') h r,e=>by
  simp at e;subst e;refine⟨_,[],_,_,rfl,rfl,h,λH' d' v' N t z k n=>?_⟩;show aK K H' (_::_) (_::_) (N++G');exact .cons n (r.keep t z λb hb=>k b (by simpa using hb))
 |_,_,_,i+1,d,.cons (G:=G) (G':=G') h r,e=>by
  obtain⟨v,G1,Gi,G2,a,b,c,f⟩:=aK.split (i:=i) (d:=d) r (by simpa using e);refine⟨v,G++G1,Gi,G2,by simpa using a,by rw[b];simp,c,λH' d' v' N t z k n=>?_⟩;have q:=aK.cons (h.keep t z λb hb=>k b (by simp[hb])) (f H' d' v' N t z (λb hb=>k b (by simp at hb ⊢;exact ë hb)) n);rw[<-ef] at q;exact q
end
noncomputable def bK:Tg->Bool
 |.own=>ζ
 |.lk=>ζ
 |.sh _=>ε
structure RE (K:Frag)(P:Addr->Prop)(env:En)(σ:L2.St)(H:Hp)(F:Nat->List Addr):Prop where
 len:env.length=σ.length
 val:∀i d t,env[i]? = θ (θ (d,t))->∃v,σ[i]? = θ (θ v)/\Rep K H d v (F i)
 MN:∀i,(∀d t,env[i]?≠θ (θ (d,t)))->F i=[]
 one:∀i d t,env[i]? = θ (θ (d,t))->bK t=ζ->(F i).Nodup/\(∀a∈F i,∃vs:ML,H a=θ vs.o) /\
  ∀a∈F i,∀j d' t',env[j]? = θ (θ (d',t'))->a∈F j->i∈bG j t'
 wr:∀i d,env[i]? = θ (θ (d,.own))->∀a∈F i,¬ P a
 pl:∀a,P a->H a≠η
structure cA (env:En)(F:Nat->List Addr)(H:Hp)(r:Rt)(H':Hp)(G:List Addr):Prop where
 cont:∀a∈G,H a=η\/∃i d t,a∈F i/\env[i]? = θ (θ (d,t))/\∀q∈bG i t,q∈r.roots
 mv:∀R,r=.mv R->G.Nodup/\(∀a∈G,∃vs:ML,H' a=θ vs.o)/\∀a∈G,H a=η\/∃i d t,i∈R/\a∈F i/\env[i]? = θ (θ (d,t))/\bK t=ζ
variable {F:Nat->List Addr}{env:En}
theorem cA.nil {r:Rt}:cA env F H r H' []:=⟨λ_ h=>(nomatch h),λ_ _=>⟨bj,λ_ h=>(nomatch h),λ_ h=>(nomatch h)⟩⟩
theorem RE.same {P:Addr->Prop}{σ:L2.St}(r:RE K P env σ H F)(e:aN H H'):RE K P env σ H' F where
 len:=r.len
 val:=λi d t h=>let ⟨v,a,b⟩:=r.val i d t h;⟨v,a,b.same e⟩
 MN:=r.MN
 one:=λi d t h o=>let ⟨a,b,c⟩:=r.one i d t h o;⟨a,λx hx=>let ⟨vs,q⟩:=b x hx;⟨vs,e _ _ q⟩,c⟩
 wr:=r.wr
 pl:=λa h z=>by
  cases q:H a with
  |none=>exact r.pl a h q
  |some o=>rw[e _ _ q] at z;cases z
theorem aN.no (e:aN H H')(h:H' a=η):H a=η:=by
 cases q:H a with
 |none=>rfl
 |some o=>rw[e _ _ q] at h;cases h
variable {H1:Hp}{r:Rt}
theorem cA.back (h:cA env F H1 r H' G)(e:aN H H1):cA env F H r H' G where
 cont:=λa ha=>(h.cont a ha).imp (aN.no e) id
 mv:=λR hr=>let ⟨a,b,c⟩:=h.mv R hr;⟨a,b,λx hx=>(c x hx).imp (aN.no e) id⟩
theorem cA.later (h:cA env F H r H1 G)(e:aN H1 H'):cA env F H r H' G where
 cont:=h.cont
 mv:=λR hr=>let ⟨a,b,c⟩:=h.mv R hr;⟨a,λx hx=>let ⟨vs,q⟩:=b x hx;⟨vs,e _ _ q⟩,c⟩
theorem cA.part {r':Rt}{G':List Addr}(h:cA env F H r H' G)(hs:∀a∈G',a∈G)(hr:∀q∈r.roots,q∈r'.roots)(hn:∀R,r'≠.mv R):cA env F H r' H' G' where
 cont:=λa ha=>(h.cont a (hs a ha)).imp id λ⟨i,d,t,x,y,z⟩=>⟨i,d,t,x,y,λq hq=>hr q (z q hq)⟩
 mv:=λR e=>absurd e (hn R)
noncomputable def oq (F:Nat->List Addr)(i:Nat)(G:List Addr):Nat->List Addr:=λj=>if j=i then G else F j
variable {i:Nat}
theorem eJ:oq F i G i=G:=if_pos rfl
variable {j:Nat}
theorem dZ (h:j≠i):oq F i G j=F j:=if_neg h
theorem wq (env:En)(i:Nat)(d:D)(t:Tg):(put env i d t).length=env.length:=by simp[put]
variable {t:Tg}
theorem eU (h:i<env.length):(put env i d t)[i]? = θ (θ (d,t)):=by
 unfold put;rw[ξ (by simpa using h)]
theorem uQ (h:j≠i):(put env i d t)[j]? = (env[j]?).map λs=>s.map λp=>(p.1,p.2.drop i):=by
 unfold put;rw[μ (cv h),π]
variable {d':D}
theorem jR {t':Tg}(h:j≠i)(e:(put env i d t)[j]? = θ (θ (d',t'))):∃t0,env[j]? = θ (θ (d',t0))/\t'=t0.drop i:=by
 rw[uQ h] at e;cases q:env[j]? with
 |none=>rw[q] at e;cases e
 |some s=>
  rw[q] at e;cases s with
  |none=>cases e
  |some p=>
   obtain⟨a,b⟩:=p;simp only[bw,da,gm] at e;obtain⟨rfl,rfl⟩:=e;exact⟨b,rfl,rfl⟩
theorem nu (t:Tg)(i:Nat):bK (t.drop i)=bK t:=by cases t<;>rfl
theorem nS {k:Nat}(h:k∈bG j t)(hk:k≠i):k∈bG j (t.drop i):=by
 cases t with
 |own=>exact h
 |lk=>exact h
 |sh R=>
  simp only[bG,Tg.drop,gx] at h ⊢;exact⟨h,by simpa using hk⟩
section
variable {K:Frag}{P:Addr->Prop}{env:En}{σ:L2.St}{H:Hp}{F:Nat->List Addr}
theorem RE.nn (re:RE K P env σ H F)(h:env[j]? = θ (θ (d,t)))(m:a∈F j):H a≠η:=let ⟨_,_,r⟩:=re.val j d t h;r.nn m
theorem RE.at' (re:RE K P env σ H F)(m:a∈F j):∃d t,env[j]? = θ (θ (d,t)):=by
 by_cases h:∃d t,env[j]? = θ (θ (d,t))
 .exact h
 .rw[re.MN j λd t e=>h ⟨d,t,e⟩] at m;cases m
theorem RE.put (re:RE K P env σ H F){i:Nat}{d:D}{v:V}{t:Tg}(hi:i<env.length)(rp:Rep K H d v G)
  (ho:bK t=ζ->G.Nodup/\(∀a∈G,∃vs:ML,H a=θ vs.o)/\∀a∈G,∀j,j≠i->a∉F j) (hw:t=.own->∀a∈G,¬ P a)
  (hs:∀a∈G,∀j d' t',j≠i->env[j]? = θ (θ (d',t'))->bK t'=ζ->a∈F j->j∈bG i t):RE K P (put env i d t) (σ.set i (θ v)) H (oq F i G) where
 len:=by rw[wq,ak];exact re.len
 val:=λj d' t' e=>by
  by_cases h:j=i
  .subst h;rw[eU hi] at e;cases e;exact⟨v,ξ (by rw[<-re.len];exact hi),by rw[eJ];exact rp⟩
  .obtain⟨t0,e0,rfl⟩:=jR h e;obtain⟨u,a,b⟩:=re.val j d' t0 e0;exact⟨u,by rw[μ (cv h)];exact a,by rw[dZ h];exact b⟩
 MN:=λj h=>by
  by_cases hj:j=i
  .subst hj;exact absurd (eU hi) (h d t)
  .rw[dZ hj];refine re.MN j λd' t' e=>h d' (t'.drop i) ?_
   rw[uQ hj,e];rfl
 one:=λj d' t' e o=>by
  by_cases h:j=i
  .subst h;rw[eU hi] at e;cases e;obtain⟨a,b,c⟩:=ho o;rw[eJ];refine⟨a,b,λx hx k d2 t2 e2 m=>?_⟩;by_cases hk:k=j
   .subst hk;rw[eU hi] at e2;cases e2;cases t<;>simp_all [bG,bK]
   .rw[dZ hk] at m;exact absurd m (c x hx k hk)
  .obtain⟨t0,e0,rfl⟩:=jR h e;rw[nu] at o;obtain⟨a,b,c⟩:=re.one j d' t0 e0 o;rw[dZ h];refine⟨a,b,λx hx k d2 t2 e2 m=>?_⟩;by_cases hk:k=i
   .subst hk;rw[eU hi] at e2;cases e2;rw[eJ] at m;exact hs x m j d' t0 h e0 o hx
   .rw[dZ hk] at m;obtain⟨t3,e3,rfl⟩:=jR hk e2;exact nS (c x hx k d2 t3 e3 m) h
 wr:=λj d' e=>by
  by_cases h:j=i
  .subst h;rw[eU hi] at e;cases e;rw[eJ];exact hw rfl
  .obtain⟨t0,e0,q⟩:=jR h e;rw[dZ h];cases t0 with
   |own=>exact re.wr j d' e0
   |lk=>cases q
   |sh R=>cases q
 pl:=re.pl
theorem RE.forget (re:RE K P env σ H F){env':En}(hl:env'.length=env.length)(he:∀(i:Nat) (d:D) (t:Tg),env'[i]? = θ (θ (d,t))->env[i]? = θ (θ (d,t))) :
  RE K P env' σ H (λi=>match env'[i]? with|some (θ _)=>F i|_=>[]) where
 len:=hl.trans re.len
 val:=λi d t e=>by rw[e];exact re.val i d t (he i d t e)
 MN:=λi h=>by
  split
  .rename_i p q;exact absurd q (h p.1 p.2)
  .rfl
 one:=λi d t e o=>by
  rw[e];obtain⟨a,b,c⟩:=re.one i d t (he i d t e) o;refine⟨a,b,λx hx k d2 t2 e2 m=>?_⟩;rw[e2] at m;exact c x hx k d2 t2 (he k d2 t2 e2) m
 wr:=λi d e=>by rw[e];exact re.wr i d (he i d _ e)
 pl:=re.pl
end
theorem cG (R:List Nat)(env:En):(kill R env).length=env.length:=by simp[kill]
theorem bO {R:List Nat}(e:(kill R env)[i]? = θ (θ (d,t))):env[i]? = θ (θ (d,t))/\i∉R/\∀q∈R,q∉bG i t:=by
 unfold kill at e;rw[Τ] at e;cases q:env[i]? with
 |none=>rw[q] at e;cases e
 |some s=>
  rw[q] at e;cases s with
  |none=>cases e
  |some p=>
   obtain⟨a,b⟩:=p;simp only[bw,da] at e;by_cases h:(R.contains i || kO R b)=ζ
   .rw[if_pos h] at e;cases e
   .rw[if_neg h] at e;cases e;rw[g6,not_or] at h;have h1:i∉R:=λz=>h.1 (by simpa using z)
    refine⟨rfl,h1,λr hq z=>?_⟩;cases t with
    |own=>simp only[bG,gu] at z;subst z;exact h1 hq
    |lk=>simp only[bG,gu] at z;subst z;exact h1 hq
    |sh Q=>
     apply h.2;simp only[kO,List.any_eq_true];exact⟨r,z,by simpa using hq⟩
variable {p:Addr}{ws:List V}{x:Nat}
section
variable {K:Frag}{P:Addr->Prop}{env:En}{σ:L2.St}{H:Hp}{F:Nat->List Addr}
variable {o:HO}
theorem l7 (hp:H p=θ (.lst ws))(h:mK K H b vs):mK K (upd H p o) b vs:=by
 rcases h with h|h
 .exact .inl (by rw[aQ];exact h;intro z;subst z;rw[hp] at h;cases h)
 .exact .inr h
theorem uc {ws:ML}(hp:H p=θ ws.o)(h:mK K H b vs):mK K (upd H p o) b vs:=by
 rcases h with h|h
 .exact .inl (by rw[aQ];exact h;intro z;subst z;rw[hp] at h;cases ws<;>cases h)
 .exact .inr h
theorem HU {o':HO}(Mm:b≠p)(h:Rd H b o):Rd (upd H p o') b o:=by
 rcases h with h|⟨u,h⟩
 .exact .inl (by rw[aQ Mm];exact h)
 .exact .inr ⟨u,by rw[aQ Mm];exact h⟩
theorem kE {H:Hp}{ws:ML}(hp:H p=θ ws.o):Io H (L2.upd H p o):=λb ob u h=>by
 rw[aQ λe=>?_]
 .exact h
 .subst e;rw[hp] at h;cases ws<;>cases h
theorem Rep.upd (hp:H p=θ (.lst ws))(h:Rep K H d v G)(hn:p∉G):Rep K (upd H p o) d v G :=
 h.keep (λ_ _=>l7 hp) (kE (ws:=.l _) hp) λb hb _ h=>(aQ (λ(z:b=p)=>hn (z ▸ hb))).trans h
theorem Rep.Pw {ws:ML}(hp:H p=θ ws.o)(h:Rep K H d v G)(hn:p∉G):Rep K (L2.upd H p o) d v G :=
 h.keep (λ_ _=>uc hp) (kE hp) λb hb _ h=>(aQ (λ(z:b=p)=>hn (z ▸ hb))).trans h
theorem aK.upd {d:List D}{v:List V}(hp:H p=θ (.lst ws))(h:aK K H d v G)(hn:p∉G):aK K (upd H p o) d v G :=
 h.keep (λ_ _=>l7 hp) (kE (ws:=.l _) hp) λb hb _ h=>(aQ (λ(z:b=p)=>hn (z ▸ hb))).trans h
noncomputable def kf (F:Nat->List Addr)(env:En)(x:Nat)(R:List Nat)(G:List Addr):Nat->List Addr:=λj=>if j=x then G else match (kill (x::R) env)[j]? with
 |some (θ _)=>F j
 |_=>[]
theorem RE.MT (re:RE K P env σ H F){d':D}{vs:ML}{R:List Nat}{N G:List Addr}(hx:env[x]? = θ (θ (d,.own)))(hv:σ[x]? = θ (θ v))(hp:p∈F x)
  (rp:Rep K (upd H p vs.o) d' v G) (nd:G.Nodup) (sub:∀a∈G,a∈F x\/a∈N)
  (hN:∀a∈N,(∃vs:ML,H a=θ vs.o)/\¬ P a/\∀(j:Nat) (d:D) (t:Tg),env[j]? = θ (θ (d,t))->a∈F j->∃q∈x::R,q∈bG j t) :
  RE K P ((kill (x::R) env).set x (θ (d',.own))) σ (upd H p vs.o) (kf F env x R G):=by
 obtain⟨ndx,PZ,Sk⟩:=re.one x d .own hx rfl;obtain⟨ws,LQ⟩:=PZ p hp;have NS:x<(kill (x::R) env).length:=by
  rw[cG];exact (ο.mp hx).1
 have other:∀{j:Nat}{d2:D}{t2:Tg},j≠x->((kill (x::R) env).set x (θ (d',.own)))[j]? = θ (θ (d2,t2))->(kill (x::R) env)[j]? = θ (θ (d2,t2)):=λ{j d2 t2} hj e=>by
  rw[μ (cv hj)] at e;exact e
 have live:∀a,(∃vs:ML,H a=θ vs.o)->∃ws:ML,upd H p vs.o a=θ ws.o:=λa ⟨ws,h⟩=>by
  by_cases z:a=p
  .subst z;exact⟨vs,bH⟩
  .exact⟨ws,by rw[aQ z];exact h⟩
 have apart:∀{j:Nat}{d2:D}{t2:Tg},j≠x->(kill (x::R) env)[j]? = θ (θ (d2,t2))->∀a∈F x,a∉F j:=λ{j d2 t2} hj e a ha hb=>by
  obtain⟨e0,_,h3⟩:=bO e;exact h3 x ag (Sk a ha j d2 t2 e0 hb)
 have fj:∀{j:Nat}{d2:D}{t2:Tg},j≠x->(kill (x::R) env)[j]? = θ (θ (d2,t2))->kf F env x R G j=F j:=λ{j d2 t2} hj e=>by
  unfold kf;rw[if_neg hj,e]
 have fx:kf F env x R G x=G:=if_pos rfl;refine⟨?_,λj d2 t2 e=>?_,λj h=>?_,λj d2 t2 e o=>?_,λj d2 e=>?_,λa h=>?_⟩
 .rw[ak,cG];exact re.len
 .by_cases hj:j=x
  .subst hj;rw[ξ NS] at e;cases e;exact⟨v,hv,by rw[fx];exact rp⟩
  .have e1:=other hj e;obtain⟨e0,_,_⟩:=bO e1;obtain⟨u,h1,h2⟩:=re.val j d2 t2 e0;exact⟨u,h1,by rw[fj hj e1];exact h2.Pw LQ (apart hj e1 p hp)⟩
 .by_cases hj:j=x
  .subst hj;exact absurd (ξ NS) (h d' .own)
  .unfold kf;rw[if_neg hj];split
   .rename_i q e;exact absurd (by rw[μ (cv hj)];exact e) (h q.1 q.2)
   .rfl
 .by_cases hj:j=x
  .subst hj;rw[ξ NS] at e;cases e;rw[fx];refine⟨nd,λa ha=>live a ?_,λa ha k d3 t3 e3 m=>?_⟩
   .rcases sub a ha with q|q
    .exact PZ a q
    .exact (hN a q).1
   .by_cases hk:k=j
    .subst hk;rw[ξ NS] at e3;cases e3;simp[bG]
    .have e4:=other hk e3;rw[fj hk e4] at m;rcases sub a ha with q|q
     .exact absurd m (apart hk e4 a q)
     .obtain⟨e0,_,h3⟩:=bO e4;obtain⟨r,r1,r2⟩:=(hN a q).2.2 k d3 t3 e0 m;exact absurd r2 (h3 r r1)
  .have e1:=other hj e;obtain⟨e0,_,_⟩:=bO e1;obtain⟨a,b,c⟩:=re.one j d2 t2 e0 o;rw[fj hj e1];refine⟨a,λy hy=>live y (b y hy),λy hy k d3 t3 e3 m=>?_⟩;by_cases hk:k=x
   .subst hk;rw[ξ NS] at e3;cases e3;rw[fx] at m;rcases sub y m with q|q
    .exact absurd hy (apart hj e1 y q)
    .obtain⟨_,_,h3⟩:=bO e1;obtain⟨r,r1,r2⟩:=(hN y q).2.2 j d2 t2 e0 hy;exact absurd r2 (h3 r r1)
   .have e4:=other hk e3;rw[fj hk e4] at m;exact c y hy k d3 t3 (bO e4).1 m
 .by_cases hj:j=x
  .subst hj;rw[fx];intro a ha;rcases sub a ha with q|q
   .exact re.wr j d hx a q
   .exact (hN a q).2.1
  .have e1:=other hj e;rw[fj hj e1];exact re.wr j d2 (bO e1).1
 .intro z;by_cases q:a=p
  .subst q;rw[bH] at z;cases z
  .rw[aQ q] at z;exact re.pl a h z
theorem RE.OM (re:RE K P env σ H F){R:List Nat}{N:List Addr}(hx:env[x]? = θ (θ (d,.own)))(hv:σ[x]? = θ (θ v))(hp:p∈F x)
  (rp:Rep K (upd H p (.lst vs)) d' v G) (nd:G.Nodup) (sub:∀a∈G,a∈F x\/a∈N)
  (hN:∀a∈N,(∃vs:ML,H a=θ vs.o)/\¬ P a/\∀(j:Nat) (d:D) (t:Tg),env[j]? = θ (θ (d,t))->a∈F j->∃q∈x::R,q∈bG j t) :
  RE K P ((kill (x::R) env).set x (θ (d',.own))) σ (upd H p (.lst vs)) (kf F env x R G):=re.MT (vs:=.l vs) hx hv hp rp nd sub hN
inductive PV (K:Frag) (H:Hp):V->Option Int->Addr->Prop where
 |top (p:Addr):PV K H (.ref p) η p
 |item {q p:Addr}{ws:List V}{i:Int}{j:Nat}(h:Rd H q (.lst ws)\/rb K H q ws) (hj:kQ ws.length i=θ j) (e:ws[j]? = θ (.ref p)):PV K H (.ref q) (θ i) p
theorem Gc {n:Nat}{i:Int}(h:kQ n i=θ j):j<n:=by
 unfold kQ at h;split at h
 .split at h
  .cases h;omega
  .cases h
 .split at h
  .cases h;omega
  .cases h
theorem Rep.lst_inv (h:Rep K H (.lst ds) v G):∃p vs G',v=.ref p/\G=p::G'/\Rd H p (.lst vs)/\aK K H ds vs G':=by
 cases h with
 |lst a b=>exact⟨_,_,_,rfl,rfl,a,b⟩
theorem zl {path:Option Int}{xs:List D}(rp:Rep K H d v G)(nd:G.Nodup)(h:d.LL path=θ xs):∃p,PV K H v path p/\∀H',aN H H'->(∀a∈G,∃vs:ML,H' a=θ vs.o) ->
  ∃vs Gx,H' p=θ (.lst vs)/\aK K H' xs vs Gx/\p∈G/\(∀a∈Gx,a∈G)/\Gx.Nodup/\p∉Gx /\
   ∀ys us Gy,aK K (upd H' p (.lst us)) ys us Gy->Gy.Nodup->p∉Gy->(∀a∈Gy,a∈Gx\/a∉G)->∃G',Rep K (upd H' p (.lst us)) (d.LO path ys) v G'/\G'.Nodup/\∀a∈G',a∈G\/a∈Gy:=by
 have V9:∀{H':Hp}{p:Addr}{vs:List V},(∀a∈G,∃vs:ML,H' a=θ vs.o)->p∈G->Rd H' p (.lst vs)->H' p=θ (.lst vs):=λ{H' p vs} hl hp r=>by
  obtain⟨ws,q⟩:=hl p hp;rcases r with r|⟨o,r⟩
  .exact r
  .rw[q] at r;cases ws<;>cases r
 cases path with
 |none=>
  cases rp with
  |lst hr r=>
   rename_i p vs ds G0;simp only[D.LL,da] at h;subst h;obtain⟨n1,n2⟩:=jy.mp nd;refine⟨p,.top p,λH' e hl=>⟨vs,G0,V9 hl ag (aN.rd e hr),r.same e,ag,λa ha=>aa _ ha,n2,n1,λys us Gy ry ny hy hs=>?_⟩⟩;exact⟨p::Gy,.lst (.inl bH) ry,jy.mpr ⟨hy,ny⟩,λa ha=>(fe.mp ha).imp (λz=>by simp[z]) id⟩
  |_=>simp[D.LL] at h
 |some i=>
  have core:∀{ds:List D}{vs:List V}{G0:List Addr}{j:Nat}{q:Addr},aK K H ds vs G0->(∀a∈G0,a∈G)->G0.Nodup->(Rd H q (.lst vs)\/rb K H q vs)->v=.ref q->kQ ds.length i=θ j->ds[j]? = θ (.lst xs) ->
    ∃p,PV K H v (θ i) p/\∀H',aN H H'->(∀a∈G,∃vs:ML,H' a=θ vs.o)->∃ws Gx,H' p=θ (.lst ws)/\aK K H' xs ws Gx/\p∈G0/\(∀a∈Gx,a∈G0)/\Gx.Nodup/\p∉Gx /\
     ∀ys us Gy,aK K (upd H' p (.lst us)) ys us Gy->Gy.Nodup->p∉Gy->(∀a∈Gy,a∈Gx\/a∉G) ->
      ∃G1,aK K (upd H' p (.lst us)) (ds.set j (.lst ys)) vs G1/\G1.Nodup/\(∀a∈G1,a∈G0\/a∈Gy):=by
   intro ds vs G0 j q r hs n0 hq hv hj he;obtain⟨w0,g0,e0,r0,_⟩:=r.get he;have hlen:=r.len;obtain⟨p,ws0,Gx0,rfl,_,_,_⟩:=r0.lst_inv
   .refine⟨p,by rw[hv];exact .item hq (by rw[<-hlen];exact hj) e0,λH' e hl=>?_⟩;obtain⟨w,A,B,C,e1,e2,r1,f⟩:=(r.same e).split he;rw[e0] at e1;cases e1;subst e2;obtain⟨p',ws,Gx,ep,rfl,hr,r2⟩:=r1.lst_inv;cases ep
    .have Qd:p∈A++(p::Gx++C):=by simp
     rw[fi] at n0;obtain⟨nA,nB,PU⟩:=n0;rw[fi] at nB;obtain⟨nB1,nC,Wj⟩:=nB;obtain⟨np,nx⟩:=jy.mp nB1;have LQ:=V9 hl (hs p Qd) hr;refine⟨ws,Gx,LQ,r2,Qd,λa ha=>by simp[ha],nx,np,λys us Gy ry ny hy Wu=>?_⟩;have hA:p∉A:=λz=>PU p z p (by simp) rfl
     have hC:p∉C:=λz=>Wj p (by simp) p z rfl
     have e3:=f (upd H' p (.lst us)) (.lst ys) (.ref p) (p::Gy) (λ_ _=>l7 LQ) (kE (ws:=.l _) LQ) (λb hb _ h=>(aQ λ(z:b=p)=>by
      subst z;rcases il.mp hb with hb|hb
      .exact hA hb
      .exact hC hb).trans h) (.lst (.inl bH) ry)
     have bL:vs.set j (.ref p)=vs:=by
      obtain⟨M4,ej⟩:=ο.mp e0;rw[<-ej,List.set_getElem_self]
     rw[bL] at e3;refine⟨_,e3,?_,λa ha=>?_⟩
     .rw[fi];refine⟨nA,?_,λa ha b hb z=>?_⟩
      .rw[fi];refine⟨jy.mpr ⟨hy,ny⟩,nC,λa ha b hb z=>?_⟩;subst z;rcases fe.mp ha with rfl|ha
       .exact hC hb
       .rcases Wu a ha with q|q
        .exact Wj a (by simp[q]) a hb rfl
        .exact q (hs a (by simp[hb]))
      .subst z;rcases il.mp hb with hb|hb
       .rcases fe.mp hb with rfl|hb
        .exact hA ha
        .rcases Wu a hb with q|q
         .exact PU a ha a (by simp[q]) rfl
         .exact q (hs a (by simp[ha]))
       .exact PU a ha a (by simp[hb]) rfl
     .simp only[il,fe,List.cons_append] at ha ⊢;rcases ha with ha|ha|ha|ha
      .exact .inl (.inl ha)
      .exact .inl (.inr (.inl ha))
      .exact .inr ha
      .exact .inl (.inr (.inr (.inr ha)))
  cases rp with
  |lst hr r=>
   rename_i q vs ds G0;simp only[D.LL,ah] at h;obtain⟨j,hj,h⟩:=h;have he:ds[j]? = θ (.lst xs):=by
    split at h
    .rename_i ys e;cases h;exact e
    .cases h
   obtain⟨n1,n2⟩:=jy.mp nd;obtain⟨p,a1,ff⟩:=core r (λa ha=>aa _ ha) n2 (.inl hr) rfl hj he;refine⟨p,a1,λH' e hl=>?_⟩;obtain⟨ws,Gx,a2,a3,a4,a5,a6,a7,f⟩:=ff H' e hl;have hqp:q≠p:=λz=>n1 (by rw[z];exact a4)
   refine⟨ws,Gx,a2,a3,aa _ a4,λa ha=>aa _ (a5 a ha),a6,a7,λys us Gy ry ny hy hs=>?_⟩;obtain⟨G1,b1,b2,b3⟩:=f ys us Gy ry ny hy hs;have es:D.LO (.lst ds) (θ i) ys=.lst (ds.set j (.lst ys)):=by simp[D.LO,hj]
   rw[es];refine⟨q::G1,.lst (HU hqp (aN.rd e hr)) b1,jy.mpr ⟨λz=>?_,b2⟩,λa ha=>?_⟩
   .rcases b3 q z with z|z
    .exact n1 z
    .rcases hs q z with z|z
     .exact n1 (a5 q z)
     .exact z ag
   .rcases fe.mp ha with rfl|ha
    .exact .inl ag
    .exact (b3 a ha).imp (aa _) id
  |tup hr r=>
   rename_i q vs ds;simp only[D.LL,ah] at h;obtain⟨j,hj,h⟩:=h;have he:ds[j]? = θ (.lst xs):=by
    split at h
    .rename_i ys e;cases h;exact e
    .cases h
   obtain⟨p,a1,ff⟩:=core r (λa ha=>ha) nd (.inr hr.sq) rfl hj he;refine⟨p,a1,λH' e hl=>?_⟩;obtain⟨ws,Gx,a2,a3,a4,a5,a6,a7,f⟩:=ff H' e hl;refine⟨ws,Gx,a2,a3,a4,a5,a6,a7,λys us Gy ry ny hy hs=>?_⟩;obtain⟨G1,b1,b2,b3⟩:=f ys us Gy ry ny hy hs;have es:D.LO (.tup ds) (θ i) ys=.tup (ds.set j (.lst ys)):=by simp[D.LO,hj]
   rw[es];exact⟨G1,.tup (l7 a2 (aN.OC e hr)) b1,b2,b3⟩
  |_=>simp[D.LL] at h
end
end Pc
end
section
namespace Pc
open PySem PySem.Spec PyProof.Rows L2
theorem Rs.Le {α β:Type}{x:Rs α}{f:α->Rs β}{b:β}(h:x.bind f=.ok b):∃a,x=.ok a/\f a=.ok b:=by
 cases x with
 |ok a=>exact⟨a,rfl,h⟩
 |exc e=>cases h
 |bad=>cases h
theorem dF {α:Type}{o:Option α}{a:α}(h:gQ o=.ok a):o=θ a:=by
 cases o with
 |none=>cases h
 |some b=>cases h;rfl
variable {H:Hp}{p:Addr}
theorem aN.new {o:HO}(h:H p=η):aN H (upd H p o):=λb u e=>by
 rw[aQ];exact e;intro z;subst z;rw[h] at e;cases e
theorem sC:lim<=sizeLine:=by decide
theorem pW {n:Nat}(h:n<=lim):n<=sizeLine:=cu h sC
inductive Args (K:Frag) (env:En) (F:Nat->List Addr):Hp->Hp->List (D×Rt)->List V->List Addr->Prop where
 |nil {H H':Hp}(e:aN H H'):Args K env F H H' [] [] []
 |cons {H H1 H':Hp}{p:D×Rt}{v:V}{G G':List Addr}{l:List (D×Rt)}{vs:List V}(e:aN H H1) (r:Rep K H1 p.1 v G) (t:cA env F H p.2 H1 G) (s:Args K env F H1 H' l vs G'):Args K env F H H' (p::l) (v::vs) (G++G')
variable {G:List Addr}{H':Hp}{l:List (D×Rt)}{q:D×Rt}{vs:List V}
section
variable {K:Frag}{env:En}{F:Nat->List Addr}
theorem Args.same:∀{H H':Hp}{l:List (D×Rt)}{vs:List V}{G:List Addr},Args K env F H H' l vs G->aN H H'
 |_,_,_,_,_,.nil e=>e
 |_,_,_,_,_,.cons e _ _ s=>e.trans s.same
theorem Args.Ls:∀{H H':Hp}{l:List (D×Rt)}{vs:List V}{G:List Addr},Args K env F H H' l vs G->aK K H' (l.map (·.1)) vs G
 |_,_,_,_,_,.nil _=>.nil
 |_,_,_,_,_,.cons _ r _ s=>.cons (r.same s.same) s.Ls
theorem Args.cont:∀{H H':Hp}{l:List (D×Rt)}{vs:List V}{G:List Addr},Args K env F H H' l vs G->∀a∈G,H a=η\/∃i d t,a∈F i/\env[i]? = θ (θ (d,t))/\∀q∈bG i t,q∈bF (l.map (·.2))
 |_,_,_,_,_,.nil _,a,h=>by cases h
 |_,_,_,_,_,.cons (p:=p) (l:=l) e r t s,a,h=>by
  have e1:bF ((p::l).map (·.2))=p.2.roots++bF (l.map (·.2)):=by simp[bF]
  rw[e1];rcases il.mp h with h|h
  .exact (t.cont a h).imp id λ⟨i,d,t,x,y,z⟩=>⟨i,d,t,x,y,λq hq=>a9 _ (z q hq)⟩
  .exact (s.cont a h).imp (aN.no e) λ⟨i,d,t,x,y,z⟩=>⟨i,d,t,x,y,λq hq=>aq _ (z q hq)⟩
theorem Args.two {p:D×Rt}{x y:V}(ar:Args K env F H H' [p,q] [x,y] G) :
  ∃H1 G1 G2,G=G1++G2/\aN H H1/\Rep K H1 p.1 x G1/\cA env F H p.2 H1 G1/\aN H1 H'/\Rep K H' q.1 y G2:=by
 cases ar with
 |cons e r t s=>
  cases s with
  |cons e' r' t' s'=>
   cases s' with
   |nil W8=>exact⟨_,_,_,by rw[bc],e,r,t,e'.trans W8,r'.same W8⟩
theorem Args.mv {P:Addr->Prop}{σ:L2.St}:∀{H H':Hp}{l:List (D×Rt)}{vs:List V}{G:List Addr}{R:List Nat},RE K P env σ H F->Args K env F H H' l vs G->eW (l.map (·.2))=θ R->R.Nodup ->
  G.Nodup/\(∀a∈G,∃vs:ML,H' a=θ vs.o)/\∀a∈G,H a=η\/∃i d t,i∈R/\a∈F i/\env[i]? = θ (θ (d,t))/\bK t=ζ
 |_,_,_,_,_,_,_,.nil _,_,_=>⟨bj,λ_ h=>(nomatch h),λ_ h=>(nomatch h)⟩
 |H,_,_,_,_,_,re,.cons (p:=p) (l:=l) (G:=G) (G':=G') e r t s,hm,nd=>by
  obtain⟨d,rt⟩:=p;cases rt with
  |sh Q=>simp[eW] at hm
  |mv R1=>
   simp only[av,eW,ae] at hm;obtain⟨R2,h2,rfl⟩:=hm;obtain⟨n1,n2,Sx⟩:=fi.mp nd;obtain⟨a1,b1,c1⟩:=t.mv R1 rfl;obtain⟨a2,b2,c2⟩:=Args.mv (re.same e) s h2 n2;refine⟨fi.mpr ⟨a1,a2,λx hx y hy z=>?_⟩,λx hx=>?_,λx hx=>?_⟩
   .subst z;rcases c2 x hy with q|⟨i2,d2,t2,m2,f2,e2,o2⟩
    .exact r.nn hx q
    .rcases c1 x hx with q|⟨i1,d1,t1,m1,f1,e1,o1⟩
     .obtain⟨v,_,rp⟩:=re.val i2 d2 t2 e2;exact rp.nn f2 q
     .have q:=(re.one i1 d1 t1 e1 o1).2.2 x f1 i2 d2 t2 e2 f2;have q':i1=i2:=by cases t2<;>simp_all [bG,bK]
      exact Sx i1 m1 i2 m2 q'
   .rcases il.mp hx with hx|hx
    .obtain⟨vs,q⟩:=b1 x hx;exact⟨vs,s.same _ _ q⟩
    .exact b2 x hx
   .rcases il.mp hx with hx|hx
    .exact (c1 x hx).imp id λ⟨i,d,t,m,z⟩=>⟨i,d,t,a9 _ m,z⟩
    .exact (c2 x hx).imp (aN.no e) λ⟨i,d,t,m,z⟩=>⟨i,d,t,aq _ m,z⟩
theorem Args.comb {P:Addr->Prop}{σ:L2.St}(re:RE K P env σ H F)(ar:Args K env F H H' l vs G):cA env F H (oU (l.map (·.2))) H' G:=by
 unfold oU;cases hm:eW (l.map (·.2)) with
 |none=>exact⟨ar.cont,λR e=>by cases e⟩
 |some R=>
  have er:∀(l:List Rt) (R:List Nat),eW l=θ R->bF l=R:=by
   intro l
   induction l with
   |nil=>intro R h;simp[eW] at h;subst h;rfl
   |cons x r ih=>
    intro R h;cases x with
    |sh Q=>simp[eW] at h
    |mv Q=>
     simp only[eW,ae] at h;obtain⟨R2,h2,rfl⟩:=h;have:=ih R2 h2;simp only[bF,av,dz,Rt.roots] at this ⊢;rw[this]
  have er:=er _ R hm;by_cases nd:R.Nodup
  .simp only[nd,if_true];obtain⟨a,b,c⟩:=ar.mv re hm nd;refine⟨λx hx=>?_,λR' e=>by cases e;exact⟨a,b,c⟩⟩;rcases c x hx with q|⟨i,d,t,m,f,e,o⟩
   .exact .inl q
   .exact .inr ⟨i,d,t,f,e,λq hq=>by cases t<;>simp_all [bG,bK,Rt.roots]⟩
  .simp only[nd,if_false];exact⟨λx hx=>by have:=ar.cont x hx;rw[er] at this;exact this,λR' e=>by cases e⟩
end
structure kT (H H':Hp)(G0:List Addr)(d:D)(G:List Addr):Prop where
 same:aN H H'
 sub:∀a∈G,H a=η\/a∈G0
 new:d.inner=ζ->G.Nodup/\∀a∈G,H a=η/\∃vs:ML,H' a=θ vs.o
section
variable {K:Frag}{H:Hp}{G0:List Addr}
theorem kT.nil {d:D}:kT H H G0 d []:=⟨aN.refl _,λ_ h=>(nomatch h),λ_=>⟨bj,λ_ h=>(nomatch h)⟩⟩
theorem k9 {ds:List D}(r:aK K H ds vs G)(hs:∀a∈G,a∈G0)(hp:H p=η) :
  Rep K (upd H p (.lst vs)) (.lst ds) (.ref p) (p::G)/\kT H (upd H p (.lst vs)) G0 (.lst ds) (p::G):=by
 have e:=aN.new (o:=.lst vs) hp;refine⟨.lst (.inl bH) (r.same e),e,λa ha=>?_,λf=>?_⟩
 .rcases fe.mp ha with rfl|ha
  .exact .inl hp
  .exact .inr (hs a ha)
 .have:G=[]:=r.flat f;subst this;exact⟨by simp,λa ha=>by
   have:a=p:=by simpa using ha
   subst this;exact⟨hp,.l _,bH⟩⟩
theorem cA.new {env:En}{F:Nat->List Addr}{H1:Hp}{d:D}{R:List Nat}(ar:Args K env F H H1 l vs G0)(nv:kT H1 H' G0 d G)(hR:∀q∈bF (l.map (·.2)),q∈R):cA env F H (jC d R) H' G:=by
 unfold jC;cases hi:d.inner with
 |true=>
  obtain⟨a,b⟩:=nv.new hi;have c:∀x∈G,H x=η:=λx hx=>aN.no ar.same (b x hx).1
  exact⟨λx hx=>.inl (c x hx),λR' e=>⟨a,λx hx=>(b x hx).2,λx hx=>.inl (c x hx)⟩⟩
 |false=>
  refine⟨λx hx=>?_,λR' e=>by cases e⟩;rcases nv.sub x hx with q|q
  .exact .inl (aN.no ar.same q)
  .exact (ar.cont x q).imp id λ⟨i,d,t,f,e,z⟩=>⟨i,d,t,f,e,λq hq=>hR q (z q hq)⟩
end
variable {e:Expr}{t t':TS}
section
variable {X:Cx}
theorem bX {t t':TE}(h:PE X e t)(k:∀σ H Q,t' σ H Q->t σ H Q):PE X e t':=λpins s σ H Q I q=>h pins s σ H Q I (k σ H Q q)
theorem wm {t t':TT}(h:PT X e t)(k:∀σ H Q,t' σ H Q->t σ H Q):PT X e t':=λpins s σ H Q I q=>h pins s σ H Q I (k σ H Q q)
theorem AB {e:List Expr}{t t':TA}(h:PA X e t)(k:∀σ H Q,t' σ H Q->t σ H Q):PA X e t':=λpos pins s σ H Q I q=>h pos pins s σ H Q I (k σ H Q q)
theorem cV {e:Stmt}(h:PS X e t)(k:∀D σ H,t' D σ H->t D σ H):PS X e t':=λpins s σ H D I q=>h pins s σ H D I (k D σ H q)
theorem n6 {e:List Stmt}(h:lK X e t)(k:∀D σ H,t' D σ H->t D σ H):lK X e t':=λpins s σ H D I q=>h pins s σ H D I (k D σ H q)
end
def tE (K:Frag)(T:Tb)(c:Ex):TE:=λσ H Q=>∃P env F,RE K P env σ H F/\∃p,ev T c env=.ok p/\∀v H' G,aN H H'->Rep K H' p.1 v G->cA env F H p.2 H' G->Q v H'
def qL (K:Frag)(T:Tb)(cs:nV):TA:=λσ H Q=>∃P env F,RE K P env σ H F/\∃l,bL T cs env=.ok l/\∀vs H' G,Args K env F H H' l vs G->Q vs H'
def pX (K:Frag)(T:Tb)(c:Ex):TT:=λσ H Q=>∃P env F,RE K P env σ H F/\∃p b,ev T c env=.ok p/\truth p.1=θ b/\∀H',aN H H'->Q b H'
section
variable {K:Frag}{T:Tb}{P:Addr->Prop}{env:En}{F:Nat->List Addr}{σ:L2.St}{H:Hp}
theorem two {ca cb:Ex}{r:R2}{Q:VK}{p:D×Rt}(re:RE K P env σ H F)(h1:ev T ca env=.ok p)(h2:ev T cb env=.ok q)(k:∀x y H2 G,Args K env F H H2 [p,q] [x,y] G->r x y H2 Q):Jh r (tE K T ca) (tE K T cb) σ H Q :=
 ⟨P,env,F,re,p,h1,λv1 H1 G1 s1 RX RU=>⟨P,env,F,re.same s1,q,h2,λv2 H2 G2 s2 NZ rt2=>k v1 v2 H2 _ (.cons s1 RX RU (.cons s2 NZ rt2 (.nil (aN.refl _))))⟩⟩
end
noncomputable def D4 (K:Frag)(f:D->D->Option D):R2:=λx y H Q=>∃d1 d2 d G,aK K H [d1,d2] [x,y] G/\f d1 d2=θ d/\∀v H' G',Rep K H' d v G'->kT H H' G d G'->Q v H'
noncomputable def Jv (K:Frag):R2:=λx y H Q=>∃d1 d2 d G,aK K H [d1,d2] [x,y] G/\EN d1 d2=θ d/\∀v G',Rep K H d v G'->G'.Sublist G->Q v H
section
variable {X:Cx}{T:Tb}{a b c:Expr}{ca cb cc:Ex}{pos:GE}
theorem Ho {op:li}(ho:mI X (wP op) (D4 X.K (mR op)))(ha:PE X a (tE X.K T ca))(hb:PE X b (tE X.K T cb)):PE X (.BinOp a op b pos) (tE X.K T (.bin op ca cb)):=by
 refine bX (Kb ho ha hb) λσ H Q ⟨P,env,F,re,p0,Lf,k⟩=>?_
 unfold ev at Lf;obtain⟨p,h1,Lf⟩:=Rs.Le Lf;obtain⟨q,h2,Lf⟩:=Rs.Le Lf;obtain⟨d,h3,Lf⟩:=Rs.Le Lf;have h3:=dF h3;cases Lf;refine two re h1 h2 λx y H2 G ar=>⟨p.1,q.1,d,G,ar.Ls,h3,λv H' G' rp nv=>k v H' G' (ar.same.trans nv.same) rp (cA.new ar nv λz hz=>by simpa[bF] using hz)⟩
theorem Gj {op:XU}(ho:mI X (kt op) (D4 X.K λx y=>(mE op x y).map .bl))(ha:PE X a (tE X.K T ca))(hb:PE X b (tE X.K T cb))(hm:xz op b=ε):PE X (.Compare a [op] [b] pos) (tE X.K T (.cmp op ca cb)):=by
 refine bX (Dy ho ha hb hm) λσ H Q ⟨P,env,F,re,p0,Lf,k⟩=>?_
 unfold ev at Lf;obtain⟨p,h1,Lf⟩:=Rs.Le Lf;obtain⟨q,h2,Lf⟩:=Rs.Le Lf;obtain⟨d,h3,Lf⟩:=Rs.Le Lf;have h3:=dF h3;cases Lf;refine two re h1 h2 λx y H2 G ar=>⟨p.1,q.1,.bl d,G,ar.Ls,by simp[h3],λv H' G' rp nv=>k v H' G' (ar.same.trans nv.same) rp ?_⟩
 have:G'=[]:=rp.flat rfl;subst this;exact cA.nil
theorem JE (ho:DT X (Jv X.K))(ha:PE X a (tE X.K T ca))(hb:PE X b (tE X.K T cb))(hs:oj b):PE X (.Subscript a b pos) (tE X.K T (.ix ca cb)):=by
 refine bX (Fd ho ha hb hs) λσ H Q ⟨P,env,F,re,p0,Lf,k⟩=>?_
 unfold ev at Lf;obtain⟨p,h1,Lf⟩:=Rs.Le Lf;obtain⟨q,h2,Lf⟩:=Rs.Le Lf;obtain⟨d,h3,Lf⟩:=Rs.Le Lf;have h3:=dF h3;cases Lf;refine two re h1 h2 λx y H2 G ar=>⟨p.1,q.1,d,G,ar.Ls,h3,λv G' rp sl=>k v H2 G' ar.same rp ?_⟩
 unfold vJ;cases hf:d.flat with
 |true=>
  have:G'=[]:=rp.flat hf;subst this;exact cA.nil
 |false=>
  obtain⟨H1,g1,g2,e1,s1,_,RU,s2,NZ⟩:=ar.two;have hq:q.1.flat=ζ:=by
   revert h3;intro h3;cases hq:q.1 with
   |int _=>rfl
   |str _=>rfl
   |_=>rw[hq] at h3;revert h3;cases p.1<;>exact λh3=>nomatch h3
  have NZ:=NZ.flat hq;have RX:=RU.later s2;subst NZ;rw[bc] at e1;subst e1;refine⟨λz hz=>?_,λR e=>by cases e⟩;exact RX.cont z (sl.subset hz)
end
end Pc
end
section
namespace Pc
open PySem L2
structure jV (P:Addr->Prop)(H H':Hp):Prop where
 keep:∀a,P a->H' a=H a
 tup:∀b xs,H b=θ (.tup xs)->H' b=θ (.tup xs)
 fz:Io H H'
theorem jV.refl {P:Addr->Prop}(H:Hp):jV P H H:=⟨λ_ _=>rfl,λ_ _ h=>h,λ_ _ _ h=>h⟩
variable {H H1 H2:Hp}
theorem jV.trans {P:Addr->Prop}(a:jV P H H1)(b:jV P H1 H2):jV P H H2:=⟨λx h=>(b.keep x h).trans (a.keep x h),λx xs h=>b.tup x xs (a.tup x xs h),λx o u h=>b.fz x o u (a.fz x o u h)⟩
variable {H':Hp}
theorem jV.of_same {P:Addr->Prop}(pl:∀a,P a->H a≠η)(e:aN H H'):jV P H H':=⟨λa h=>by
 cases q:H a with
 |none=>exact absurd q (pl a h)
 |some o=>exact e _ _ q,λ_ _=>e _ _,λ_ _ _ h=>e _ _ h⟩
theorem jV.weak {P P':Addr->Prop}(h:∀a,P a->P' a)(e:jV P' H H'):jV P H H':=⟨λa x=>e.keep a (h a x),e.tup,e.fz⟩
variable {K:Frag}{vs:List V}
theorem jV.OC {P:Addr->Prop}(e:jV P H H'){b:Addr}(h:mK K H b vs):mK K H' b vs:=by
 rcases h with h|h
 .exact .inl (e.tup b vs h)
 .exact .inr h
variable {G:List Addr}
theorem jV.Ls {P:Addr->Prop}(e:jV P H H'){ds:List D}(h:aK K H ds vs G)(hp:∀a∈G,P a):aK K H' ds vs G :=
 h.keep (λ_ _=>e.OC) e.fz λb hb _ r=>(e.keep b (hp b hb)).trans r
def uR (env:En)(F:Nat->List Addr)(env':En)(F':Nat->List Addr):Prop:=∀(i:Nat) (d:D),env'[i]? = θ (θ (d,.lk))->env[i]? = θ (θ (d,.lk))/\F' i=F i
theorem uR.refl (env:En)(F:Nat->List Addr):uR env F env F:=λ_ _ h=>⟨h,rfl⟩
variable {F1 F2 F3:Nat->List Addr}{e1 e2 e3:En}
theorem uR.trans (a:uR e1 F1 e2 F2)(b:uR e2 F2 e3 F3):uR e1 F1 e3 F3:=λi d h=>by
 obtain⟨h1,h2⟩:=b i d h;obtain⟨h3,h4⟩:=a i d h1;exact⟨h3,h2.trans h4⟩
structure After (K:Frag)(P Z:Addr->Prop)(env:En)(F:Nat->List Addr)(H:Hp)(env':En)(σ':L2.St)(H':Hp)(F':Nat->List Addr):Prop where
 re:RE K P env' σ' H' F'
 z:∀i,∀a∈F' i,Z a
 ev:jV P H H'
 lk:uR env F env' F'
theorem After.trans {P Z:Addr->Prop}{H3:Hp}{σ2 σ3:L2.St}(a:After K P Z e1 F1 H1 e2 σ2 H2 F2)(b:After K P Z e2 F2 H2 e3 σ3 H3 F3):After K P Z e1 F1 H1 e3 σ3 H3 F3 :=
 ⟨b.re,b.z,a.ev.trans b.ev,a.lk.trans b.lk⟩
noncomputable def post (K:Frag)(P Z:Addr->Prop)(env:En)(F:Nat->List Addr)(H:Hp)(D:Ends):Fl->Prop
 |.nx env'=>∀σ' H' F',After K P Z env F H env' σ' H' F'->D.nx σ' H'
 |.bk env'=>∀σ' H' F',After K P Z env F H env' σ' H' F'->D.bk σ' H'
 |.ct env'=>∀σ' H' F',After K P Z env F H env' σ' H' F'->D.ct σ' H'
 |.rt d fr=>∀v H' G,Rep K H' d v G->jV P H H'->(∀a∈G,Z a)->(fr=ζ->G.Nodup/\∀a∈G,¬ P a/\∃vs:ML,H' a=θ vs.o)->D.rt v H'
 |.xc _ _=>False
 |.bad=>False
theorem post.trans {P Z:Addr->Prop}{σ2:L2.St}{D:Ends}(a:After K P Z e1 F1 H1 e2 σ2 H2 F2):∀{f:Fl},post K P Z e1 F1 H1 D f->post K P Z e2 F2 H2 D f
 |.nx _,h=>λσ' H' F' b=>h σ' H' F' (a.trans b)
 |.bk _,h=>λσ' H' F' b=>h σ' H' F' (a.trans b)
 |.ct _,h=>λσ' H' F' b=>h σ' H' F' (a.trans b)
 |.rt _ _,h=>λv H' G r e z f=>h v H' G r (a.ev.trans e) z f
 |.xc _ _,h=>h
 |.bad,h=>h
variable {R:List Nat}{d:D}{env0:En}{i:Nat}{t:Tg}{v:V}
section
variable {K:Frag}{P Z:Addr->Prop}{env:En}{σ:L2.St}{H:Hp}{F:Nat->List Addr}
theorem oJ (hi:i<env.length)(ht:t≠.lk):uR env F (put env i d t) (oq F i G):=λj d' e=>by
 by_cases h:j=i
 .subst h;rw[eU hi] at e;cases e;exact absurd rfl ht
 .obtain⟨t0,e0,q⟩:=jR h e;cases t0 with
  |lk=>exact⟨e0,dZ h⟩
  |own=>cases q
  |sh R=>cases q
theorem mo (hz:∀i,∀a∈F i,Z a)(hg:∀a∈G,Z a):∀j,∀a∈oq F i G j,Z a:=λj a ha=>by
 by_cases h:j=i
 .subst h;rw[eJ] at ha;exact hg a ha
 .rw[dZ h] at ha;exact hz j a ha
theorem vQ {D:Ends}{mv:Bool}{p:Pc.D×Rt}(re:RE K P env σ H F)(hz:∀i,∀a∈F i,Z a)(zp:∀a,¬ P a->Z a)(e:aN H H')(rp:Rep K H' p.1 v G)(rt:cA env F H p.2 H' G)
  (h:post K P Z env F H D (mW (.nm i) mv env p)):D.nx (σ.set i (θ v)) H':=by
 have N0:=re.same e;have ez:∀a∈G,Z a:=λa ha=>by
  rcases rt.cont a ha with q|⟨j,_,_,f,_⟩
  .exact zp a λz=>re.pl a z q
  .exact hz j a f
 have jW:=jV.of_same (P:=P) re.pl e;unfold mW at h;by_cases hi:i<env.length
 .simp only[hi,if_true] at h;have shared:∀R,p.2.roots=R->post K P Z env F H D (.nx (put env i p.1 (.sh (R.filter (· != i)))))->D.nx (σ.set i (θ v)) H':=λR hR h=>by
   refine h _ H' (oq F i G) ⟨N0.put hi rp (λo=>by cases o) (λo=>by cases o) λa ha j d' t' hj ej o m=>?_,mo hz ez,jW,oJ hi (by intro z;cases z)⟩;rcases rt.cont a ha with q|⟨k,d2,t2,f,e2,s⟩
   .exact absurd q (re.nn ej m)
   .have:=s j ((re.one j d' t' ej o).2.2 a m k d2 t2 e2 f);rw[hR] at this;simp only[bG,gx];exact⟨this,by simpa using hj⟩
  cases hr:p.2 with
  |sh R=>rw[hr] at h;exact shared R (by rw[hr];rfl) h
  |mv R=>
   rw[hr] at h;obtain⟨m1,m2,m3⟩:=rt.mv R hr;cases R with
   |nil=>
    have fresh:∀a∈G,H a=η:=λa ha=>by
     rcases m3 a ha with q|⟨_,_,_,q,_⟩
     .exact q
     .cases q
    refine h _ H' (oq F i G) ⟨N0.put hi rp (λ_=>⟨m1,m2,λa ha j _ m=>?_⟩) (λ_ a ha z=>re.pl a z (fresh a ha)) λa ha j d' t' hj ej o m=>?_,mo hz ez,jW,oJ hi (by intro z;cases z)⟩
    .obtain⟨d2,t2,e2⟩:=re.at' m;exact re.nn e2 m (fresh a ha)
    .exact absurd (fresh a ha) (re.nn ej m)
   |cons r0 R0=>
    cases mv with
    |false=>exact shared _ (by rw[hr];rfl) h
    |true=>
     simp only[if_true] at h;by_cases ho:bV env (r0::R0)=ζ
     .rw[if_pos ho] at h;have fg:=N0.forget (env':=kill (r0::R0) env) (cG _ _) λj d' t' ej=>(bO ej).1
      have ow:∀k∈r0::R0,∃d',env[k]? = θ (θ (d',.own)):=λk hk=>by
       have:=cz.mp ho k hk;split at this
       .rename_i d' q;exact⟨d',q⟩
       .cases this
      have apart:∀a∈G,∀j,j≠i->a∉(match (kill (r0::R0) env)[j]? with|some (θ _)=>F j|_=>[]):=λa ha j hj m=>by
       split at m
       .rename_i q ej;obtain⟨dj,tj⟩:=q;obtain⟨e0,h1,h2⟩:=bO ej;rcases m3 a ha with q|⟨k,d2,t2,hk,f,e2,o2⟩
        .exact re.nn e0 m q
        .exact h2 k hk ((re.one k d2 t2 e2 o2).2.2 a f j dj tj e0 m)
       .cases m
      refine h _ H' _ ⟨fg.put (by rw[cG];exact hi) rp (λ_=>⟨m1,m2,apart⟩) (λ_ a ha z=>?_) λa ha j d' t' hj ej o m=>absurd m (apart a ha j hj),mo (λj a ha=>?_) ez,jW,λj d' ej=>?_⟩
      .rcases m3 a ha with q|⟨k,d2,t2,hk,f,e2,o2⟩
       .exact re.pl a z q
       .obtain⟨d3,e3⟩:=ow k hk;exact re.wr k d3 e3 a f z
      .split at ha
       .exact hz j a ha
       .cases ha
      .by_cases hj:j=i
       .subst hj;rw[eU (by rw[cG];exact hi)] at ej;cases ej
       .obtain⟨t0,e0,q⟩:=jR hj ej;cases t0 with
        |lk=>
         refine⟨(bO e0).1,?_⟩;rw[dZ hj,e0]
        |own=>cases q
        |sh R=>cases q
     .rw[if_neg ho] at h;exact h.elim
 .simp only[hi,if_false] at h;exact h.elim
noncomputable def setM:List Nat->List V->L2.St->L2.St
 |i::is,v::vs,σ=>setM is vs (σ.set i (θ v))
 |_,_,σ=>σ
theorem mM:∀{is:List Nat}{ds:List D}{vs:List V}{G:List Addr}{env env':En}{σ:L2.St}{F:Nat->List Addr},RE K P env σ H F->(∀i,∀a∈F i,Z a)->aK K H ds vs G->G.Nodup->(∀a∈G,∃vs:ML,H a=θ vs.o)->(∀a∈G,¬ P a)->(∀a∈G,Z a) ->
  (∀a∈G,∀j,a∉F j)->bindM (λ_=>.own) is ds env=θ env'->∃F',RE K P env' (setM is vs σ) H F'/\(∀i,∀a∈F' i,Z a)/\uR env F env' F'/\is.length=vs.length
 |[],_,_,_,env,env',σ,F,re,hz,.nil,_,_,_,_,_,h=>by
  simp only[bindM,da] at h;subst h;exact⟨F,re,hz,uR.refl _ _,rfl⟩
 |i::is,_,_,_,env,env',σ,F,re,hz,.cons (G:=G1) (G':=G2) r rs,nd,ll,np,gz,ap,h=>by
  simp only[bindM] at h;by_cases hi:i<env.length
  .rw[if_pos hi] at h;obtain⟨n1,n2,Sx⟩:=fi.mp nd;have L6:=re.put (t:=.own) hi r (λ_=>⟨n1,λa ha=>ll a (a9 _ ha),λa ha j _=>ap a (a9 _ ha) j⟩) (λ_ a ha=>np a (a9 _ ha)) λa ha j _ _ _ _ _ m=>absurd m (ap a (a9 _ ha) j)
   obtain⟨F',a1,a2,a3,a4⟩:=mM L6 (mo hz λa ha=>gz a (a9 _ ha)) rs n2 (λa ha=>ll a (aq _ ha)) (λa ha=>np a (aq _ ha)) (λa ha=>gz a (aq _ ha)) (λa ha j m=>by
    by_cases hj:j=i
    .subst hj;rw[eJ] at m;exact Sx a m a ha rfl
    .rw[dZ hj] at m;exact ap a (aq _ ha) j m) h
   exact⟨F',a1,a2,(oJ hi (by intro z;cases z)).trans a3,by simp[a4]⟩
  .rw[if_neg hi] at h;cases h
 |[],_,_,_,_,_,_,_,_,_,.cons _ _,_,_,_,_,_,h=>by simp[bindM] at h
 |_::_,_,_,_,_,_,_,_,_,_,.nil,_,_,_,_,_,h=>by simp[bindM] at h
theorem uj:dJ d R≠.lk:=by unfold dJ;split<;>intro z<;>cases z
theorem wD (re:RE K P env σ H F)(hi:i<env.length)(rp:Rep K H d v G)(hs:∀a∈G,∀(j:Nat) (d':D) (t':Tg),env[j]? = θ (θ (d',t'))->bK t'=ζ->a∈F j->j∈R) :
  RE K P (put env i d (dJ d R)) (σ.set i (θ v)) H (oq F i G):=by
 unfold dJ;cases hf:d.flat with
 |true=>
  have:G=[]:=rp.flat hf;subst this;simp only[if_true];exact re.put hi rp (λ_=>⟨bj,λ_ h=>(nomatch h),λ_ h=>(nomatch h)⟩) (λ_ _ h=>(nomatch h)) λ_ h=>(nomatch h)
 |false=>
  simp only[a8,if_false];exact re.put hi rp (λo=>by cases o) (λo=>by cases o) λa ha j d' t' hj ej o m=>hs a ha j d' t' ej o m
theorem pq:∀{is:List Nat}{ds:List D}{vs:List V}{G:List Addr}{env env':En}{σ:L2.St}{F:Nat->List Addr},RE K P env σ H F->(∀i,∀a∈F i,Z a)->aK K H ds vs G->(∀a∈G,Z a) ->
  (∀a∈G,∀(j:Nat) (d':D) (t':Tg),env[j]? = θ (θ (d',t'))->bK t'=ζ->a∈F j->j∈R)->bindM (λd=>dJ d R) is ds env=θ env'->∃F',RE K P env' (setM is vs σ) H F'/\(∀i,∀a∈F' i,Z a)/\uR env F env' F'/\is.length=vs.length
 |[],_,_,_,env,env',σ,F,re,hz,.nil,_,_,h=>by
  simp only[bindM,da] at h;subst h;exact⟨F,re,hz,uR.refl _ _,rfl⟩
 |i::is,_,_,_,env,env',σ,F,re,hz,.cons (d:=d) (G:=G1) (G':=G2) r rs,gz,hs,h=>by
  simp only[bindM] at h;by_cases hi:i<env.length
  .rw[if_pos hi] at h;have L6:=wD re hi r λa ha=>hs a (a9 _ ha)
   obtain⟨F',a1,a2,a3,a4⟩:=pq L6 (mo hz λa ha=>gz a (a9 _ ha)) rs (λa ha=>gz a (aq _ ha)) (λa ha j d' t' ej o m=>by
    by_cases hj:j=i
    .subst hj;rw[eU hi] at ej;simp only[da,gm] at ej;obtain⟨rfl,rfl⟩:=ej;rw[eJ] at m;cases hf:d.flat with
     |true=>rw[r.flat hf] at m;cases m
     |false=>simp[dJ,hf,bK] at o
    .rw[dZ hj] at m;obtain⟨t0,e0,rfl⟩:=jR hj ej;rw[nu] at o;exact hs a (aq _ ha) j d' t0 e0 o m) h
   exact⟨F',a1,a2,(oJ hi uj).trans a3,by simp[a4]⟩
  .rw[if_neg hi] at h;cases h
 |[],_,_,_,_,_,_,_,_,_,.cons _ _,_,_,h=>by simp[bindM] at h
 |_::_,_,_,_,_,_,_,_,_,_,.nil,_,_,h=>by simp[bindM] at h
theorem tB (R:List Nat)(env:En):(lock R env).length=env.length:=by simp[lock]
theorem oZ {env:En}(e:(lock R env)[i]? = θ (θ (d,t))) :
  (env[i]? = θ (θ (d,t))/\(t=.own->i∉R))\/(t=.lk/\i∈R/\env[i]? = θ (θ (d,.own))):=by
 unfold lock at e;rw[Τ] at e;cases q:env[i]? with
 |none=>rw[q] at e;cases e
 |some s=>
  rw[q] at e;cases s with
  |none=>cases e
  |some p=>
   obtain⟨a,b⟩:=p;simp only[bw,da] at e;cases b with
   |own=>
    simp only at e;by_cases h:R.contains i=ζ
    .rw[if_pos h] at e;cases e;exact .inr ⟨rfl,by simpa using h,rfl⟩
    .rw[if_neg h] at e;cases e;exact .inl ⟨rfl,λ_ z=>h (by simpa using z)⟩
   |lk=>cases e;exact .inl ⟨rfl,λz=>by cases z⟩
   |sh Q=>cases e;exact .inl ⟨rfl,λz=>by cases z⟩
theorem Bk {R:List Nat}{env:En}(e:env[i]? = θ (θ (d,t))):∃t',(lock R env)[i]? = θ (θ (d,t'))/\bK t'=bK t/\bG i t'=bG i t:=by
 unfold lock;rw[Τ,e];cases t with
 |own=>
  simp only[bw];by_cases h:R.contains i=ζ
  .exact⟨.lk,by rw[if_pos h],rfl,rfl⟩
  .exact⟨.own,by rw[if_neg h],rfl,rfl⟩
 |lk=>exact⟨.lk,rfl,rfl,rfl⟩
 |sh Q=>exact⟨.sh Q,rfl,rfl,rfl⟩
theorem iN {env:En}(e:(lock R env)[i]? = θ (θ (d,t))):∃t0,env[i]? = θ (θ (d,t0))/\bK t0=bK t/\bG i t0=bG i t:=by
 rcases oZ e with ⟨h,_⟩|⟨rfl,_,h⟩
 .exact⟨t,h,rfl,rfl⟩
 .exact⟨.own,h,rfl,rfl⟩
theorem RE.locked (re:RE K P env σ H F)(hg:∀a∈G,H a≠η)(hc:∀a∈G,∀(i:Nat) (d:D) (t:Tg),env[i]? = θ (θ (d,t))->bK t=ζ->a∈F i->i∈R) :
  RE K (λa=>P a\/a∈G) (lock R env) σ H F where
 len:=(tB R env).trans re.len
 val:=λi d t e=>let ⟨t0,e0,_⟩:=iN e;re.val i d t0 e0
 MN:=λi h=>re.MN i λd t e=>by
  obtain⟨t',e',_⟩:=Bk (R:=R) e;exact h d t' e'
 one:=λi d t e o=>by
  obtain⟨t0,e0,o0,_⟩:=iN e;obtain⟨a,b,c⟩:=re.one i d t0 e0 (o0.trans o);refine⟨a,b,λx hx j d' t' ej m=>?_⟩;obtain⟨t1,e1,_,s1⟩:=iN ej;rw[<-s1];exact c x hx j d' t1 e1 m
 wr:=λi d e a ha z=>by
  rcases oZ e with ⟨h,hn⟩|⟨q,_⟩
  .rcases z with z|z
   .exact re.wr i d h a ha z
   .exact hn rfl (hc a z i d .own h rfl ha)
  .cases q
 pl:=λa h=>h.elim (re.pl a) (hg a)
theorem pY (R:List Nat)(env0 env:En):(unlock R env0 env).length=env.length:=by simp[unlock]
theorem lG {env:En}(e:(unlock R env0 env)[i]? = θ (θ (d,t))) :
  (env[i]? = θ (θ (d,t))/\(t=.lk->¬ (i∈R/\∃d0,env0[i]? = θ (θ (d0,.own)))))\/(t=.own/\i∈R/\env[i]? = θ (θ (d,.lk))/\∃d0,env0[i]? = θ (θ (d0,.own))):=by
 unfold unlock at e;rw[Τ] at e;cases q:env[i]? with
 |none=>rw[q] at e;cases e
 |some s=>
  rw[q] at e;cases s with
  |none=>cases e
  |some p=>
   obtain⟨a,b⟩:=p;simp only[bw,da] at e;cases b with
   |own=>cases e;exact .inl ⟨rfl,λz=>by cases z⟩
   |sh Q=>cases e;exact .inl ⟨rfl,λz=>by cases z⟩
   |lk=>
    simp only at e;split at e
    .rename_i d0 q0;by_cases h:R.contains i=ζ
     .rw[if_pos h] at e;cases e;exact .inr ⟨rfl,by simpa using h,rfl,d0,q0⟩
     .rw[if_neg h] at e;cases e;exact .inl ⟨rfl,λ_ z=>h (by simpa using z.1)⟩
    .rename_i nq;cases e;exact .inl ⟨rfl,λ_ ⟨_,d0,q0⟩=>nq d0 q0⟩
theorem iT {env:En}(e:(unlock R env0 env)[i]? = θ (θ (d,t))):∃t0,env[i]? = θ (θ (d,t0))/\bK t0=bK t/\bG i t0=bG i t:=by
 rcases lG e with ⟨h,_⟩|⟨rfl,_,h,_⟩
 .exact⟨t,h,rfl,rfl⟩
 .exact⟨.lk,h,rfl,rfl⟩
theorem uU {R:List Nat}{env0 env:En}(e:env[i]? = θ (θ (d,t))):∃t',(unlock R env0 env)[i]? = θ (θ (d,t')):=by
 unfold unlock;rw[Τ,e];cases t with
 |own=>exact⟨.own,rfl⟩
 |sh Q=>exact⟨.sh Q,rfl⟩
 |lk=>
  simp only[bw];split
  .by_cases h:R.contains i=ζ
   .exact⟨.own,by rw[if_pos h]⟩
   .exact⟨.lk,by rw[if_neg h]⟩
  .exact⟨.lk,rfl⟩
theorem After.Nl {env':En}{σ':L2.St}{F':Nat->List Addr}(re:RE K P env σ H F)(a:After K (λa=>P a\/a∈G) Z (lock R env) F H env' σ' H' F'):After K P Z env F H (unlock R env env') σ' H' F' where
 re:={
  len:=(pY R env env').trans a.re.len
  val:=λi d t e=>let ⟨t0,e0,_⟩:=iT e;a.re.val i d t0 e0
  MN:=λi h=>a.re.MN i λd t e=>by
   obtain⟨t',e'⟩:=uU (R:=R) (env0:=env) e;exact h d t' e'
  one:=λi d t e o=>by
   obtain⟨t0,e0,o0,_⟩:=iT e;obtain⟨x,y,c⟩:=a.re.one i d t0 e0 (o0.trans o);refine⟨x,y,λz hz j d' t' ej m=>?_⟩;obtain⟨t1,e1,_,s1⟩:=iT ej;rw[<-s1];exact c z hz j d' t1 e1 m
  wr:=λi d e b hb z=>by
   rcases lG e with ⟨h,_⟩|⟨_,hR,h,d0,h0⟩
   .exact a.re.wr i d h b hb (.inl z)
   .obtain⟨h1,h2⟩:=a.lk i d h;rw[h2] at hb;exact re.wr i d0 h0 b hb z
  pl:=λb h=>a.re.pl b (.inl h) }
 z:=a.z
 ev:=a.ev.weak λ_ h=>.inl h
 lk:=λi d e=>by
  rcases lG e with ⟨h,hn⟩|⟨q,_⟩
  .obtain⟨h1,h2⟩:=a.lk i d h;rcases oZ h1 with ⟨h3,_⟩|⟨_,hR,h3⟩
   .exact⟨h3,h2⟩
   .exact absurd ⟨hR,d,h3⟩ (hn rfl)
  .cases q
end
variable {path:Option Int}{rs:List Rt}{x:Nat}
section
variable {K:Frag}{P Z:Addr->Prop}{env:En}{σ:L2.St}{H:Hp}{F:Nat->List Addr}
theorem dC (h:ownAt env x=θ d):env[x]? = θ (θ (d,.own)):=by
 unfold ownAt at h;split at h
 .rename_i d' q;cases h;exact q
 .cases h
theorem jD (re:RE K P env σ H F){xs:List D}(hx:ownAt env x=θ d)(hv:σ[x]? = θ (θ v))(h:d.LL path=θ xs) :
  ∃p,PV K H v path p/\∀H',aN H H'->∃ws Gx,H' p=θ (.lst ws)/\aK K H' xs ws Gx/\p∈F x/\(∀a∈Gx,a∈F x)/\Gx.Nodup/\p∉Gx /\
   ∀ys us Gy,aK K (upd H' p (.lst us)) ys us Gy->Gy.Nodup->p∉Gy->(∀a∈Gy,a∈Gx\/a∉F x)->∃G',Rep K (upd H' p (.lst us)) (d.LO path ys) v G'/\G'.Nodup/\∀a∈G',a∈F x\/a∈Gy:=by
 have LM:=dC hx;obtain⟨u,e,rp⟩:=re.val x d .own LM;rw[hv] at e;cases e;obtain⟨a,b,_⟩:=re.one x d .own LM rfl;obtain⟨p,pv,f⟩:=zl rp a h;exact⟨p,pv,λH' e=>f H' e λy hy=>let ⟨ws,q⟩:=b y hy;⟨ws,e _ _ q⟩⟩
theorem rg {D:Ends}{d:Pc.D}{ys:List Pc.D}(h:post K P Z env F H D (dU x path env d ys rs)):ys.length<=lim:=by
 unfold dU at h;cases hR:eW rs with
 |none=>rw[hR] at h;exact h.elim
 |some R=>
  rw[hR] at h;simp only at h;by_cases hc:(decide R.Nodup&&bV env R && !R.contains x&&decide (ys.length<=lim))=ζ
  .simp only[aj,decide_eq_true_eq] at hc;exact hc.2
  .rw[if_neg hc] at h;exact h.elim
theorem mC {D:Ends}{d:Pc.D}{ys:List Pc.D}{p:Addr}{us:List V}{N:List Addr}
  (re:RE K P env σ H F) (hz:∀i,∀a∈F i,Z a) (zp:∀a,¬ P a->Z a) (e:aN H H1) (hx:ownAt env x=θ d) (hv:σ[x]? = θ (θ v)) (hp:p∈F x)
  (hN:∀R,eW rs=θ R->R.Nodup->N.Nodup/\(∀a∈N,∃vs:ML,H1 a=θ vs.o)/\∀a∈N,H a=η\/∃i d t,i∈R/\a∈F i/\env[i]? = θ (θ (d,t))/\bK t=ζ)
  (SW:(∀a∈N,a∉F x)->N.Nodup->∃G',Rep K (upd H1 p (.lst us)) (d.LO path ys) v G'/\G'.Nodup/\∀a∈G',a∈F x\/a∈N)
  (h:post K P Z env F H D (dU x path env d ys rs)):D.nx σ (upd H1 p (.lst us)):=by
 unfold dU at h;cases hR:eW rs with
 |none=>rw[hR] at h;exact h.elim
 |some R=>
  rw[hR] at h;simp only at h;by_cases hc:(decide R.Nodup&&bV env R && !R.contains x&&decide (ys.length<=lim))=ζ
  .rw[if_pos hc] at h;simp only[aj,decide_eq_true_eq,i3] at hc;obtain⟨⟨⟨hc1,hc2⟩,WM⟩,hc4⟩:=hc;have hxR:x∉R:=λz=>by
    have:R.contains x=ζ:=by simpa using z
    rw[this] at WM;cases WM
   obtain⟨n1,n2,n3⟩:=hN R hR hc1;have LM:=dC hx;have ow:∀k∈R,∃d',env[k]? = θ (θ (d',.own)):=λk hk=>by
    have:=cz.mp hc2 k hk;split at this
    .rename_i d' q;exact⟨d',q⟩
    .cases this
   have Sq:∀a∈N,a∉F x:=λa ha m=>by
    rcases n3 a ha with q|⟨i,d2,t2,hi,f,e2,o2⟩
    .exact re.nn LM m q
    .have:=(re.one i d2 t2 e2 o2).2.2 a f x d .own LM m;simp only[bG,gu] at this;subst this;exact hxR hi
   obtain⟨G',g1,g2,g3⟩:=SW Sq n1;have L6:=re.same e;have pP:∀a∈N,¬ P a:=λa ha z=>by
    rcases n3 a ha with q|⟨i,d2,t2,hi,f,e2,o2⟩
    .exact re.pl a z q
    .obtain⟨d3,e3⟩:=ow i hi;exact re.wr i d3 e3 a f z
   have R8:=L6.OM (R:=R) (N:=N) LM hv hp g1 g2 g3 λa ha=>⟨n2 a ha,pP a ha,λj dj tj ej m=>by
    rcases n3 a ha with q|⟨i,d2,t2,hi,f,e2,o2⟩
    .exact absurd q (re.nn ej m)
    .exact⟨i,aa _ hi,(re.one i d2 t2 e2 o2).2.2 a f j dj tj ej m⟩⟩
   obtain⟨_,PZ,_⟩:=L6.one x d .own LM rfl;obtain⟨ws,LQ⟩:=PZ p hp;have Sw:¬ P p:=re.wr x d LM p hp;refine h σ _ _ ⟨R8,λj a ha=>?_,(jV.of_same re.pl e).trans ⟨λa z=>aQ (λq=>Sw (q ▸ z)),λb xs r=>?_,kE LQ⟩,λj dj ej=>?_⟩
   .unfold kf at ha;split at ha
    .rcases g3 a ha with q|q
     .exact hz x a q
     .exact zp a (pP a q)
    .split at ha
     .exact hz j a ha
     .cases ha
   .refine (aQ (λq=>?_)).trans r;subst q;rw[LQ] at r;cases ws<;>cases r
   .by_cases hj:j=x
    .subst hj;rw[ξ (by rw[cG];exact (ο.mp LM).1)] at ej;cases ej
    .rw[μ (cv hj)] at ej;refine⟨(bO ej).1,?_⟩;unfold kf;rw[if_neg hj,ej]
  .rw[if_neg hc] at h;exact h.elim
end
end Pc
end
section
namespace Pc
theorem zt {c:Prop}[Decidable c]{β:Type}{x y z:β}(h:(if c then x else y)=z)(n:y≠z:=by nofun):c/\x=z:=by
 by_cases q:c
 .rw[if_pos q] at h;exact⟨q,h⟩
 .rw[if_neg q] at h;exact absurd h n
end Pc
end
section
namespace Pc
open PySem PySem.Spec PyProof.Rows L2
variable {G:List Addr}{d:D}{ds:List D}{v y:V}
section
variable {K:Frag}{H:Hp}
theorem aK.inv2 {e:D}{x:V}(h:aK K H [d,e] [x,y] G):∃G1 G2,Rep K H d x G1/\Rep K H e y G2/\G=G1++G2:=by
 cases h with
 |cons r s=>
  cases s with
  |cons r' s'=>cases s';exact⟨_,_,r,r',by rw[bc]⟩
theorem Rep.int_inv {i:Int}(h:Rep K H (.int i) v G):v=.int i/\G=[]:=by cases h;exact⟨rfl,rfl⟩
theorem Rep.LI {i:Bool}(h:Rep K H (.bl i) v G):v=.bl i/\G=[]:=by cases h;exact⟨rfl,rfl⟩
theorem Rep.Lk (h:Rep K H (.tup ds) v G):∃p vs,v=.ref p/\rb K H p vs/\aK K H ds vs G:=by
 cases h with
 |tup a b=>exact⟨_,_,rfl,a.sq,b⟩
theorem Rep.Ms (h:Rep K H (.tup ds) v G):∃p vs,v=.ref p/\mK K H p vs/\aK K H ds vs G:=by
 cases h with
 |tup a b=>exact⟨_,_,rfl,a,b⟩
end
variable {H:Hp}{K:Frag}{k:Int}{l:Addr}{n:Nat}{op:li}{pins:List (Addr×Obj)}{s:ρ}{vs xs:List V}
section
variable {X:Cx}
theorem Inv.N3 {σ:L2.St}(I:Inv X pins σ H s)(hH:Rd H l (.lst xs)):xs.length<=sizeLine/\∃(its:List Value) (n:Nat),aT xs its/\xs.length=its.length/\s.heap.get? l=θ { cls:=.type "list",data:=.seq its.toArray n }:=by
 obtain⟨z,its,n,r,e⟩:=hH.ok I.Ll;exact⟨z,its,n,r,r.length,e⟩
noncomputable def Jw:R2:=λx y H Q=>∃l b xs zs,x=.ref l/\y=.ref b/\Rd H l (.lst xs)/\Rd H b (.lst zs)/\xs.length+zs.length<=sizeLine/\∀p,H p=η->Q (.ref p) (upd H p (.lst (xs++zs)))
theorem CF:mI X (wP .Add) Jw:=by
 intro pins s σ H x y v u Q I rx ry h;obtain⟨l,b,xs,zs,rfl,rfl,hH,hB,hz,q⟩:=h;cases rx;cases ry;obtain⟨z,its,n,r,hl,e⟩:=Inv.N3 I hH;obtain⟨z2,MI,n2,r2,Ot,e2⟩:=Inv.N3 I hB;refine PySem.P.add_list e e2 ?_ (by rw[ao,ao];omega);have ea:its.toArray++MI.toArray=(its++MI).toArray:=by simp
 rw[ea];exact⟨.ref _,_,I.OQ (t':=s.toks) (r.append r2) (by rw[az];omega),rfl,q _ I.fresh⟩
noncomputable def JA:R2:=λx y H Q=>∃l k xs,x=.ref l/\y=.int k/\Rd H l (.lst xs)/\-(2 ^ 63)<=k/\k<2 ^ 63/\xs.length*k.toNat<=sizeLine /\
 ∀p,H p=η->Q (.ref p) (upd H p (.lst (ν k.toNat xs).flatten))
theorem CD:mI X (wP .Mult) JA:=by
 intro pins s σ H x y v u Q I rx ry h;obtain⟨l,k,xs,rfl,rfl,hH,h1,h2,hz,q⟩:=h;cases rx;obtain⟨t,rfl⟩:=ry;obtain⟨z,its,n,r,hl,e⟩:=Inv.N3 I hH;have hlen:its.toArray.size*k.toNat<=sizeLine:=by rw[ao,<-hl];exact hz
 have TF:¬ its.toArray.size*k.toNat > (2 ^ 63-1) / 8:=by
  have:(sizeLine:Nat)<=(2 ^ 63-1) / 8:=by decide
  omega
 have Tt:¬ (!Builtin.List.listFitsIndex k)=ζ:=by
  rw[Ê h1 h2];exact ba
 have NA:¬ wp (its.toArray.size*k.toNat)=ζ:=by
  rw[tw hlen];exact ba
 have Ta:Y4 (λx1 x2=>x1++x2) #[] (ν (if its.toArray.isEmpty=ζ then 0 else k.toNat) its.toArray)=(ν k.toNat its).flatten.toArray:=by
  have f0:∀m:Nat,Y4 (λx1 x2=>x1++x2) #[] (ν m its.toArray)=(ν m its).flatten.toArray:=λm=>by
   have:=foldl_rep its m [];rw[X1] at this;exact this
  rw[f0];cases its with
  |nil=>simp
  |cons a r'=>rw[if_neg (by simp)]
 refine wpAny_binaryOp_repeat_ref (T:="list") (U:="int") (by decide) ⟨_,e,rfl⟩ (λs'=>YI s' k t) noFill_list_mul F.fills_int_mul ì repeat_list F.slot_int_index.lookup
  (EQ ì (YI s k t) F.entry_int_rmul (F.args_int_rmul_2 _ _) (int___rmul___int_list k t l its.toArray n)
   ⟨e,rfl,⟨_,e,rfl⟩,EQ F.slot_list_mul ⟨_,e,rfl⟩ F.entry_list_mul (F.args_list_mul_2 _ _) (ĉ l its.toArray n k t Tt TF NA) ⟨e,?_⟩⟩)
 rw[Ta];exact⟨.ref _,_,I.OQ (t':=s.toks) (r.rep k.toNat) (by rw[len_rep,ö];exact hz),rfl,q _ I.fresh⟩
theorem aK.rep (h:aK K H ds vs []):∀n:Nat,aK K H (ν n ds).flatten (ν n vs).flatten []
 |0=>.nil
 |n+1=>by
  rw[dq,dq,dz,dz];exact h.append (h.rep n)
theorem xF {e:D}(h:ck n d=θ e):n<=lim/\e=d:=by
 unfold ck at h;split at h
 .cases h;exact⟨‹_›,rfl⟩
 .cases h
theorem rh {i:Int}:small i=ζ↔(-(2 ^ 64)<i/\i<2 ^ 64):=by unfold small;exact decide_eq_true_iff
theorem DJ {i j:Int}(h:binI op i j=θ k):mI X (wP op) (λx y H Q=>x=.int i/\y=.int j/\Q (.int k) H):=by
 intro pins s σ H x y v u Q I rx ry q;obtain⟨rfl,rfl,q⟩:=q;cases op with
 |Add=>cases h;exact HR pins s σ H _ _ v u Q I rx ry ⟨i,j,rfl,rfl,q⟩
 |Sub=>cases h;exact GF pins s σ H _ _ v u Q I rx ry ⟨i,j,rfl,rfl,q⟩
 |Mult=>
  obtain⟨hc,h⟩:=zt h;cases h;refine Gq pins s σ H _ _ v u Q I rx ry ⟨i,j,rfl,rfl,?_,q⟩;rw[g6,rh,rh] at hc;exact hc
 |FloorDiv=>
  obtain⟨hc,h⟩:=zt h;cases h;exact CS pins s σ H _ _ v u Q I rx ry ⟨i,j,rfl,rfl,hc,q⟩
 |Mod=>
  obtain⟨hc,h⟩:=zt h;cases h;exact FD pins s σ H _ _ v u Q I rx ry ⟨i,j,rfl,rfl,hc,q⟩
 |Pow=>
  obtain⟨hc,h⟩:=zt h;cases h;exact FV pins s σ H _ _ v u Q I rx ry ⟨i,j,rfl,rfl,hc,q⟩
 |BitXor=>cases h;exact Hs pins s σ H _ _ v u Q I rx ry ⟨i,j,rfl,rfl,q⟩
 |_=>cases h
theorem D8 (op:li):mI X (wP op) (D4 X.K (mR op)):=by
 intro pins s σ H x y v u Q I rx ry h;obtain⟨d1,d2,d,G,rs,hd,k⟩:=h;obtain⟨G1,G2,r1,r2,rfl⟩:=rs.inv2;cases d1 with
 |int i=>
  cases d2 with
  |int j=>
   obtain⟨rfl,rfl⟩:=r1.int_inv;obtain⟨rfl,rfl⟩:=r2.int_inv;have:mR op (.int i) (.int j)=(binI op i j).map .int:=rfl;rw[this,ae] at hd;obtain⟨z,hz,rfl⟩:=hd;exact DJ hz pins s σ H _ _ v u Q I rx ry ⟨rfl,rfl,k _ H [] (.int z) kT.nil⟩
  |_=>cases hd
 |lst a=>
  obtain⟨p,vs,G',rfl,rfl,h1,h2⟩:=r1.lst_inv;cases d2 with
  |lst b=>
   cases op with
   |Add=>
    obtain⟨hl,rfl⟩:=xF hd;obtain⟨p',NV,Xy,rfl,rfl,Mi,L1⟩:=r2.lst_inv;refine CF pins s σ H _ _ v u Q I rx ry ⟨p,p',vs,NV,rfl,rfl,h1,Mi,by rw[<-h2.len,<-L1.len];exact pW hl,λq hq=>?_⟩;obtain⟨n1,n2⟩:=k9 (G0:=p::G'++p'::Xy) (h2.append L1) (λa ha=>by simp at ha ⊢;rcases ha with ha|ha<;>simp[ha]) hq;exact k _ _ _ n1 n2
   |_=>cases hd
  |int n=>
   cases op with
   |Mult=>
    obtain⟨hc,hd⟩:=zt hd;by_cases hf:D.Lh a=ζ
    .rw[if_pos hf] at hd;obtain⟨hl,rfl⟩:=xF hd;obtain⟨rfl,rfl⟩:=r2.int_inv;have eG:G'=[]:=h2.flat hf;subst eG;refine CD pins s σ H _ _ v u Q I rx ry ⟨p,n,vs,rfl,rfl,h1,hc.1,hc.2,by rw[<-h2.len];exact pW hl,λq hq=>?_⟩;obtain⟨n1,n2⟩:=k9 (G0:=[p] ++ []) (h2.rep n.toNat) (λa ha=>(nomatch ha)) hq;exact k _ _ _ n1 n2
    .rw[if_neg hf] at hd;cases hd
   |_=>cases hd
  |_=>cases op<;>cases hd
 |_=>cases hd
open SeqAt in
theorem kD {f:D->D->Option Bool}:∀{xs ys:List D}{b:Bool},lJ f xs ys=θ b->xs.length=ys.length/\∃e:Nat->Bool,(∀j x y,xs[j]? = θ x->ys[j]? = θ y->f x y=θ (e j))/\b=(υ xs.length).all e
 |[],[],b,h=>by cases h;exact⟨rfl,λ_=>ζ,λj x y hx=>by simp at hx,rfl⟩
 |x::xs,y::ys,b,h=>by
  simp only[lJ,ah,ae] at h;obtain⟨a,h1,c,h2,rfl⟩:=h;obtain⟨hl,e,he,rfl⟩:=kD h2;refine⟨by simp[hl],λj=>match j with|0=>a|j+1=>e j,λj x' y' hx hy=>?_,?_⟩
  .cases j with
   |zero=>simp at hx hy;subst hx;subst hy;exact h1
   |succ j=>exact he j x' y' (by simpa using hx) (by simpa using hy)
  .rw[cg,YB,fh,XH];rfl
 |[],_::_,b,h=>by cases h
 |_::_,[],b,h=>by cases h
section
variable {pins:List (Addr×Obj)}{σ:L2.St}{H:Hp}{s:ρ}
theorem vk (I:Inv X pins σ H s):∀(n:Nat) {d e:D}{v:V}{G G':List Addr}{b:Bool},Rep X.K H d v G->Rep X.K H e v G'->D.Lq n d e=θ b->b=ζ
 |0,_,_,_,_,_,_,_,_,h=>by cases h
 |n+1,d,e,v,G,G',b,r1,r2,h=>by
  have it:∀{xs ys:List D}{vs:List V}{g g':List Addr}{c:Bool},aK X.K H xs vs g->aK X.K H ys vs g'->lJ (D.Lq n) xs ys=θ c->c=ζ:=λ{xs ys vs g g' c} a a' hc=>by
   obtain⟨hl,ee,he,rfl⟩:=kD hc;rw[cz];intro j hj;rw[na] at hj;obtain⟨v1,g1,e1,p1,_⟩:=a.get (i:=j) (d:=xs[j]) (by simp[hj]);obtain⟨v2,g2,e2,p2,_⟩:=a'.get (i:=j) (d:=ys[j]) (by simp);rw[e1] at e2;cases e2;exact vk I n p1 p2 (he j _ _ (by simp[hj]) (by simp))
  cases d with
  |int a=>
   obtain⟨rfl,rfl⟩:=r1.int_inv;cases e with
   |int i=>obtain⟨z,rfl⟩:=r2.int_inv;cases z;cases h;exact fw _
   |_=>cases h
  |lst xs=>
   obtain⟨l,vs,g,rfl,rfl,a1,a2⟩:=r1.lst_inv;cases e with
   |lst ys=>
    obtain⟨m,ws,g',z,rfl,b1,b2⟩:=r2.lst_inv;cases z;obtain rfl:=I.LA (.inl a1) (.inl b1);have h:(if xs.length=ys.length then lJ (D.Lq n) xs ys else θ ε)=θ b:=h;rw[if_pos (a2.len.trans b2.len.symm)] at h;exact it a2 b2 h
   |_=>cases h
  |tup xs=>
   obtain⟨l,vs,rfl,a1,a2⟩:=r1.Lk;cases e with
   |tup ys=>
    obtain⟨m,ws,z,b1,b2⟩:=r2.Lk;cases z;obtain rfl:=I.LN a1 b1;have h:(if xs.length=ys.length then lJ (D.Lq n) xs ys else η)=θ b:=h;rw[if_pos (a2.len.trans b2.len.symm)] at h;exact it a2 b2 h
   |_=>cases h
  |_=>cases e<;>cases h
theorem z6 (I:Inv X pins σ H s):∀(n:Nat) {x y d:D}{v:V}{G G':List Addr}{b c:Bool},Rep X.K H x v G->Rep X.K H y v G'->D.Lq n x d=θ b->D.Lq n y d=θ c->b=c
 |0,_,_,_,_,_,_,_,_,_,_,h,_=>by cases h
 |n+1,x,y,d,v,G,G',b,c,r1,r2,h,h'=>by
  have it:∀{xs ys ds:List D}{vs:List V}{g g':List Addr}{b c:Bool},aK X.K H xs vs g->aK X.K H ys vs g'->lJ (D.Lq n) xs ds=θ b->lJ (D.Lq n) ys ds=θ c->b=c:=λ{xs ys ds vs g g' b c} a a' hb hc=>by
   obtain⟨hl,ee,he,rfl⟩:=kD hb;obtain⟨O1,ff,hf,rfl⟩:=kD hc;have q:∀j,j<xs.length->ee j=ff j:=λj hj=>by
    have M4:j<ys.length:=by omega
    have hd:j<ds.length:=by omega
    obtain⟨v1,g1,e1,p1,_⟩:=a.get (i:=j) (d:=xs[j]) (by simp[hj]);obtain⟨v2,g2,e2,p2,_⟩:=a'.get (i:=j) (d:=ys[j]) (by simp);rw[e1] at e2;cases e2;exact z6 I n p1 p2 (he j _ ds[j] (by simp[hj]) (by simp)) (hf j _ ds[j] (by simp) (by simp))
   rw[show ys.length=xs.length by omega,fk,cz,cz];exact forall_congr' λj=>forall_congr' λhj=>by rw[q j (na.mp hj)]
  cases x with
  |int a=>
   obtain⟨rfl,rfl⟩:=r1.int_inv;cases d with
   |int i=>
    cases y with
    |int k=>obtain⟨z,rfl⟩:=r2.int_inv;cases z;cases h;cases h';rfl
    |_=>cases h'
   |_=>cases h
  |lst xs=>
   obtain⟨l,vs,g,rfl,rfl,a1,a2⟩:=r1.lst_inv;cases d with
   |lst ds=>
    cases y with
    |lst ys=>
     obtain⟨m,ws,g',z,rfl,b1,b2⟩:=r2.lst_inv;cases z;obtain rfl:=I.LA (.inl a1) (.inl b1);have h:(if xs.length=ds.length then lJ (D.Lq n) xs ds else θ ε)=θ b:=h;have h':(if ys.length=ds.length then lJ (D.Lq n) ys ds else θ ε)=θ c:=h';have e:=a2.len.trans b2.len.symm;by_cases hl:xs.length=ds.length
     .rw[if_pos hl] at h;rw[if_pos (e.symm.trans hl)] at h';exact it a2 b2 h h'
     .rw[if_neg hl] at h;rw[if_neg λz=>hl (e.trans z)] at h';cases h;cases h';rfl
    |_=>cases h'
   |_=>cases h
  |tup xs=>
   obtain⟨l,vs,rfl,a1,a2⟩:=r1.Lk;cases d with
   |tup ds=>
    cases y with
    |tup ys=>
     obtain⟨m,ws,z,b1,b2⟩:=r2.Lk;cases z;obtain rfl:=I.LN a1 b1;have h:(if xs.length=ds.length then lJ (D.Lq n) xs ds else η)=θ b:=h;have h':(if ys.length=ds.length then lJ (D.Lq n) ys ds else η)=θ c:=h';by_cases hl:xs.length=ds.length
     .rw[if_pos hl] at h;rw[if_pos (b2.len.trans (a2.len.symm.trans hl))] at h';exact it a2 b2 h h'
     .rw[if_neg hl] at h;cases h
    |_=>cases h'
   |_=>cases h
  |_=>cases d<;>cases h
theorem uk {n:Nat}(f:∀(d e:D) (v w:V) (G G':List Addr) (u u':Value) (b:Bool),Rep X.K H d v G->Rep X.K H e w G'->RelV v u->RelV w u'->D.Lq n d e=θ b->TW A s u u' b){xs ys:List D}{vs ws:List V}{G1 G2:List Addr}{its its':List Value}{c:Bool}(a1:aK X.K H xs vs G1)(a2:aK X.K H ys ws G2)(b1:aT vs its)(b2:aT ws its')(hc:lJ (D.Lq n) xs ys=θ c) :
  its.toArray.size=its'.toArray.size/\∃ee:Nat->Bool,c=(υ its.toArray.size).all ee/\∀j (h1:j<its.toArray.size) (h2:j<its'.toArray.size),TW A s its.toArray[j] its'.toArray[j] (ee j):=by
 obtain⟨hl,ee,he,rfl⟩:=kD hc;have l1:=a1.len;have l2:=a2.len;have l3:=b1.length;have l4:=b2.length;have sz:its.toArray.size=xs.length:=by rw[ao];omega
 refine⟨by rw[ao,ao];omega,ee,by rw[sz],λj h1 h2=>?_⟩;have j1:j<xs.length:=by rw[<-sz];exact h1
 have j2:j<ys.length:=by omega
 obtain⟨v1,g1,e1,p1,_⟩:=a1.get (i:=j) (d:=xs[j]) (by simp[j1]);obtain⟨v2,g2,e2,p2,_⟩:=a2.get (i:=j) (d:=ys[j]) (by simp[j2]);obtain⟨u1,f1,t1⟩:=b1.get e1;obtain⟨u2,f2,t2⟩:=b2.get e2;have x1:its.toArray[j]=u1:=by
  have:=ο.mp f1;simpa using this.2
 have x2:its'.toArray[j]=u2:=by
  have:=ο.mp f2;simpa using this.2
 rw[x1,x2];exact f _ _ _ _ _ _ _ _ _ p1 p2 t1 t2 (he j _ _ (by simp[j1]) (by simp[j2]))
open SeqAt in
theorem xq (I:Inv X pins σ H s):∀(n:Nat) (A:Φ) (d e:D) (v w:V) (G G':List Addr) (u u':Value) (b:Bool),A.units+n<cLine->Rep X.K H d v G->Rep X.K H e w G'->RelV v u->RelV w u'->D.Lq n d e=θ b->RcAt A s u u' b/\EqAt A s u u' b
 |0,_,_,_,_,_,_,_,_,_,_,_,_,_,_,_,h=>by cases h
 |n+1,A,d,e,v,w,G,G',u,u',b,hu,r1,r2,q1,q2,h=>by
  have SS:A.in1.units+n<cLine:=by show A.units+1+n<cLine;omega
  have OU:A.units<cLine:=by omega
  have items:=@uk X H s A.in1 n λd e v w G G' u u' b r1 r2 q1 q2 h=>(xq I n A.in1 d e v w G G' u u' b SS r1 r2 q1 q2 h).2
  have refs:∀{l m:Addr}{c:Bool},(l=m->c=ζ)->RcAt A s (.ref l) (.ref m) c->RcAt A s (.ref l) (.ref m) c/\EqAt A s (.ref l) (.ref m) c:=λ{l m c} hs hr=>⟨hr,by
   by_cases z:l=m
   .subst z;rw[hs rfl];exact EqAt.same _
   .exact EqAt.of_refs z hr⟩
  cases d with
  |Mp _=>cases e<;>cases h
  |Lx _=>cases e<;>cases h
  |LJ _=>cases e<;>cases h
  |Lj=>cases e<;>cases h
  |bl _=>cases e<;>cases h
  |int a=>
   obtain⟨rfl,rfl⟩:=r1.int_inv;obtain⟨t0,rfl⟩:=q1;cases e with
   |int i=>obtain⟨rfl,rfl⟩:=r2.int_inv;obtain⟨t,rfl⟩:=q2;cases h;exact⟨RcAt.int_int a t0 i t,EqAt.int_int a t0 i t⟩
   |_=>cases h
  |str _=>cases e<;>cases h
  |lst xs=>
   obtain⟨l,vs,g,rfl,rfl,a1,a2⟩:=r1.lst_inv;cases q1;obtain⟨its,rv,pl,_⟩:=I.list (.inl a1);cases e with
   |lst ys=>
    obtain⟨m,ws,g',rfl,rfl,b1,b2⟩:=r2.lst_inv;cases q2;obtain⟨its',MZ,Nr,_⟩:=I.list (.inl b1);have same:l=m->b=ζ:=λz=>by
     subst z;exact vk I _ r1 r2 h
    have h:(if xs.length=ys.length then lJ (D.Lq n) xs ys else θ ε)=θ b:=h;by_cases hl:xs.length=ys.length
    .rw[if_pos hl] at h;obtain⟨hz,ee,rfl,he⟩:=items a2 b2 rv MZ h;exact refs same (RcAt.lists pl.isList Nr.isList hz OU he)
    .rw[if_neg hl] at h;cases h;have hz:(its.toArray.size != its'.toArray.size)=ζ:=by
      have l1:=a2.len;have l2:=b2.len;have l3:=rv.length;have l4:=MZ.length;simp only[bne_iff_ne,ne_eq,ao];omega
     exact refs same (RcAt.lists_lengths pl.isList Nr.isList hz OU)
   |_=>cases h
  |tup xs=>
   obtain⟨l,vs,rfl,a1,a2⟩:=r1.Lk;cases q1;obtain⟨its,rv,pl,_⟩:=I.tuple a1;cases e with
   |tup ys=>
    obtain⟨m,ws,rfl,b1,b2⟩:=r2.Lk;cases q2;obtain⟨its',MZ,Nr,_⟩:=I.tuple b1;have same:l=m->b=ζ:=λz=>by
     subst z;exact vk I _ r1 r2 h
    obtain⟨hl,h⟩:=zt h;obtain⟨hz,ee,rfl,he⟩:=items a2 b2 rv MZ h;have q:=RcAt.tuples (e:=ee) pl Nr OU he;rw[<-hz,ø,fw,Z7] at q;exact refs same q
   |_=>cases h
end
end
section
open PySem.SeqAt
open PySem.AutoSeq1 (wpAny_loadPart')
open PySem.MeetsSeq PySem.MeetsSeq2 PySem.MeetsSeq3
end
section
open PySem.SeqAt
open PySem.AutoSeq1 (wpAny_loadPart')
open PySem.MeetsSeq PySem.MeetsSeq2 PySem.MeetsSeq3
end
section
variable {X:Cx}{pins:List (Addr×Obj)}{σ:L2.St}{H:Hp}{s:ρ}
end
section
variable {X:Cx}{pins:List (Addr×Obj)}{σ:L2.St}{H:Hp}{s:ρ}
open SeqAt in
theorem Jg (I:Inv X pins σ H s)(n:Nat)(A:Φ)(d e:D)(v w:V)(G G':List Addr)(u u':Value)(b:Bool)(hu:A.units+n<cLine)(r1:Rep X.K H d v G)(r2:Rep X.K H e w G')(q1:RelV v u)(q2:RelV w u')(h:D.Lq n d e=θ b):RcNeAt A s u u' (!b):=by
 cases n with
 |zero=>cases h
 |succ n=>
  have SS:A.in1.units+n<cLine:=by show A.units+1+n<cLine;omega
  have OU:A.units<cLine:=by omega
  have items:=@uk X H s A.in1 n λd e v w G G' u u' b r1 r2 q1 q2 h=>(xq I n A.in1 d e v w G G' u u' b SS r1 r2 q1 q2 h).2
  have P0:∀{ys:List D}{w:V}{g:List Addr}{u:Value},Rep X.K H (.lst ys) w g->RelV w u->∃m its vs g',u=.ref m/\s.heap.IsList m its.toArray/\aT vs its/\aK X.K H ys vs g':=λ{ys w g u} r q=>by
   obtain⟨m,ws,g',rfl,rfl,a1,a2⟩:=r.lst_inv;cases q;obtain⟨its,rv,pl,_⟩:=I.list (.inl a1);exact⟨m,its,ws,g',rfl,pl.isList,rv,a2⟩
  have Px:∀{ys:List D}{w:V}{g:List Addr}{u:Value},Rep X.K H (.tup ys) w g->RelV w u->∃m its vs,u=.ref m/\s.heap.IsTuple m its.toArray/\aT vs its/\aK X.K H ys vs g:=λ{ys w g u} r q=>by
   obtain⟨m,ws,rfl,a1,a2⟩:=r.Lk;cases q;obtain⟨its,rv,pl,_⟩:=I.tuple a1;exact⟨m,its,ws,rfl,pl,rv,a2⟩
  cases d with
  |Mp _=>cases e<;>cases h
  |Lx _=>cases e<;>cases h
  |LJ _=>cases e<;>cases h
  |Lj=>cases e<;>cases h
  |bl _=>cases e<;>cases h
  |int a=>
   obtain⟨rfl,rfl⟩:=r1.int_inv;obtain⟨t0,rfl⟩:=q1;cases e with
   |int i=>obtain⟨rfl,rfl⟩:=r2.int_inv;obtain⟨t,rfl⟩:=q2;cases h;exact RcNeAt.int_int a t0 i t
   |_=>cases h
  |str _=>cases e<;>cases h
  |lst xs=>
   obtain⟨l,its,vs,g1,rfl,pl,rv,a2⟩:=P0 r1 q1;cases e with
   |lst ys=>
    obtain⟨m,its',ws,g2,rfl,Nr,MZ,b2⟩:=P0 r2 q2;have h:(if xs.length=ys.length then lJ (D.Lq n) xs ys else θ ε)=θ b:=h;by_cases hl:xs.length=ys.length
    .rw[if_pos hl] at h;obtain⟨hz,ee,rfl,he⟩:=items a2 b2 rv MZ h;exact RcNeAt.lists pl Nr hz OU he
    .rw[if_neg hl] at h;cases h;have hz:(its.toArray.size != its'.toArray.size)=ζ:=by
      have l1:=a2.len;have l2:=b2.len;have l3:=rv.length;have l4:=MZ.length;simp only[bne_iff_ne,ne_eq,ao];omega
     exact RcNeAt.lists_lengths pl Nr hz OU
   |_=>cases h
  |tup xs=>
   obtain⟨l,its,vs,rfl,pl,rv,a2⟩:=Px r1 q1;cases e with
   |tup ys=>
    obtain⟨m,its',ws,rfl,Nr,MZ,b2⟩:=Px r2 q2;obtain⟨hl,h⟩:=zt h;obtain⟨hz,ee,rfl,he⟩:=items a2 b2 rv MZ h;have q:=RcNeAt.tuples (e:=ee) pl Nr OU he;rw[<-hz,ø,fw,Z7] at q;exact q
   |_=>cases h
end
variable {A:Φ}{G':List Addr}{p:Addr}{u:Value}
section
variable {X:Cx}
theorem pU (h:Rep K H d v G)(s:d.LY=ζ):km v=ζ:=by
 cases h<;>simp_all [D.LY,km]
theorem nt:∀{ds:List D}{vs:List V}{G:List Addr},aK K H ds vs G->ds.all D.LY=ζ->vs.all km=ζ
 |_,_,_,.nil,_=>rfl
 |_,_,_,.cons h r,s=>by
  simp only[fh,aj] at s ⊢;exact⟨pU h s.1,nt r s.2⟩
theorem CW {e:D}{w:V}(h:Rep K H d v G)(h':Rep K H e w G')(s:d.LY=ζ)(s':e.LY=ζ):Cr v w=D.Qz d e:=by
 cases h<;>first | (cases s;done) | (cases h'<;>first | (cases s';done)|rfl|simp[Cr,D.Qz])
theorem vI {x:D}{w:V}{G0:List Addr}(hx:Rep K H x w G0)(sx:x.LY=ζ):∀{ds:List D}{vs:List V}{G:List Addr},aK K H ds vs G->ds.all D.LY=ζ->Q7 w vs=ds.any λy=>D.Qz y x
 |_,_,_,.nil,_=>rfl
 |_,_,_,.cons h r,s=>by
  simp only[fh,aj] at s;have ih:=vI hx sx r s.2;unfold Q7 at ih ⊢;rw[fv,fv,ih,CW h hx s.1 sx]
theorem nR.any (n:Int):∀{q:List (Int×MV)}{x:List (Key×V)},nR K H q x->(x.any λkv=>decide (kv.1=wT n))=q.any λkv=>decide (kv.1=n)
 |[],[],_=>rfl
 | (k,m)::q,p::x,⟨a,_,c⟩=>by
  rw[fv,fv,c.any n,a];congr 1;exact decide_eq_decide.mpr ⟨λe=>by injection e,λe=>by rw[e]⟩
 |[],_::_,h=>h.elim
 |_::_,[],h=>h.elim
theorem nR.val (n:Int):∀{q:List (Int×MV)}{x:List (Key×V)}{e:Int×MV},nR K H q x->(q.find? λkv=>decide (kv.1=n))=θ e->∃v,oX x (.inl n)=θ v/\zr K H e.2 v
 |[],[],_,_,h=>by cases h
 | (k,m)::q,p::x,e,⟨a,b,c⟩,h=>by
  by_cases hk:k=n
  .rw[List.find?_cons_of_pos (by simpa using hk)] at h;cases h;exact⟨p.2,oS (by rw[a,hk]),b⟩
  .rw[List.find?_cons_of_neg (by simpa using hk)] at h;rw[pF (by rw[a];exact λz=>hk (by injection z))];exact c.val n h
 |[],_::_,_,h,_=>h.elim
 |_::_,[],_,h,_=>h.elim
theorem nj {K:Frag}{H:Hp}:∀ks:List Int,aK K H (ks.map D.int) (ks.map V.int) []
 |[]=>.nil
 |k::ks=>.cons (G:=[]) (G':=[]) (.int k) (nj ks)
theorem zr.rep:∀{m:MV}{v:V},zr K H m v->Rep K H (Q2 m) v []
 |.tr,_,h=>by cases h;exact .bl ζ
 |.int i,_,h=>by cases h;exact .int i
 |.tup is,_,⟨b,e,h⟩=>by subst e;exact .tup h (nj is)
noncomputable def vV:Option Int->V
 |none=>.Lj
 |some i=>.int i
theorem Eb:∀z:Option Int,Rep K H (Rv z) (vV z) []
 |none=>.Lj
 |some i=>.int i
theorem Bv (q:Key×Option Int)(kvs:List (Key×Option Int))(k:Key):xW (q::kvs) k=if q.1=k then θ q.2 else xW kvs k:=by
 unfold xW;rw[u8];by_cases h:q.1=k
 .rw[cm h,if_pos h];rfl
 .rw[bh h,if_neg h]
theorem rZ (q:Key×Value)(kvs:List (Key×Value))(k:Key):sK (q::kvs) k=if q.1=k then θ q.2 else sK kvs k:=by
 unfold sK;rw[u8];by_cases h:q.1=k
 .rw[cm h,if_pos h];rfl
 .rw[bh h,if_neg h]
theorem u5.pairs {P:Program}{w:Ν}:∀{es:List DictEntry}{kvs:List (Key×Option Int)},u5 es kvs->∃vs:List (Key×Value),Pairs (bS P w) es vs/\vs.map (·.1)=kvs.map (·.1) /\
  (∀k,(∀z,xW kvs k=θ z->∃u,RelV (vV z) u/\sK vs k=θ u)/\(sK vs k).isSome=(xW kvs k).isSome)/\(∀e∈es,∃k,(bS P w).is k e.key=ζ/\e.hash=(bS P w).hash k):=by
 have step:∀{e:DictEntry}{es:List DictEntry}{k:Key}{z:Option Int}{kvs:List (Key×Option Int)}{u:Value},(bS P w).is k e.key=ζ->e.hash=(bS P w).hash k->e.val=u->RelV (vV z) u ->
   (∃vs:List (Key×Value),Pairs (bS P w) es vs/\vs.map (·.1)=kvs.map (·.1)/\(∀k,(∀z,xW kvs k=θ z->∃u,RelV (vV z) u/\sK vs k=θ u)/\(sK vs k).isSome=(xW kvs k).isSome)/\(∀e∈es,∃k,(bS P w).is k e.key=ζ/\e.hash=(bS P w).hash k)) ->
   ∃vs:List (Key×Value),Pairs (bS P w) (e::es) vs/\vs.map (·.1)=((k,z)::kvs).map (·.1)/\(∀k',(∀z',xW ((k,z)::kvs) k'=θ z'->∃u,RelV (vV z') u/\sK vs k'=θ u)/\(sK vs k').isSome=(xW ((k,z)::kvs) k').isSome)/\(∀e'∈e::es,∃k,(bS P w).is k e'.key=ζ/\e'.hash=(bS P w).hash k):=by
  intro e es k z kvs u hk hh hv hr ⟨vs,p1,p2,p3,p4⟩;refine⟨(k,u)::vs,.cons hk hv p1,by rw[av,av,p2],λk'=>?_,λe' he=>?_⟩
  .rw[Bv,rZ];by_cases h:k=k'
   .rw[if_pos h,if_pos h];exact⟨λz' q=>by cases q;exact⟨u,hr,rfl⟩,rfl⟩
   .rw[if_neg h,if_neg h];exact p3 k'
  .rcases fe.mp he with rfl|he
   .exact⟨k,hk,hh⟩
   .exact p4 e' he
 intro es kvs h
 induction h with
 |nil=>exact⟨[],.nil,rfl,λk=>⟨λz h=>(by cases h),rfl⟩,λ_ h=>(nomatch h)⟩
 |@cons e es k v kvs t u hh hk hv r ih=>exact step (by rw[hk];exact iD P w k t) hh hv ⟨u,rfl⟩ ih
theorem Fp {σ:L2.St}(hx:xj X.w X.K)(I:Inv X pins σ H s){kvs:List (Key×Option Int)}(h:Kp X.K p kvs):∃vs,s.heap.DictOf (bS X.prog X.w) p vs /\
  (∀k,(∀z,xW kvs k=θ z->∃u,RelV (vV z) u/\sK vs k=θ u)/\(sK vs k).isSome=(xW kvs k).isSome):=by
 obtain⟨o,es,ep,h1,h2,h3,h4,h5⟩:=h;obtain⟨vs,p1,p2,p3,p4⟩:=h4.pairs (P:=X.prog) (w:=X.w);exact⟨vs,⟨o,es,ep,I.NR _ o h1,h2,h3,λe he=>p4 e (by simpa using he),p1,by rw[p2];exact h5⟩,p3⟩
noncomputable def SJ:D->Bool
 |.Lx _=>ζ
 |.LJ _=>ζ
 |_=>ε
theorem xJ {E:Value->ρ->Prop}{σ:L2.St}{d1 d2:D}{x:V}{v:Value}{G1 G2:List Addr}{b:Bool}{Q:Value->ρ->Prop}(hu:A.units+1<cLine)(I:Inv X pins σ H s)(r1:Rep X.K H d1 x G1)(r2:Rep X.K H d2 y G2)(rx:RelV x v)(ry:RelV y u)(hm:SJ d2=ζ)(hb:inD d1 d2=θ b) :
  ((∀s',Inv X pins σ H s'->Q (.bool b) s')->Ε (Ζ X.prog X.w) A (kt .In v u) Q E s)/\((∀s',Inv X pins σ H s'->Q (.bool (!b)) s')->Ε (Ζ X.prog X.w) A (kt .NotIn v u) Q E s):=by
 cases r2 with
 |@Lx p ks xs hr kr=>
  have inv:∃k,d1=.int k/\b=ks.any λq=>decide (q.1=k):=by
   cases d1 with
   |int k=>cases hb;exact⟨_,rfl,rfl⟩
   |_=>cases hb
  obtain⟨k,rfl,rfl⟩:=inv;obtain⟨rfl,rfl⟩:=r1.int_inv;obtain rfl:u=.ref p:=ry;have g:FW H p (.int k) (oX xs (.inl k)):=⟨xs,.inl k,.inl hr,rfl,rfl⟩;have e:(oX xs (.inl k)).isSome=ks.any λq=>decide (q.1=k):=by rw[<-uy,kr.any]
  exact⟨λh=>UG hu I g rx (by rw[e];exact h),λh=>De hu I g rx (by rw[e];exact h)⟩
 |LJ _ _=>cases hb
 |_=>cases hm
theorem xA (op:XU)(hx:X.A.units+40<cLine/\xj X.w X.K):mI X (kt op) (D4 X.K λx y=>(mE op x y).map .bl):=by
 have hu:=hx.1;intro pins s σ H x y v u Q I rx ry h;obtain⟨d1,d2,d,G,rs,hd,k⟩:=h;obtain⟨G1,G2,r1,r2,rfl⟩:=rs.inv2;rw[ae] at hd;obtain⟨b,hb,rfl⟩:=hd;have fin:Q (.bl b) H:=k _ H [] (.bl b) kT.nil;have ep:∀c,c=b->EP X pins σ Q (.bool c) s:=λc e=>⟨.bl b,H,I,by rw[e];rfl,fin⟩
 have Mk:∀{f:Int->Int->Bool},(∀i j,mE op (.int i) (.int j)=θ (f i j))->(∀d1 d2,(∀i j,¬ (d1=.int i/\d2=.int j))->mE op d1 d2=η)->mI X (kt op) (zq λi j=>.bl (f i j))->Ε (Ζ X.prog X.w) X.A (kt op v u) (EP X pins σ Q) X.xe s:=by
  intro f h1 h2 ho;by_cases hi:∃i j,d1=.int i/\d2=.int j
  .obtain⟨i,j,rfl,rfl⟩:=hi;rw[h1] at hb;cases hb;obtain⟨rfl,rfl⟩:=r1.int_inv;obtain⟨rfl,rfl⟩:=r2.int_inv;exact ho pins s σ H _ _ v u Q I rx ry ⟨i,j,rfl,rfl,fin⟩
  .rw[h2 d1 d2 λi j z=>hi ⟨i,j,z⟩] at hb;cases hb
 have N1:∀(op:XU),(op = .Gt\/op = .GtE\/op = .Lt\/op = .LtE)->∀d1 d2:D,(∀i j,¬ (d1=.int i/\d2=.int j))->mE op d1 d2=η:=by
  intro op ho d1 d2 hn;cases d1 with
  |int i=>
   cases d2 with
   |int j=>exact absurd ⟨rfl,rfl⟩ (hn i j)
   |_=>rcases ho with rfl|rfl|rfl|rfl<;>rfl
  |_=>rcases ho with rfl|rfl|rfl|rfl<;>rfl
 cases op with
 |Lt=>exact Mk (λ_ _=>rfl) (N1 .Lt (.inr (.inr (.inl rfl)))) JB
 |LtE=>exact Mk (λ_ _=>rfl) (N1 .LtE (.inr (.inr (.inr rfl)))) JH
 |Gt=>exact Mk (λ_ _=>rfl) (N1 .Gt (.inl rfl)) JZ
 |GtE=>exact Mk (λ_ _=>rfl) (N1 .GtE (.inr (.inl rfl))) Kk
 |Eq=>
  have hb:D.Lq 40 d1 d2=θ b:=hb;exact (xq I 40 X.A d1 d2 x y G1 G2 v u b hu r1 r2 rx ry hb).1 _ _ _ _ (ep b rfl)
 |NotEq=>
  have hb:(D.Lq 40 d1 d2).map (!·)=θ b:=hb;rw[ae] at hb;obtain⟨c,hc,rfl⟩:=hb;exact Jg I 40 X.A d1 d2 x y G1 G2 v u c hu r1 r2 rx ry hc _ _ _ _ (ep _ rfl)
 |Is=>cases hb
 |IsNot=>cases hb
 |In=>
  have hb:inD d1 d2=θ b:=hb;cases d2 with
  |lst ys=>
   obtain⟨hc,hb⟩:=zt hb;cases hb;rw[aj] at hc;obtain⟨p,vs,g,rfl,rfl,a1,a2⟩:=r2.lst_inv;refine yb pins s σ H _ _ v u Q I rx ry ⟨p,vs,rfl,.inl (.inl a1),pU r1 hc.1,nt a2 hc.2,?_⟩;rw[vI r1 hc.1 a2 hc.2];exact fin
  |Lx ks=>exact (xJ (by omega) I r1 r2 rx ry rfl hb).1 λs' I'=>⟨.bl b,H,I',rfl,fin⟩
  |_=>cases hb
 |NotIn=>
  have hb:(inD d1 d2).map (!·)=θ b:=hb;rw[ae] at hb;obtain⟨c,hi,rfl⟩:=hb;clear hb;cases d2 with
  |lst ys=>
   obtain⟨hc,hi⟩:=zt hi;cases hi;rw[aj] at hc;obtain⟨p,vs,g,rfl,rfl,a1,a2⟩:=r2.lst_inv;refine rO pins s σ H _ _ v u Q I rx ry ⟨p,vs,rfl,.inl (.inl a1),pU r1 hc.1,nt a2 hc.2,?_⟩;rw[vI r1 hc.1 a2 hc.2];exact fin
  |Lx ks=>exact (xJ (by omega) I r1 r2 rx ry rfl hi).2 λs' I'=>⟨.bl _,H,I',rfl,fin⟩
  |_=>cases hi
theorem A8 (n:Nat)(i:Int):Pc.kQ n i=L2.kQ n i:=rfl
theorem Dq (hx:xj X.w X.K):DT X (Jv X.K):=by
 intro value slice pins s σ H x y v u Q I rx ry h hs;obtain⟨d1,d2,d,G,rs,hd,k⟩:=h;obtain⟨G1,G2,r1,r2,rfl⟩:=rs.inv2;cases d2 with
 |int i=>
  obtain⟨rfl,rfl⟩:=r2.int_inv;rw[bc] at k;have seq:∀{xs:List D}{vs:List V}{g:List Addr},aK X.K H xs vs g->((kQ xs.length i).bind λj=>xs[j]?)=θ d->∃w g',E9 vs i=θ w/\Rep X.K H d w g'/\g'.Sublist g:=λ{xs vs g} r e=>by
   rw[ah] at e;obtain⟨j,e1,e2⟩:=e;obtain⟨w,g',a,b,c⟩:=r.get e2;refine⟨w,g',?_,b,c⟩;unfold E9;rw[<-r.len,<-A8,e1];exact a
  cases d1 with
  |lst xs=>
   obtain⟨p,vs,g,rfl,rfl,a1,a2⟩:=r1.lst_inv;obtain⟨w,g',e1,e2,e3⟩:=seq a2 hd;exact xy value slice pins s σ H _ _ v u Q I rx ry ⟨p,vs,i,w,rfl,rfl,.inl a1,e1,k w g' e2 (e3.trans (List.sublist_cons_self _ _))⟩ hs
  |tup xs=>
   obtain⟨p,vs,rfl,a1,a2⟩:=r1.Lk;obtain⟨w,g',e1,e2,e3⟩:=seq a2 hd;exact z9 value slice pins s σ H _ _ v u Q I rx ry ⟨p,vs,i,w,rfl,rfl,a1,e1,k w g' e2 e3⟩ hs
  |Mp kvs=>
   cases r1 with
   |Mp hp=>
    have hd:(xW kvs (wT i)).map Rv=θ d:=hd;rw[ae] at hd;obtain⟨z,hz,rfl⟩:=hd;cases rx;obtain⟨t,rfl⟩:=ry;obtain⟨vs,dd,p3⟩:=Fp hx I hp;obtain⟨u',ru,hu⟩:=(p3 (.inl i)).1 z hz;have fin:EP X pins σ Q u' { s with toks:=s.toks+1 }:=⟨vV z,H,I.tok _,ru,k _ [] (Eb z) (Zt _)⟩;exact Ch (x:=u') dd.mapOf.typeIs í.lookup (ù (Q:=λr s'=>r=u'/\EP X pins σ Q r s') (iD X.prog X.w i t) dd.mapOf hu ⟨rfl,fin⟩) hs
  |LJ ks=>
   cases r1 with
   |@LJ p _ xs ob hr kr=>
    have hd:(ks.find? λq=>decide (q.1=i)).map (λq=>Q2 q.2)=θ d:=hd;rw[ae] at hd;obtain⟨e,he,rfl⟩:=hd;obtain⟨v',hv',mr⟩:=kr.val i he;cases rx;obtain⟨t,rfl⟩:=ry;obtain⟨z,lo,vs,rel,dd⟩:=uG I.Ll (.inr ⟨_,hr⟩);obtain⟨u',hu,ru⟩:∃u',sK vs (.inl i)=θ u'/\RelV v' u':=by
     have:=rel.val (.inl i);rw[hv'] at this;cases q:sK vs (.inl i) with
     |none=>rw[q] at this;exact this.elim
     |some u'=>rw[q] at this;exact⟨u',rfl,this⟩
    have fin:EP X pins σ Q u' { s with toks:=s.toks+1 }:=⟨v',H,I.tok _,ru,k _ [] mr.rep (Zt _)⟩;exact Ch (x:=u') dd.mapOf.typeIs í.lookup (ù (Q:=λr s'=>r=u'/\EP X pins σ Q r s') (iD X.prog X.w i t) dd.mapOf hu ⟨rfl,fin⟩) hs
  |_=>cases hd
 |_=>cases d1<;>cases hd
end
variable {E:XK}{F:Nat->List Addr}{Q:VK}{e:Expr}{i:Nat}{x:Str}
section
variable {X:Cx}{T:Tb}{a b c:Expr}{ca cb cc:Ex}{pos:GE}
theorem FC (hN:X.N[i]? = θ x)(hv:Cs X.env.scope x)(hd:(x==("__debug__" : Str))=ε) (Mh:(x==("__classdict__" : Str))=ε):PE X (.Name x pos) (tE X.K T (.var i)):=by
 refine bX (rR hN hv hd Mh) λσ H Q ⟨P,env,F,re,p,Lf,k⟩=>?_
 unfold ev at Lf;cases hs:env[i]? with
 |none=>rw[hs] at Lf;cases Lf
 |some o=>
  cases o with
  |none=>rw[hs] at Lf;cases Lf
  |some q=>
   obtain⟨d,t⟩:=q;rw[hs] at Lf;simp only[Rs.ok.injEq] at Lf;subst Lf;obtain⟨v,e1,rp⟩:=re.val i d t hs;refine⟨v,e1,k v H (F i) (aN.refl _) rp ?_⟩;cases hf:d.flat with
   |true=>
    rw[rp.flat hf];exact cA.nil
   |false=>
    simp only[a8,if_false];have ow:bK t=ζ->cA env F H (.mv [i]) H (F i):=λo=>by
     obtain⟨n1,n2,n3⟩:=re.one i d t hs o;refine⟨λa ha=>.inr ⟨i,d,t,ha,hs,λq hq=>by cases t<;>simp_all [bG,bK,Rt.roots]⟩,λR e=>?_⟩;cases e;exact⟨n1,n2,λa ha=>.inr ⟨i,d,t,by simp,ha,hs,o⟩⟩
    cases t with
    |own=>exact ow rfl
    |lk=>exact ow rfl
    |sh R=>exact⟨λa ha=>.inr ⟨i,d,.sh R,ha,hs,λq hq=>hq⟩,λR' e=>by cases e⟩
theorem kj (h:PE X e (tC v))(hr:∀H,Rep X.K H d v []):PE X e (tE X.K T (.cst d)):=by
 refine bX h λσ H Q ⟨P,env,F,re,p,Lf,k⟩=>?_
 unfold ev at Lf;cases Lf;exact k v H [] (aN.refl _) (hr H) cA.nil
theorem GK (h:PE X e (tC v))(hr:∀H,Rep X.K H (T.gl i) v []):PE X e (tE X.K T (.MM i)):=by
 refine bX h λσ H Q ⟨P,env,F,re,p,Lf,k⟩=>?_
 unfold ev at Lf;cases Lf;exact k v H [] (aN.refl _) (hr H) cA.nil
theorem Fy (ha:PE X a (tE X.K T ca)):PE X (.UnaryOp .USub a pos) (tE X.K T (.neg ca)):=by
 refine bX (IT HB ha) λσ H Q ⟨P,env,F,re,p,Lf,k⟩=>?_
 unfold ev at Lf;obtain⟨q,h1,Lf⟩:=Rs.Le Lf;refine⟨P,env,F,re,q,h1,λv H1 G s rp rt=>?_⟩;cases hq:q.1 with
 |int i=>
  rw[hq] at Lf rp;cases Lf;obtain⟨rfl,rfl⟩:=rp.int_inv;exact⟨i,rfl,k _ H1 [] s (.int _) cA.nil⟩
 |_=>rw[hq] at Lf;cases Lf
theorem Fw {op:XU}(hu:X.A.units+40<cLine/\xj X.w X.K)(ha:PE X a (tE X.K T ca))(hb:PE X b (tE X.K T cb))(hm:xz op b=ε):PT X (.Compare a [op] [b] pos) (pX X.K T (.cmp op ca cb)):=by
 refine wm (DD (xA op hu) ha hb hm) λσ H Q ⟨P,env,F,re,p0,bb,Lf,ht,k⟩=>?_
 unfold ev at Lf;obtain⟨p,h1,Lf⟩:=Rs.Le Lf;obtain⟨q,h2,Lf⟩:=Rs.Le Lf;obtain⟨d,h3,Lf⟩:=Rs.Le Lf;have h3:=dF h3;cases Lf;obtain rfl:d=bb:=eo ht;refine two re h1 h2 λx y H2 G ar=>⟨p.1,q.1,.bl d,G,ar.Ls,by simp[h3],λv H' G' rp nv=>?_⟩
 obtain⟨rfl,_⟩:=rp.LI;exact⟨d,rfl,k H' (ar.same.trans nv.same)⟩
variable {rest:List Expr}
theorem Fo (ha:PE X a (tE X.K T ca))(hb:PE X (.BoolOp .And (b::rest) pos) (tE X.K T cb)):PE X (.BoolOp .And (a::b::rest) pos) (tE X.K T (.and ca cb)):=by
 refine bX (FU ha hb) λσ H Q ⟨P,env,F,re,p,Lf,k⟩=>?_
 unfold ev at Lf;obtain⟨q,h1,Lf⟩:=Rs.Le Lf;refine⟨P,env,F,re,q,h1,λv H1 G s rp rt=>?_⟩;cases hq:q.1 with
 |bl kb=>
  rw[hq] at Lf rp;obtain⟨rfl,rfl⟩:=rp.LI;cases kb with
  |true=>exact⟨ζ,rfl,by rw[if_pos rfl];exact⟨P,env,F,re.same s,p,Lf,λv H' G s' M7 Np=>k v H' G (s.trans s') M7 (Np.back s)⟩⟩
  |false=>
   cases Lf;exact⟨ε,rfl,by rw[if_neg ba];exact k _ H1 [] s (.bl _) cA.nil⟩
 |_=>rw[hq] at Lf;cases Lf
theorem Jj (ha:PE X a (tE X.K T ca))(hb:PE X (.BoolOp .Or (b::rest) pos) (tE X.K T cb)):PE X (.BoolOp .Or (a::b::rest) pos) (tE X.K T (.or ca cb)):=by
 refine bX (Jx ha hb) λσ H Q ⟨P,env,F,re,p,Lf,k⟩=>?_
 unfold ev at Lf;obtain⟨q,h1,Lf⟩:=Rs.Le Lf;refine⟨P,env,F,re,q,h1,λv H1 G s rp rt=>?_⟩;cases hq:q.1 with
 |bl kb=>
  rw[hq] at Lf rp;obtain⟨rfl,rfl⟩:=rp.LI;cases kb with
  |false=>exact⟨ε,rfl,by rw[if_neg ba];exact⟨P,env,F,re.same s,p,Lf,λv H' G s' M7 Np=>k v H' G (s.trans s') M7 (Np.back s)⟩⟩
  |true=>
   cases Lf;exact⟨ζ,rfl,by rw[if_pos rfl];exact k _ H1 [] s (.bl _) cA.nil⟩
 |_=>rw[hq] at Lf;cases Lf
theorem He (ha:PE X a (tE X.K T ca)):PE X (.UnaryOp .Not a pos) (tE X.K T (.not ca)):=by
 refine bX (Hg ha) λσ H Q ⟨P,env,F,re,p,Lf,k⟩=>?_
 unfold ev at Lf;obtain⟨q,h1,Lf⟩:=Rs.Le Lf;refine⟨P,env,F,re,q,h1,λv H1 G s rp rt=>?_⟩;cases hq:q.1 with
 |bl kb=>
  rw[hq] at Lf rp;obtain⟨rfl,rfl⟩:=rp.LI;cases Lf;exact⟨kb,rfl,k _ H1 [] s (.bl _) cA.nil⟩
 |_=>rw[hq] at Lf;cases Lf
theorem G9 (ha:PT X a (pX X.K T ca))(hb:PW X (.BoolOp .And (b::rest) pos) (pX X.K T cb)):PW X (.BoolOp .And (a::b::rest) pos) (pX X.K T (.and ca cb)):=by
 intro wh pins s σ H Q I h;refine Hq ha hb wh pins s σ H Q I ?_;obtain⟨P,env,F,re,p,bb,Lf,ht,k⟩:=h;unfold ev at Lf;obtain⟨q,h1,Lf⟩:=Rs.Le Lf;cases hq:q.1 with
 |bl kb=>
  rw[hq] at Lf;cases kb with
  |true=>exact⟨P,env,F,re,q,ζ,h1,by rw[hq];rfl,λH' s=>by show if ζ=ζ then _ else _;rw[if_pos rfl];exact⟨P,env,F,re.same s,p,bb,Lf,ht,λH2 s2=>k H2 (s.trans s2)⟩⟩
  |false=>
   cases Lf;cases ht;exact⟨P,env,F,re,q,ε,h1,by rw[hq];rfl,λH' s=>by show if ε=ζ then _ else _;rw[if_neg ba];exact k H' s⟩
 |_=>rw[hq] at Lf;cases Lf
theorem Kf (ha:PT X a (pX X.K T ca))(hb:PW X (.BoolOp .Or (b::rest) pos) (pX X.K T cb)):PW X (.BoolOp .Or (a::b::rest) pos) (pX X.K T (.or ca cb)):=by
 intro wh pins s σ H Q I h;refine Jb ha hb wh pins s σ H Q I ?_;obtain⟨P,env,F,re,p,bb,Lf,ht,k⟩:=h;unfold ev at Lf;obtain⟨q,h1,Lf⟩:=Rs.Le Lf;cases hq:q.1 with
 |bl kb=>
  rw[hq] at Lf;cases kb with
  |false=>exact⟨P,env,F,re,q,ε,h1,by rw[hq];rfl,λH' s=>by show if ε=ζ then _ else _;rw[if_neg ba];exact⟨P,env,F,re.same s,p,bb,Lf,ht,λH2 s2=>k H2 (s.trans s2)⟩⟩
  |true=>
   cases Lf;cases ht;exact⟨P,env,F,re,q,ζ,h1,by rw[hq];rfl,λH' s=>by show if ζ=ζ then _ else _;rw[if_pos rfl];exact k H' s⟩
 |_=>rw[hq] at Lf;cases Lf
theorem HF (ha:PT X a (pX X.K T ca)):PT X (.UnaryOp .Not a pos) (pX X.K T (.not ca)):=by
 refine wm (Gd ha) λσ H Q ⟨P,env,F,re,p,bb,Lf,ht,k⟩=>?_
 unfold ev at Lf;obtain⟨q,h1,Lf⟩:=Rs.Le Lf;cases hq:q.1 with
 |bl kb=>
  rw[hq] at Lf;cases Lf;cases ht;exact⟨P,env,F,re,q,kb,h1,by rw[hq];rfl,λH' s=>k H' s⟩
 |_=>rw[hq] at Lf;cases Lf
theorem Et {b:Bool}(rp:Rep K H d v G)(h:truth d=θ b):Gn K v H b:=by
 cases rp with
 |Mp _=>cases h
 |Lx _=>cases h
 |LJ _=>cases h
 |Lj=>cases h;rfl
 |bl c=>cases h;rfl
 |int i=>cases h;rfl
 |str z=>
  simp only[truth] at h;by_cases hl:z.length<=lim
  .rw[if_pos hl] at h;cases h;exact⟨pW hl,rfl⟩
  .rw[if_neg hl] at h;cases h
 |lst a r=>
  rename_i vs ds g;cases h;refine .inl ⟨vs,.inl a,?_⟩;have:=r.len;cases ds<;>cases vs<;>simp_all
 |tup a r=>
  rename_i vs ds;cases h;refine .inr (.inl ⟨vs,a.sq,?_⟩);have:=r.len;cases ds<;>cases vs<;>simp_all
theorem dQ (h:PE X e (tE X.K T ca))(he:∀whole,isTrue e X.env whole=(do let v <- whole;Ą e.pos;Yy [v] (truthy v))):PT X e (pX X.K T ca):=by
 refine wm (Bn h he) λσ H Q ⟨P,env,F,re,p,bb,Lf,ht,k⟩=>?_
 exact⟨P,env,F,re,p,Lf,λv H' G s rp rt=>⟨bb,Et rp ht,k H' s⟩⟩
theorem HI (hc:PT X c (pX X.K T cc))(ha:PE X a (tE X.K T ca))(hb:PE X b (tE X.K T cb)):PE X (.IfExp c a b pos) (tE X.K T (.ite cc ca cb)):=by
 refine bX (Cg hc ha hb) λσ H Q ⟨P,env,F,re,p,Lf,k⟩=>?_
 unfold ev at Lf;obtain⟨q,h1,Lf⟩:=Rs.Le Lf;obtain⟨kb,h2,Lf⟩:=Rs.Le Lf;refine⟨P,env,F,re,q,kb,h1,dF h2,λH' s=>?_⟩;cases kb with
 |true=>rw[if_pos rfl];exact⟨P,env,F,re.same s,p,Lf,λv H2 G s' M7 Np=>k v H2 G (s.trans s') M7 (Np.back s)⟩
 |false=>rw[if_neg ba];exact⟨P,env,F,re.same s,p,Lf,λv H2 G s' M7 Np=>k v H2 G (s.trans s') M7 (Np.back s)⟩
variable {es:List Expr}{cs:nV}
theorem vB:PA X [] (qL X.K T .nil):=by
 refine AB pM λσ H Q ⟨P,env,F,re,l,Lf,k⟩=>?_
 unfold bL at Lf;cases Lf;exact k [] H [] (.nil (aN.refl _))
theorem og (ha:PE X a (tE X.K T ca))(hr:PA X es (qL X.K T cs))(hs:Ι (a::es) X.env=(ε,eval a X.env)::Ι es X.env):PA X (a::es) (qL X.K T (.cons ca cs)):=by
 refine AB (dM ha hr hs) λσ H Q ⟨P,env,F,re,l,Lf,k⟩=>?_
 unfold bL at Lf;obtain⟨p,h1,Lf⟩:=Rs.Le Lf;obtain⟨q,h2,Lf⟩:=Rs.Le Lf;cases Lf;exact⟨P,env,F,re,p,h1,λv H1 G s rp rt=>⟨P,env,F,re.same s,q,h2,λvs H2 G' ar=>k (v::vs) H2 _ (.cons s rp rt ar)⟩⟩
theorem cA.Pd {env:En}{H1:Hp}{r:Rt}(h:cA env F H r H1 G)(e:aN H H1)(hp:H1 p=η)(hl:∀a∈G,H1 a≠η):cA env F H r (upd H1 p (.lst vs)) (p::G) where
 cont:=λa ha=>by
  rcases fe.mp ha with rfl|ha
  .exact .inl (aN.no e hp)
  .exact h.cont a ha
 mv:=λR hr=>by
  obtain⟨a,b,c⟩:=h.mv R hr;refine⟨jy.mpr ⟨λz=>hl p z hp,a⟩,λx hx=>?_,λx hx=>?_⟩
  .rcases fe.mp hx with rfl|hx
   .exact⟨.l _,bH⟩
   .obtain⟨ws,q⟩:=b x hx;exact⟨ws,aN.new hp _ _ q⟩
  .rcases fe.mp hx with rfl|hx
   .exact .inl (aN.no e hp)
   .exact c x hx
theorem HH (h:PA X es (qL X.K T cs)):PE X (.List es pos) (tE X.K T (.lst cs)):=by
 refine bX (GU h) λσ H Q ⟨P,env,F,re,p,Lf,k⟩=>?_
 unfold ev at Lf;obtain⟨l,h1,Lf⟩:=Rs.Le Lf;by_cases hl:l.length<=lim
 .rw[if_pos hl] at Lf;cases Lf;refine⟨P,env,F,re,l,h1,λvs H1 G ar=>?_⟩;have rs:=ar.Ls;have hlen:=rs.len;rw[ai] at hlen;refine⟨by rw[<-hlen];exact pW hl,λq hq=>?_⟩;have e:=aN.new (o:=.lst vs) hq;exact k _ _ (q::G) (ar.same.trans e) (.lst (.inl bH) (rs.same e)) ((ar.comb re).Pd ar.same hq λa ha=>rs.nn ha)
 .rw[if_neg hl] at Lf;cases Lf
theorem Fs {x1:Nat}(h:PA X es (qL X.K T cs)):PE X (.Tuple es x1 pos) (tE X.K T (.tup cs)):=by
 refine bX (Gm h) λσ H Q ⟨P,env,F,re,p,Lf,k⟩=>?_
 unfold ev at Lf;obtain⟨l,h1,Lf⟩:=Rs.Le Lf;by_cases hl:l.length<=lim
 .rw[if_pos hl] at Lf;cases Lf;refine⟨P,env,F,re,l,h1,λvs H1 G ar=>?_⟩;have rs:=ar.Ls;have hlen:=rs.len;rw[ai] at hlen;refine⟨by rw[<-hlen];exact pW hl,λq hq=>?_⟩;have e:=aN.new (o:=.tup vs) hq;exact k _ _ G (ar.same.trans e) (.tup (.inl bH) (rs.same e)) ((ar.comb re).later e)
 .rw[if_neg hl] at Lf;cases Lf
def DL (K:Frag)(n:Nat)(f:List D->Rs (D×Bool)):Sp:=λvs H Q E=>∃ds G,ds.length=n/\aK K H ds vs G/\∃r,f ds=.ok r/\∀v H' G',aN H H'->Rep K H' r.1 v G'->(∀a∈G',H a=η\/a∈G)->(r.2=ζ->G'.Nodup/\∀a∈G',H a=η/\∃vs:ML,H' a=θ vs.o)->Q v H'
theorem mw {f:List D->Rs (D×Bool)}(h:DL K n f vs H Q E):vs.length=n:=by
 obtain⟨ds,G,h1,h2,_⟩:=h;rw[<-h1,h2.len]
theorem rz {f:Nat}{σ:L2.St}(hn:∀ds r,T.cl f ds=.ok r->ds.length=n)(h:tE X.K T (.call f cs) σ H Q):qx (DL X.K n (T.cl f)) [] E0 (qL X.K T cs) σ H Q:=by
 obtain⟨P,env,F,re,p,Lf,k⟩:=h;unfold ev at Lf;obtain⟨l,h1,Lf⟩:=Rs.Le Lf;obtain⟨r,h2,Lf⟩:=Rs.Le Lf;cases Lf;refine⟨P,env,F,re,l,h1,λvs H1 G ar=>?_⟩;show DL X.K n (T.cl f) (vs ++ []) H1 Q E0;rw[bc];refine⟨l.map (·.1),G,hn _ _ h2,ar.Ls,r,h2,λv H' G' s rp sub fr=>k v H' G' (ar.same.trans s) rp ?_⟩;cases hr:r.2 with
 |true=>
  obtain⟨a,b⟩:=fr hr;have c:∀x∈G',H x=η:=λx hx=>aN.no ar.same (b x hx).1
  exact⟨λx hx=>.inl (c x hx),λR e=>⟨a,λx hx=>(b x hx).2,λx hx=>.inl (c x hx)⟩⟩
 |false=>
  refine⟨λx hx=>?_,λR e=>by cases e⟩;rcases sub x hx with q|q
  .exact .inl (aN.no ar.same q)
  .exact ar.cont x q
end
def pZ (K:Frag)(b:Cz):List V->Hp->VK->Prop:=λxs H Q=>∃ds d G,aK K H ds xs G/\kS b ds=θ d/\∀v H' G',Rep K H' d v G'->kT H H' G d G'->Q v H'
variable {cs:nV}{us:List Value}
section
variable {X:Cx}{T:Tb}
theorem tN {b:Cz}{σ:L2.St}(h:tE X.K T (.blt b cs) σ H Q):QM (pZ X.K b) (qL X.K T cs) σ H Q:=by
 obtain⟨P,env,F,re,p,Lf,k⟩:=h;unfold ev at Lf;obtain⟨l,h1,Lf⟩:=Rs.Le Lf;obtain⟨d,h2,Lf⟩:=Rs.Le Lf;cases Lf;exact⟨P,env,F,re,l,h1,λvs H1 G ar=>⟨l.map (·.1),d,G,ar.Ls,dF h2,λv H' G' rp nv=>k v H' G' (ar.same.trans nv.same) rp (cA.new ar nv λ_ z=>z)⟩⟩
theorem aK.Mu (h:aK K H [d] xs G):∃x,xs=[x]/\Rep K H d x G:=by
 cases h with
 |cons r s=>cases s;exact⟨_,rfl,by rw[bc];exact r⟩
theorem zf:gW X (.builtin "len") (pZ X.K .len):=by
 intro pins s σ H xs us Q I r h;obtain⟨ds,d,G,rs,hd,k⟩:=h
 match ds,hd with
 |[.lst ys],hd=>
  cases hd;obtain⟨x,rfl,rp⟩:=rs.Mu;obtain⟨p,vs,g,rfl,rfl,a1,a2⟩:=rp.lst_inv;exact lL pins s σ H _ us Q I r ⟨p,vs,rfl,.inl (.inl a1),by rw[<-a2.len];exact k _ H [] (.int _) kT.nil⟩
 |[.tup ys],hd=>
  cases hd;obtain⟨x,rfl,rp⟩:=rs.Mu;obtain⟨p,vs,rfl,a1,a2⟩:=rp.Lk;exact lL pins s σ H _ us Q I r ⟨p,vs,rfl,.inr a1,by rw[<-a2.len];exact k _ H [] (.int _) kT.nil⟩
theorem tT {σ:L2.St}(I:Inv X pins σ H s)(r:aT xs us)(rs:aK X.K H ds xs G)(hd:kS .list ds=θ d)(k:∀v H' G',Rep X.K H' d v G'->kT H H' G d G'->Q v H')(hn:∀ks,ds≠[.Lx ks]):Ε (Ζ X.prog X.w) X.A (call (.type "list") us) (EP X pins σ Q) X.xe s:=by
 match ds,hd with
 |[.Lx ks],hd=>exact absurd rfl (hn ks)
 |[.lst ys],hd=>
  cases hd;obtain⟨x,rfl,rp⟩:=rs.Mu;obtain⟨p,vs,g,rfl,rfl,a1,a2⟩:=rp.lst_inv;refine lT pins s σ H _ us Q I r ⟨p,vs,rfl,.inl (.inl a1),λl hl=>?_⟩;obtain⟨n1,n2⟩:=k9 (G0:=p::g) a2 (λa ha=>aa _ ha) hl;exact k _ _ _ n1 n2
 |[.tup ys],hd=>
  cases hd;obtain⟨x,rfl,rp⟩:=rs.Mu;obtain⟨p,vs,rfl,a1,a2⟩:=rp.Lk;refine lT pins s σ H _ us Q I r ⟨p,vs,rfl,.inr a1,λl hl=>?_⟩;obtain⟨n1,n2⟩:=k9 (G0:=G) a2 (λa ha=>ha) hl;exact k _ _ _ n1 n2
theorem zc:gW X (.builtin "abs") (pZ X.K .abs):=by
 intro pins s σ H xs us Q I r h;obtain⟨ds,d,G,rs,hd,k⟩:=h
 match ds,hd with
 |[.int i],hd=>
  cases hd;obtain⟨x,rfl,rp⟩:=rs.Mu;obtain⟨rfl,rfl⟩:=rp.int_inv;exact Bi pins s σ H _ us Q I r ⟨i,rfl,k _ H [] (.int _) kT.nil⟩
end
def lH (K:Frag)(P:Addr->Prop)(H0:Hp)(J:It)(ds:List D)(G:List Addr):Prop:=∀H,jV P H0 H->(∀(i:Nat) (d:D),ds[i]? = θ d->J.go i H/\∀x H',J.Pe i H x H'->aN H H'/\∃G',Rep K H' d x G'/\∀a∈G',a∈G)/\J.stop ds.length H
noncomputable def tI (K:Frag)(T:Tb)(it:tX):TI:=λσ H R=>∃P env F,RE K P env σ H F/\∃p,fU T it env=.ok p/\∀J H' G,aN H H'->cA env F H (.sh p.2) H' G->(∀a∈G,H' a≠η)->(∀P',(∀a∈G,P' a)->lH K P' H' J p.1 G)->R J H'
variable {H0:Hp}
theorem yJ {P:Addr->Prop}(h1:Rd H0 p (.lst vs))(h2:aK K H0 ds vs G)(hp:∀a∈p::G,P a):lH K P H0 (VF K p) ds (p::G):=λH e=>by
 have ep:=e.keep p (hp p ag);have Mi:Rd H p (.lst vs):=by
  rcases h1 with q|⟨o,q⟩
  .exact .inl (ep.trans q)
  .exact .inr ⟨o,ep.trans q⟩
 have L1:=e.Ls h2 λa ha=>hp a (aa _ ha)
 refine⟨λi d hd=>?_,⟨vs,.inl Mi,by rw[h2.len];exact au _⟩⟩;obtain⟨v,G',a,b,c⟩:=L1.get hd;refine⟨⟨vs,v,.inl Mi,a⟩,λx H' ⟨e1,e2⟩=>?_⟩;subst e1;have:=e2 vs (.inl Mi);rw[a] at this;cases this;exact⟨aN.refl _,G',b,λz hz=>aa _ (c.subset hz)⟩
theorem zP {P:Addr->Prop}(h1:mK K H0 p vs)(h2:aK K H0 ds vs G)(hp:∀a∈G,P a):lH K P H0 (VE K p) ds G:=λH e=>by
 have Mi:=e.OC h1;have L1:=e.Ls h2 hp;refine⟨λi d hd=>?_,⟨vs,Mi.sq,by rw[h2.len];exact au _⟩⟩;obtain⟨v,G',a,b,c⟩:=L1.get hd;refine⟨⟨vs,v,Mi.sq,a⟩,λx H' ⟨e1,e2⟩=>?_⟩;subst e1;have:=e2 vs Mi.sq;rw[a] at this;cases this;exact⟨aN.refl _,G',b,λz hz=>c.subset hz⟩
noncomputable def Rq (xs:List V):It:=⟨λi _=>i<xs.length,λi H x H'=>H'=H/\xs[i]? = θ x,λi _=>xs.length<=i⟩
theorem yB {P:Addr->Prop}(hr:∀H,aK K H ds vs []):lH K P H0 (Rq vs) ds []:=λH e=>by
 have hl:=(hr H).len;refine⟨λi d hd=>?_,by show vs.length<=ds.length;omega⟩;obtain⟨v,G',a,b,c⟩:=(hr H).get hd;refine⟨by show i<vs.length;rw[<-hl];exact (ο.mp hd).1,λx H' ⟨e1,e2⟩=>?_⟩;subst e1;rw[a] at e2;cases e2;exact⟨aN.refl _,G',b,λz hz=>c.subset hz⟩
variable {P:Program}{it:Addr}{tg:Expr}{w:Ν}
theorem ym {Pv:Nat->Value->Prop}{St:Nat->Heap->Prop}(W:∀A:Φ,A.handled=η->ė P w A it [it] [it] xs.length Pv St)(hP:∀i v,Pv i v->∃x,xs[i]? = θ x/\RelV x v)
  (ob:∀i h,St i h->∃o n vs,h.get? it=θ o/\o.cls=.type n/\o.data=.fields vs/\["enumerate","zip","dict_itemiterator","dict_reverseitemiterator","odict_iterator","itertools.zip_longest","itertools.pairwise"].contains n=ε)
  (fr:∀i h h',St i h->(∀o,h.get? it=θ o->h'.get? it=θ o)->St i h') (le:∀i h,St i h->i<=xs.length) (slf:∀(A:Φ) (i:Nat) (s:ρ) (Q E:Value->ρ->Prop),St i s.heap->Q (.ref it) s->Ε (Ζ P w) A (XY (.ref it)) Q E s):Turn P w K tg (Rq xs) [it] it St where
 mem:=by simp
 obj:=λi h st b hb=>by
  have e:b=it:=by simpa using hb
  subst e;obtain⟨o,n,vs,h1,h2,h3,_⟩:=ob i h st;exact⟨o,h1,λv z=>by rw[h3] at z;cases z⟩
 keep:=λi h h' st k=>fr i h h' st λo e=>k it (by simp) o e
 item:=by
  intro X hp hw hK hc i pins s σ H E I hf st hg;subst hp hw hK;obtain⟨f0,f1,f2,f3,f4,f5⟩:=hf it (by simp);refine (W X.A (I.ok.hd hc)).item i s _ _ hg st λv h' tk hv L9 kk=>?_
  obtain⟨x,ex,rx⟩:=hP i v hv;have I1:Inv X pins σ H { s with heap:=h',toks:=tk }:=I.turned (λb o hb e=>kk b o (by simpa using hb) e) f0 f1 f3 f4 f5;obtain⟨o,n,vs,h1,h2,h3,h4⟩:=ob (i+1) h' L9;exact⟨v,rfl,tF (s:={ s with heap:=h',toks:=tk }) (n:=n) h1 h2 h3 h4 ⟨x,H,I1,rx,⟨rfl,ex⟩,L9,λb hb=>(hf b hb).1⟩⟩
 done:=by
  intro X hp hw hK hc i pins s σ H E I hf st hg;subst hp hw hK;obtain⟨f0,f1,f2,f3,f4,f5⟩:=hf it (by simp);have hi:i=xs.length:=Nat.le_antisymm (le i _ st) hg;subst hi;exact (W X.A (I.ok.hd hc)).done s _ _ st λh' tk kk=>⟨rfl,I.turned (λb o hb e=>kk b o (by simpa using hb) e) f0 f1 f3 f4 f5⟩
 self:=λA i s Q E st h=>slf A i s Q E st h
noncomputable def fO (a c:Int)(n:Nat):List V:=(υ n).map λ(i:Nat)=>.int (a+(i:Int)*c)
theorem lF (a c:Int)(n:Nat):(fO a c n).length=n:=by simp[fO]
theorem k6 {K:Frag}{H:Hp}(c:Int):∀(n:Nat) (a:Int),aK K H (cN a c n) (fO a c n) []
 |0,a=>.nil
 |n+1,a=>by
  have e:fO a c (n+1)=.int a::fO (a+c) c n:=by
   unfold fO;rw[YB,av,aw];congr 1
   .simp
   .refine fu λi _=>?_
    simp only[Ę,V.int.injEq,Nat.succ_eq_add_one]
    push_cast
    rw[Int.add_mul];omega
  rw[e];show aK K H (.int a::cN (a+c) c n) _ ([] ++ []);exact .cons (.int a) (k6 c n (a+c))
theorem lU (a b c:Int)(hc:c≠0):0<=Υ a b c:=by
 unfold Υ;split
 .rename_i h;split
  .have:0<=(b-a-1) / c:=ZQ (by omega) (by omega);omega
  .omega
 .split
  .have:0<=(a-b-1) / (-c):=ZQ (by omega) (by omega);omega
  .omega
theorem uJ {a b c:Int}(ha:me a=ζ)(hb:me b=ζ)(hc:c≠0)(hs:c.natAbs<1073741824):X2 a b c=ζ:=by
 unfold me at ha hb;have ha:=bt ha;have hb:=bt hb;have hn:=lU a b c hc;have hu:Υ a b c<2 ^ 63:=by
  unfold Υ;split
  .split
   .have:=ZE (b:=c) (a:=b-a-1) (by omega);omega
   .decide
  .split
   .have:=ZE (b:=-c) (a:=a-b-1) (by omega);omega
   .decide
 unfold X2;simp only[ú,aj,g6,decide_eq_true_eq,beq_iff_eq];refine⟨⟨⟨⟨⟨by omega,by omega⟩,by omega,by omega⟩,by omega,by omega⟩,by omega,hu⟩,.inr ?_⟩;split<;>simp only[aj,decide_eq_true_eq]<;>omega
variable {hi lo:Int}{tk:Nat}
section
variable {X:Cx}{tg:Expr}
theorem qI {σ:L2.St}{R:It->Hp->Prop}{E:Value->ρ->Prop}{c:Int}{t u v:YR}(I:Inv X pins σ H s)(h1:me lo=ζ)(h2:me hi=ζ)(h3:c≠0)(h4:c.natAbs<1073741824)
  (q:R (Rq (fO lo c (Υ lo hi c).toNat)) H):Ε (Ζ X.prog X.w) X.A (XY (.ref s.heap.objs.size)) (Ij X pins σ tg R) E { s with heap:=s.heap.push { cls:=.type "range",data:=.fields #[.int lo t,.int hi u,.int c v] },toks:=tk }:=by
 refine Z1 (Yp ..) (uJ h1 h2 h3 h4) ?_;have I1:Inv X pins σ H { s with heap:=s.heap.push { cls:=.type "range",data:=.fields #[.int lo t,.int hi u,.int c v] },toks:=tk }:=I.kept λb o e=>ψ _ e
 have hn:=lU lo hi c h3;let n:=(Υ lo hi c).toNat;refine⟨(s.heap.push { cls:=.type "range",data:=.fields #[.int lo t,.int hi u,.int c v] }).objs.size,[(s.heap.push { cls:=.type "range",data:=.fields #[.int lo t,.int hi u,.int c v] }).objs.size],
  (λi h=>i<=n/\ZC h (s.heap.push { cls:=.type "range",data:=.fields #[.int lo t,.int hi u,.int c v] }).objs.size (lo+(i:Nat)*c) ((n:Int)-(i:Nat)) c),_,H,rfl,
  I1.kept (t':=tk) λb o e=>ψ _ e,ym (Pv:=λi v=>i<n/\∃t,v=.int (lo+i*c) t) (λA hA=>?_) (λi v hv=>?_) (λi h st=>?_) (λi h h' st k=>⟨st.1,k _ st.2⟩) (λi h st=>by rw[lF];exact st.1) (λA i s Q E st h=>Zj st.2 h),?_,λb hb=>?_,q⟩
 .rw[lF];have W:=å (prog:=X.prog) (w:=X.w) hA (s.heap.push { cls:=.type "range",data:=.fields #[.int lo t,.int hi u,.int c v] }).objs.size lo c n;exact⟨W.sub,λi h h' st k=>⟨st.1,W.frame i h h' st.2 k⟩,λi s Q E hi st hQ=>W.item i s Q E hi st.2 λv h' tk hv L9 kk=>hQ v h' tk ⟨hi,hv⟩ ⟨hi,L9⟩ kk,λs Q E st hQ=>W.done s Q E st.2 hQ,λi s Q E st h=>W.self i s Q E st.2 h⟩
 .obtain⟨Mn,t',rfl⟩:=hv;exact⟨.int (lo+i*c),by unfold fO;rw[π,Ψ Mn];rfl,t',rfl⟩
 .exact⟨_,_,_,st.2,rfl,rfl,by decide⟩
 .refine⟨dn _,?_⟩;have e1:lo+((0:Nat):Int)*c=lo:=by simp
  have e2:((n:Nat):Int)-((0:Nat):Int)=Υ lo hi c:=by omega
  rw[e1,e2];exact Λ _ rfl
 .have e:b=(s.heap.push { cls:=.type "range",data:=.fields #[.int lo t,.int hi u,.int c v] }).objs.size:=by simpa using hb
  subst e;exact I1.Mc (au _) (I1.Ll.fresh (au _))
end
variable {a:Addr}{c:Ex}{es:List Expr}{ks:List (Int×MV)}{pos:GE}
section
variable {X:Cx}{tg:Expr}{T:Tb}{pins:List (Addr×Obj)}{σ:L2.St}{H:Hp}{s:ρ}{R:It->Hp->Prop}{E:Value->ρ->Prop}
theorem DR (I:Inv X pins σ H s)(hq:mL X.K H a xs)(q:R (VF X.K a) H):Ε (Ζ X.prog X.w) X.A (XY (.ref a)) (Ij X pins σ tg R) E s:=by
 obtain⟨its,rv,p,hz⟩:=I.list hq;refine KE p.isList ?_;refine⟨s.heap.objs.size,[s.heap.objs.size],_,_,H,rfl,I.kept (t':=s.toks) λb o e=>ψ _ e,zk a _,⟨_,Λ _ rfl,rfl,rfl⟩,λb hb=>?_,q⟩;have e:b=s.heap.objs.size:=by simpa using hb
 subst e;exact I.Mc (au _) (I.Ll.fresh (au _))
theorem zS (I:Inv X pins σ H s)(hq:rb X.K H a xs)(q:R (VE X.K a) H):Ε (Ζ X.prog X.w) X.A (XY (.ref a)) (Ij X pins σ tg R) E s:=by
 obtain⟨its,rv,p,hz⟩:=I.tuple hq;refine wpAny_pyIter_tuple (show s.heap.IsTuple a its.toArray from p) ?_;refine⟨s.heap.objs.size,[s.heap.objs.size],_,_,H,rfl,I.kept (t':=s.toks) λb o e=>ψ _ e,vF a _,⟨_,Λ _ rfl,rfl,rfl⟩,λb hb=>?_,q⟩;have e:b=s.heap.objs.size:=by simpa using hb
 subst e;exact I.Mc (au _) (I.Ll.fresh (au _))
noncomputable def VH (d:Addr)(o:Obj)(xs:List (Key×V)):It:=⟨λi H=>H d=θ (.L4 o (.dK xs))/\i<xs.length,λi H x H'=>H'=H/\∃kv,xs[i]? = θ kv/\x=kV kv.1,λi H=>H d=θ (.L4 o (.dK xs))/\xs.length<=i⟩
theorem x8 {tg:Expr}{d:Addr}{o:Obj}{xs:List (Key×V)}{vs:List (Key×Value)}{ep:Nat}(Mm:d≠it)(rel:KV xs vs)(Mb:∀h:Heap,h.get? d=θ o->h.DictAt (bS P w) d vs ep):Turn P w K tg (VH d o xs) [it] it (λi h=>i<=vs.length/\h.IsKeyIter it d i vs.length ep) where
 mem:=by simp
 obj:=λi h st b hb=>by
  have e:b=it:=by simpa using hb
  subst e;obtain⟨_,o',h1,h2,h3⟩:=st;exact⟨o',h1,λv z=>by rw[h3] at z;cases z⟩
 keep:=λi h h' st k=>⟨st.1,st.2.at λo e=>k it (by simp) o e⟩
 item:=by
  intro X hp hw hK hc i pins s σ H E I hf st hg;subst hp hw hK;obtain⟨f0,f1,f2,f3,f4,f5⟩:=hf it (by simp);obtain⟨hz,LB⟩:=hg;have ho:s.heap.get? d=θ o:=(I.Ll d _ hz).1;have hl:=rel.length;refine (ZF (I.ok.hd hc) it d Mm vs ep).item i s _ _ (by omega) ⟨st.2,Mb _ ho⟩ λv h' tk hv L9 kk=>?_
  obtain⟨k,x,hx,hk⟩:=hv;have I1:Inv X pins σ H { s with heap:=h',toks:=tk }:=I.turned (λb o hb e=>kk b o (by simpa using hb) e) f0 f1 f3 f4 f5;obtain⟨oi,h1,h2,h3⟩:=L9.1;obtain⟨kv,e1⟩:∃kv,xs[i]? = θ kv:=⟨xs[i],τ LB⟩;have ek:kv.1=k:=by
   have:=fm (λl:List Key=>l[i]?) rel.keys;simp only[π,e1,hx,bw,da] at this;exact this
  have rx:RelV (kV kv.1) v:=by
   rw[ek];rcases cF (show pD k v=ζ from hk) with ⟨i,t,rfl,rfl⟩|⟨x,t,rfl,rfl⟩
   .exact⟨t,rfl⟩
   .exact⟨t,rfl⟩
  exact⟨v,rfl,tF (s:={ s with heap:=h',toks:=tk }) (n:="dict_keyiterator") h1 h2 h3 (by decide) ⟨kV kv.1,H,I1,rx,⟨rfl,kv,e1,rfl⟩,⟨by omega,L9.1⟩,λb hb=>(hf b hb).1⟩⟩
 done:=by
  intro X hp hw hK hc i pins s σ H E I hf st hg;subst hp hw hK;obtain⟨f0,f1,f2,f3,f4,f5⟩:=hf it (by simp);obtain⟨hz,hge⟩:=hg;have ho:s.heap.get? d=θ o:=(I.Ll d _ hz).1;have hl:=rel.length;have hi:i=vs.length:=by have:=st.1;omega
  subst hi;exact (ZF (I.ok.hd hc) it d Mm vs ep).done s _ _ ⟨st.2,Mb _ ho⟩ λh' tk kk=>⟨rfl,I.turned (λb o hb e=>kk b o (by simpa using hb) e) f0 f1 f3 f4 f5⟩
 self:=λA i s Q E st h=>wpAny_pyIter_keyiter st.2 h
theorem C6 {o:Obj}{xs:List (Key×V)}(I:Inv X pins σ H s)(hq:H a=θ (.L4 o (.dK xs)))(q:R (VH a o xs) H):Ε (Ζ X.prog X.w) X.A (XY (.ref a)) (Ij X pins σ tg R) E s:=by
 have ho:s.heap.get? a=θ o:=(I.Ll a _ hq).1;obtain⟨z,lo,vs,rel,dd⟩:=uG I.Ll (.inr ⟨_,hq⟩);obtain⟨ep,o',es,h1,h2⟩:=dd.dictAt;rw[ho] at h1;cases h1;refine wpAny_pyIter_dict lo ⟨o,es,ho,h2⟩ ?_;refine⟨s.heap.objs.size,[s.heap.objs.size],_,_,H,rfl,I.kept (t':=s.toks) λb o e=>ψ _ e,x8 (vs:=vs) (ep:=ep) (bz (ω ho)) rel (λh e=>⟨o,es,e,h2⟩),⟨dn _,⟨_,Λ _ rfl,rfl,rfl⟩⟩,λb hb=>?_,q⟩;have e:b=s.heap.objs.size:=by simpa using hb
 subst e;exact I.Mc (au _) (I.Ll.fresh (au _))
theorem zb {P:Addr->Prop}{o:Obj}{xs:List (Key×V)}(h1:H0 p=θ (.L4 o (.dK xs)))(h2:nR K H0 ks xs):lH K P H0 (VH p o xs) (ks.map λq=>.int q.1) []:=λH e=>by
 have Mi:=e.fz _ _ _ h1;have hl:=h2.len;refine⟨λi d hd=>?_,⟨Mi,by rw[ai];omega⟩⟩;have hi:i<ks.length:=by have:=(ο.mp hd).1;rwa [ai] at this
 refine⟨⟨Mi,by omega⟩,λx H' ⟨e1,kv,e2,e3⟩=>?_⟩;subst e1 e3;refine⟨aN.refl _,[],?_,λa ha=>nomatch ha⟩;rw[π] at hd;have key:∀{ks:List (Int×MV)}{xs:List (Key×V)}{i:Nat}{kv:Key×V}{q:Int×MV},nR K H0 ks xs->xs[i]? = θ kv->ks[i]? = θ q->kv.1=.inl q.1:=by
  intro ks
  induction ks with
  |nil=>intro xs i kv q _ _ h;cases h
  |cons a r ih=>
   intro xs i kv q h e1 e2;cases xs with
   |nil=>cases e1
   |cons x xs=>
    cases i with
    |zero=>cases e1;cases e2;exact h.1
    |succ i=>exact ih h.2.2 e1 e2
 cases hq:ks[i]? with
 |none=>rw[hq] at hd;cases hd
 |some q=>
  rw[hq] at hd;cases hd;rw[key h2 e2 hq];exact .int q.1
theorem AO (h:PE X e (tE X.K T c)):PI X tg e (tI X.K T (.seq c)):=by
 intro pins s σ H R I hq;obtain⟨P,env,F,re,p,Lf,k⟩:=hq;unfold fU at Lf;obtain⟨q,h1,Lf⟩:=Rs.Le Lf;obtain⟨l,h2,Lf⟩:=Rs.Le Lf;have h2:=dF h2;cases Lf;refine dG (h pins s σ H (λv H'=>∃G,aN H H'/\Rep X.K H' q.1 v G/\cA env F H q.2 H' G) I ⟨P,env,F,re,q,h1,λv H' G s rp rt=>⟨G,s,rp,rt⟩⟩) λu s1 ⟨v,H1,I1,r1,G,e,rp,rt⟩=>?_
 have Np:cA env F H (.sh q.2.roots) H1 G:=rt.part (λ_ h=>h) (λ_ h=>h) λR e=>by cases e
 cases hd:q.1 with
 |lst xs=>
  rw[hd] at rp h2;cases h2;obtain⟨a,vs,g,rfl,rfl,a1,a2⟩:=rp.lst_inv;cases r1;exact DR I1 (.inl a1) (k _ H1 (a::g) e Np (λb hb=>rp.nn hb) λP' hP=>yJ a1 a2 hP)
 |tup xs=>
  rw[hd] at rp h2;cases h2;obtain⟨a,vs,rfl,a1,a2⟩:=rp.Ms;cases r1;exact zS I1 a1.sq (k _ H1 G e Np (λb hb=>rp.nn hb) λP' hP=>zP a1 a2 hP)
 |LJ ks=>
  rw[hd] at rp h2;cases h2;cases rp with
  |@LJ a _ xs o hz kr=>
   cases r1;exact C6 I1 hz (k _ H1 [] e Np (λ_ h=>(nomatch h)) λP' hP=>zb hz kr)
 |_=>rw[hd] at h2;cases h2
theorem nN (a b:Int):(Υ a b 1).toNat=(b-a).toNat:=by
 rw[YV];split<;>omega
theorem GY {it:tX}{p:GE}{e0:Expr}{rest:List Expr}(Tw:es=e0::rest)(hg:Gl X "range") (hm:X.mg "range" = η) (ha:PA X es (qL X.K T cs)) (hs:Ι es X.env=(ε,eval e0 X.env)::Ι rest X.env) (LQ:(Do pos (Ι rest X.env)).any (·.1)=ε)
  (hit:∀env p,fU T it env=.ok p->p.2=[]/\∃l,bL T cs env=.ok l/\((∃j,l.map (·.1)=[.int j]/\me j=ζ/\p.1=cN 0 1 j.toNat)\/(∃i j,l.map (·.1)=[.int i,.int j]/\me i=ζ/\me j=ζ/\p.1=cN i 1 (j-i).toNat))) :
  PI X tg (.Call (.Name "range" p) es [] pos) (tI X.K T it):=by
 subst Tw;intro pins s σ H R I hq;obtain⟨P,env,F,re,q,Lf,k⟩:=hq;obtain⟨hq2,l,hl,hc⟩:=hit env q Lf;refine æ (iQ I hg hm Z2 (du (dG (ha pos pins s σ H (λvs H'=>∃G,Args X.K env F H H' l vs G) I ⟨P,env,F,re,l,hl,λvs H' G ar=>⟨G,ar⟩⟩) λus s1 ⟨vs,H1,I1,r1,G,ar⟩=>?_) hs LQ));have rs:=ar.Ls;have fin:∀(a c:Int) (n:Nat),q.1=cN a c n->R (Rq (fO a c n)) H1:=λa c n e=>by
  refine k _ H1 [] ar.same cA.nil (λ_ h=>(nomatch h)) λP' _=>?_
  rw[e];exact yB λH=>k6 c n a
 have one:∀{d:D}{ds:List D}{vs:List V}{us:List Value}{G:List Addr},aK X.K H1 (d::ds) vs G->aT vs us->∀i,d=.int i->∃t Pf NV G',us=.int i t::Pf/\vs=.int i::NV/\aK X.K H1 ds NV G'/\aT NV Pf:=by
  intro d ds vs us G r rv i e;subst e;cases r with
  |cons r rr=>
   obtain⟨rfl,rfl⟩:=r.int_inv;cases rv with
   |cons x y=>
    obtain⟨t,rfl⟩:=x;exact⟨t,_,_,_,rfl,rfl,rr,y⟩
 have nil:∀{vs:List V}{us:List Value}{G:List Addr},aK X.K H1 [] vs G->aT vs us->us=[]:=by
  intro vs us G r rv;cases r;cases rv;rfl
 rcases hc with ⟨j,e1,e2,e3⟩|⟨i,j,e1,e2,e3,e4⟩
 .rw[e1] at rs;obtain⟨t,Pf,NV,G',rfl,_,rs,r1⟩:=one rs r1 j rfl;obtain rfl:=nil rs r1;refine Zk (qI (c:=1) I1 (by decide) e2 (by decide) (by decide) ?_);refine fin _ _ _ ?_;rw[e3,nN];simp
 .rw[e1] at rs;obtain⟨t,Pf,NV,G',rfl,_,rs,r1⟩:=one rs r1 i rfl;obtain⟨t',us'',vs'',Xy,rfl,_,rs,r1⟩:=one rs r1 j rfl;obtain rfl:=nil rs r1;refine call_range_2 (qI (c:=1) I1 e2 e3 (by decide) (by decide) ?_);refine fin _ _ _ ?_;rw[e4,nN]
end
variable {h:Heap}{o':Obj}
theorem BY {o:Obj}{b:Addr}(e:(h.push o).get? b=θ o'):(b=h.objs.size/\o'=o)\/h.get? b=θ o':=by
 obtain⟨e1,e2⟩:=Y7.mp e;by_cases hb:b=h.objs.size
 .left;subst hb;refine⟨rfl,?_⟩;have:(h.push o).objs[h.objs.size]? = θ o:=by cases h;simp[Ì]
  rw[this] at e1;exact (eo e1).symm
 .right;refine Y7.mpr ⟨?_,e2⟩;cases h;simpa[Ì,Array.getElem?_push,hb] using e1
theorem kF {b:Addr}{o:Obj}(e:h.get? a=θ o)(e':h.get? b=θ o')(n:o.cls≠o'.cls):a≠b:=by
 rintro rfl;rw[e] at e';cases e';exact n rfl
theorem iU (b i j:Nat)(h:i≠j):(b+i:Nat)≠b+j:=by omega
theorem jQ (b n i:Nat)(h:b+4<n)(hi:i<=4):b+i<n:=by omega
theorem HN (n b:Nat)(h:b=n+1\/b=n):n<=b:=by omega
theorem Eu (n b:Nat)(h:b=n+4\/b=n+2\/b=n+3\/b=n\/b=n+1):n<=b:=by omega
variable {h':Heap}
section
variable {X:Cx}{pins:List (Addr×Obj)}{σ:L2.St}{H:Hp}{s:ρ}
theorem mm {t':Nat}{ch:List Addr}(I:Inv X pins σ H s)(k:∀b o,b∉ch->s.heap.get? b=θ o->h'.get? b=θ o)(hf:∀b∈ch,kR X pins H b):Inv X pins σ H { s with heap:=h',toks:=t' }:=by
 have PQ:∀b u,H b=θ u->b∉ch:=λb u e z=>by
  have:=(hf b z).1;rw[this] at e;cases e
 refine I.step (g':=s.gens) (d':=s.drawn) (ch:=ch) (λb hb=>?_) (λb o _ _ hc e _=>k b o hc e) (λb o _ _ hc e _=>⟨o.slots,k b o hc e⟩) (λ_ _ _ _ n=>n)
  (λb o hc e=>⟨o,k b o hc e⟩) (λ_ _ e=>e) (λ_ _ _ e=>e) (λb ps e=>⟨#[],by rw[e];simp⟩) (λm hm=>?_) (λb u e=>?_) I.bare
 .obtain⟨f0,f1,f2,f3,f4,f5⟩:=hf b hb;exact⟨f3,f1,f4,f5⟩
 .obtain⟨o,es,ep,ho,r⟩:=hm;exact⟨o,es,ep,k _ o (λz=>(hf _ z).2.1 rfl) ho,r⟩
 .refine (I.Ll b u e).ME (λc v hc q=>k c v ?_ q) (λ_ q=>q) λ_ _ q=>q
  rcases hc with z|z
  .rw[z];exact PQ b u e
  .exact PQ c _ z
theorem paired {t':Nat}{ch:List Addr}{x:V}{v:Value}(I:Inv X pins σ H s)(hu:RelV x u)(hv:RelV y v)(hT:h'.get? s.heap.objs.size=θ { cls:=.type "tuple",data:=.seq #[u,v] })
  (k:∀b o,b∉ch->s.heap.get? b=θ o->h'.get? b=θ o) (hf:∀b∈ch,kR X pins H b) (hl:∀b∈ch,b<s.heap.objs.size):Inv X pins σ (upd H s.heap.objs.size (.tup [x,y])) { s with heap:=h',toks:=t' }:=by
 have I1:Inv X pins σ (upd H s.heap.objs.size (.tup [x,y])) { s with heap:=s.heap.push { cls:=.type "tuple",data:=.seq #[u,v] },toks:=t' } :=
  I.laid (λ_ _ q=>ψ _ q) (au _) ⟨by show 2<=sizeLine;decide,[u,v],.cons hu (.cons hv .nil),⟨_,Λ _ rfl,rfl,_,rfl⟩⟩
 refine mm (s:={ s with heap:=s.heap.push { cls:=.type "tuple",data:=.seq #[u,v] },toks:=t' }) (ch:=ch) I1 (λb o hb q=>?_) λb hb=>?_
 .rcases BY q with ⟨rfl,rfl⟩|q
  .exact hT
  .exact k b o hb q
 .obtain⟨f0,f⟩:=hf b hb;exact⟨by rw[aQ (bz (hl b hb))];exact f0,f⟩
end
noncomputable def Xu (K:Frag)(l:Addr):It:=⟨λi H=>∃xs x,mL K H l xs/\xs[i]? = θ x,λi H v H'=>∃T x,v=.ref T/\H T=η/\(∀xs,mL K H l xs->xs[i]? = θ x)/\H'=upd H T (.tup [.int i,x]),λi H=>∃xs,mL K H l xs/\xs.length<=i⟩
variable {elts:List Expr}{x1:Nat}
theorem yI (l e it:Addr)(Mm:e≠it):Turn P w K (.Tuple elts x1 pos) (Xu K l) [e,it] e (λi h=>(∃old,IsEnum h e it (i:Nat) old)/\h.IsListIter it l i) where
 mem:=by simp
 obj:=λi h st b hb=>by
  obtain⟨⟨old,he⟩,hit⟩:=st;have hb:b=e\/b=it:=by simpa using hb
  rcases hb with rfl|rfl
  .exact⟨_,he,λv z=>by cases z⟩
  .obtain⟨o,e,c,d⟩:=hit;exact⟨o,e,λv z=>by rw[d] at z;cases z⟩
 keep:=λi h h' st k=>⟨let ⟨old,he⟩:=st.1;⟨old,k e (by simp) _ he⟩,st.2.at λo z=>k it (by simp) o z⟩
 item:=by
  intro X hP hw hK hc i pins s σ H E I hf st hg;subst hP hw hK;obtain⟨xs,x,hq,hx⟩:=hg;obtain⟨its,rv,p,hz⟩:=I.list hq;obtain⟨u,hu,ru⟩:=rv.get hx;obtain⟨⟨old,he⟩,hit⟩:=st;have PY:∀b∈[e,it],b<s.heap.objs.size:=λb hb=>by
   have hb:b=e\/b=it:=by simpa using hb
   rcases hb with rfl|rfl
   .exact ω he
   .obtain⟨o,e,_⟩:=hit;exact ω e
  refine wpAny_pyNext_enum_item he hit p.isList (x:=u) (by simpa using hu) Mm λh' ho To hT hsz hk=>?_
  have I2:Inv X pins σ (upd H s.heap.objs.size (.tup [.int i,x])) { s with heap:=h',toks:=s.toks+1 } :=
   paired (ch:=[e,it]) I ⟨s.toks,rfl⟩ ru hT (λb o hb q=>hk b o (λz=>hb (by simp[z])) (λz=>hb (by simp[z])) q) hf PY
  have f2:∀b∈[e,it],kR X pins (upd H s.heap.objs.size (.tup [.int i,x])) b:=λb hb=>by
   obtain⟨f0,f⟩:=hf b hb;exact⟨by rw[aQ (bz (PY b hb))];exact f0,f⟩
  refine⟨_,rfl,wpAny_letOwnedTupleGo_enum (s:={ s with heap:=h',toks:=s.toks+1 }) ho λh2 he2 Pm=>?_⟩;refine⟨.ref s.heap.objs.size,_,mm (ch:=[e]) I2 (λb o hb q=>Pm.extBut b o (λz=>hb (by simp[z])) q) (λb hb=>f2 b (by simp at hb;simp[hb])),rfl,⟨_,x,rfl,I.fresh,λys hy=>by rw[I.LA hy hq];exact hx,rfl⟩,⟨⟨_,by simpa using he2⟩,To.at λo z=>Pm.extBut it o (cv Mm) z⟩,λb hb=>(f2 b hb).1⟩
 done:=by
  intro X hP hw hK hc i pins s σ H E I hf st hg;subst hP hw hK;obtain⟨xs,hq,hx⟩:=hg;obtain⟨its,rv,p,hz⟩:=I.list hq;obtain⟨⟨old,he⟩,hit⟩:=st;have hl:=rv.length;exact wpAny_pyNext_enum_end (I.ok.hd hc) he hit p.isList (by simp;omega) λh' eb=>⟨rfl,mm (t':=s.toks) (ch:=[it]) I (λb o hb q=>eb b o (λz=>hb (by simp[z])) q) λb hb=>hf b (by simp at hb;simp[hb])⟩
 self:=λA i s Q E st h=>by
  obtain⟨⟨old,he⟩,_⟩:=st;exact î he h
theorem yf {P:Addr->Prop}(h1:Rd H0 p (.lst vs))(h2:aK K H0 ds vs G)(hp:∀a∈p::G,P a):lH K P H0 (Xu K p) (ds.zipIdx.map λq=>.tup [.int q.2,q.1]) (p::G):=λH e=>by
 have ep:=e.keep p (hp p ag);have Mi:Rd H p (.lst vs):=by
  rcases h1 with q|⟨o,q⟩
  .exact .inl (ep.trans q)
  .exact .inr ⟨o,ep.trans q⟩
 have L1:=e.Ls h2 λa ha=>hp a (aa _ ha)
 refine⟨λi d hd=>?_,⟨vs,.inl Mi,by rw[ai,List.length_zipIdx,h2.len];exact au _⟩⟩;have hd:∃d',ds[i]? = θ d'/\d=.tup [.int i,d']:=by
  rw[π,List.getElem?_zipIdx] at hd;cases q:ds[i]? with
  |none=>rw[q] at hd;cases hd
  |some d'=>rw[q] at hd;simp at hd;exact⟨d',rfl,hd.symm⟩
 obtain⟨d',Mv,rfl⟩:=hd;obtain⟨v,G',a,b,c⟩:=L1.get Mv;refine⟨⟨vs,v,.inl Mi,a⟩,λx H' ⟨T,x',e1,e2,e3,e4⟩=>?_⟩;subst e1 e4;have:=e3 vs (.inl Mi);rw[a] at this;cases this;have sm:aN H (upd H T (.tup [.int i,v])):=aN.new e2;refine⟨sm,G',.tup (.inl bH) ?_,λz hz=>aa _ (c.subset hz)⟩;have r:=aK.cons (Rep.int (K:=K) (H:=upd H T (.tup [.int i,v])) (i:Int)) (aK.cons (b.same sm) .nil);rw[bc,X1] at r;exact r
noncomputable def Xt (K:Frag)(l m:Addr):It:=⟨λi H=>∃xs ys x y,mL K H l xs/\mL K H m ys/\xs[i]? = θ x/\ys[i]? = θ y,
 λi H v H'=>∃T x y,v=.ref T/\H T=η/\(∀xs,mL K H l xs->xs[i]? = θ x)/\(∀ys,mL K H m ys->ys[i]? = θ y)/\H'=upd H T (.tup [x,y]),λi H=>∃xs ys,mL K H l xs/\mL K H m ys/\(xs.length<=i\/ys.length<=i)⟩
variable {j:Nat}
theorem rE {b m:Addr}{xs ys:Array Value}{v:Value}(hz:IsZip h (b+4) (b+2) (b+3) .none)(Nc:IsPair h (b+3) u v)(h1:h.IsListIter b l i)(h2:h.IsListIter (b+1) m j)
  (p:h.IsList l xs) (q:h.IsList m ys):ZipApart (b+4) (b+2) (b+3) b (b+1) l m:=by
 obtain⟨o1,e1,c1,_⟩:=h1;obtain⟨o2,e2,c2,_⟩:=h2;obtain⟨o3,e3,c3,_⟩:=p;obtain⟨o4,e4,c4,_⟩:=q;refine⟨iU b 2 4 (by decide),iU b 3 4 (by decide),iU b 0 4 (by decide),iU b 1 4 (by decide),iU b 2 3 (by decide),iU b 2 0 (by decide),iU b 2 1 (by decide),iU b 3 0 (by decide),iU b 3 1 (by decide),iU b 0 1 (by decide),?_,?_,?_,?_,?_,?_,?_,?_⟩
 .exact kF e3 hz (by rw[c3];simp)
 .exact kF e3 Nc (by rw[c3];simp)
 .exact kF e3 e1 (by rw[c3,c1];simp)
 .exact kF e3 e2 (by rw[c3,c2];simp)
 .exact kF e4 hz (by rw[c4];simp)
 .exact kF e4 Nc (by rw[c4];simp)
 .exact kF e4 e1 (by rw[c4,c1];simp)
 .exact kF e4 e2 (by rw[c4,c2];simp)
theorem An (l m b:Addr):Turn P w K (.Tuple elts x1 pos) (Xt K l m) [b+4,b+2,b+3,b,b+1] (b+4)
  (λi h=>IsZip h (b+4) (b+2) (b+3) .none/\IsPair h (b+2) (.ref b) (.ref (b+1))/\(∃u v,IsPair h (b+3) u v)/\h.IsListIter b l i/\h.IsListIter (b+1) m i) where
 mem:=by simp
 obj:=λi h st c hc=>by
  obtain⟨hz,Ou,⟨u,v,Nc⟩,h1,h2⟩:=st;simp only[fe,dg,or_false] at hc;rcases hc with rfl|rfl|rfl|rfl|rfl
  .exact⟨_,hz,λv z=>by cases z⟩
  .exact⟨_,Ou,λv z=>by cases z⟩
  .exact⟨_,Nc,λv z=>by cases z⟩
  .obtain⟨o,e,c,d⟩:=h1;exact⟨o,e,λv z=>by rw[d] at z;cases z⟩
  .obtain⟨o,e,c,d⟩:=h2;exact⟨o,e,λv z=>by rw[d] at z;cases z⟩
 keep:=λi h h' st k=>by
  obtain⟨hz,Ou,⟨u,v,Nc⟩,h1,h2⟩:=st;exact⟨k _ (by simp) _ hz,k _ (by simp) _ Ou,⟨u,v,k _ (by simp) _ Nc⟩,h1.at λo z=>k _ (by simp) o z,h2.at λo z=>k _ (by simp) o z⟩
 item:=by
  intro X hP hw hK hc i pins s σ H E I hf st hg;subst hP hw hK;obtain⟨xs,ys,x,y,hq,Ra,hx,hy⟩:=hg;obtain⟨its,rv,p,_⟩:=I.list hq;obtain⟨its',MZ,p',_⟩:=I.list Ra;obtain⟨u,hu,ru⟩:=rv.get hx;obtain⟨v,hv,rv2⟩:=MZ.get hy;obtain⟨hz,Ou,⟨u0,v0,Nc⟩,h1,h2⟩:=st;have A:=rE hz Nc h1 h2 p.isList p'.isList;have PY:∀c∈[b+4,b+3,b,b+1],c<s.heap.objs.size:=λc hc=>by
   have:=ω hz;simp only[fe,dg,or_false] at hc;rcases hc with rfl|rfl|rfl|rfl
   .exact jQ _ _ 4 this (by decide)
   .exact jQ _ _ 3 this (by decide)
   .exact jQ _ _ 0 this (by decide)
   .exact jQ _ _ 1 this (by decide)
  have Qp:∀c∈[b+4,b+3,b,b+1],kR X pins H c:=λc hc=>hf c (by
   simp only[fe,dg,or_false] at hc ⊢;rcases hc with rfl|rfl|rfl|rfl<;>simp)
  refine wpAny_pyNext_zip_item A hz Ou Nc h1 h2 p.isList p'.isList (x:=u) (y:=v) (by simpa using hu) (by simpa using hv) λh' a1 a2 a3 a4 a5 a6 hk=>?_
  have I2:Inv X pins σ (upd H s.heap.objs.size (.tup [x,y])) { s with heap:=h' } :=
   paired (t':=s.toks) (ch:=[b+4,b+3,b,b+1]) I ru rv2 a5 (λc o hc q=>hk c o (λz=>hc (by simp[z])) (λz=>hc (by simp[z])) (λz=>hc (by simp[z])) (λz=>hc (by simp[z])) q) Qp PY
  have f2:∀c∈[b+4,b+2,b+3,b,b+1],kR X pins (upd H s.heap.objs.size (.tup [x,y])) c:=λc hc=>by
   obtain⟨f0,f⟩:=hf c hc;have:=ω hz;have LB:c<s.heap.objs.size:=by
    simp only[fe,dg,or_false] at hc;rcases hc with rfl|rfl|rfl|rfl|rfl
    .exact jQ _ _ 4 this (by decide)
    .exact jQ _ _ 2 this (by decide)
    .exact jQ _ _ 3 this (by decide)
    .exact jQ _ _ 0 this (by decide)
    .exact jQ _ _ 1 this (by decide)
   exact⟨by rw[aQ (bz LB)];exact f0,f⟩
  refine⟨_,rfl,wpAny_letOwnedTupleGo_zip (s:={ s with heap:=h' }) a1 λh3 hz3 Qb=>?_⟩;refine⟨.ref s.heap.objs.size,_,mm (t':=s.toks) (ch:=[b+4]) I2 (λc o hc q=>Qb.extBut c o (λz=>hc (by simp[z])) q) (λc hc=>f2 c (by simp at hc;simp[hc])),rfl,
   ⟨_,x,y,rfl,I.fresh,λzs hz=>by rw[I.LA hz hq];exact hx,λzs hz=>by rw[I.LA hz Ra];exact hy,rfl⟩,
   ⟨hz3,Qb.extBut _ _ A.TIz (hk _ _ A.TIz A.TITO A.TIi1 A.TIi2 Ou),⟨_,_,Qb.extBut _ _ A.TOz a2⟩,a3.at λo z=>Qb.extBut _ o A.i1z z,a4.at λo z=>Qb.extBut _ o A.i2z z⟩,λc hc=>(f2 c hc).1⟩
 done:=by
  intro X hP hw hK hc i pins s σ H E I hf st hg;subst hP hw hK;obtain⟨xs,ys,hq,Ra,hx⟩:=hg;obtain⟨its,rv,p,_⟩:=I.list hq;obtain⟨its',MZ,p',_⟩:=I.list Ra;have hl:=rv.length;have O1:=MZ.length;obtain⟨hz,Ou,⟨u0,v0,Nc⟩,h1,h2⟩:=st;have A:=rE hz Nc h1 h2 p.isList p'.isList;refine wpAny_pyNext_zip_end (I.ok.hd hc) A hz Ou Nc h1 h2 p.isList p'.isList ?_ λh' hk=>⟨rfl,mm (t':=s.toks) (ch:=[b+4,b+3,b,b+1]) I (λc o hc q=>hk c o (λz=>hc (by simp[z])) (λz=>hc (by simp[z])) (λz=>hc (by simp[z])) (λz=>hc (by simp[z])) q) λc hc=>hf c ?_⟩
  .rcases hx with hx|hx
   .left;simp;omega
   .right;simp;omega
  .simp only[fe,dg,or_false] at hc ⊢;rcases hc with rfl|rfl|rfl|rfl<;>simp
 self:=λA i s Q E st h=>û st.1 h
theorem zZ {P:Addr->Prop}{q:Addr}{us:List V}{es:List D}(h1:Rd H0 p (.lst vs))(h2:aK K H0 ds vs G)(h3:Rd H0 q (.lst us))(h4:aK K H0 es us G')(hp:∀a∈(p::G)++(q::G'),P a) :
  lH K P H0 (Xt K p q) ((ds.zip es).map λz=>.tup [z.1,z.2]) ((p::G)++(q::G')):=λH e=>by
 have ep:=e.keep p (hp p (by simp));have eq:=e.keep q (hp q (by simp));have Mi:Rd H p (.lst vs):=by
  rcases h1 with q|⟨o,q⟩
  .exact .inl (ep.trans q)
  .exact .inr ⟨o,ep.trans q⟩
 have TX:Rd H q (.lst us):=by
  rcases h3 with q|⟨o,q⟩
  .exact .inl (eq.trans q)
  .exact .inr ⟨o,eq.trans q⟩
 have L1:=e.Ls h2 λa ha=>hp a (by simp[ha])
 have h4':=e.Ls h4 λa ha=>hp a (by simp[ha])
 refine⟨λi d hd=>?_,⟨vs,us,.inl Mi,.inl TX,?_⟩⟩
 .have hd:∃d1 d2,ds[i]? = θ d1/\es[i]? = θ d2/\d=.tup [d1,d2]:=by
   rw[π] at hd;rw[ae] at hd;obtain⟨⟨d1,d2⟩,hd,rfl⟩:=hd;rw[List.getElem?_zip_eq_some] at hd;exact⟨d1,d2,hd.1,hd.2,rfl⟩
  obtain⟨d1,d2,hd1,hd2,rfl⟩:=hd;obtain⟨v1,g1,a1,b1,c1⟩:=L1.get hd1;obtain⟨v2,g2,a2,b2,c2⟩:=h4'.get hd2;refine⟨⟨vs,us,v1,v2,.inl Mi,.inl TX,a1,a2⟩,λx H' ⟨T,x',y',e1,e2,e3,e4,e5⟩=>?_⟩;subst e1 e5;have t1:=e3 vs (.inl Mi);rw[a1] at t1;cases t1;have t2:=e4 us (.inl TX);rw[a2] at t2;cases t2;have sm:aN H (upd H T (.tup [v1,v2])):=aN.new e2;refine⟨sm,g1++(g2 ++ []),.tup (.inl bH) (.cons (b1.same sm) (.cons (b2.same sm) .nil)),λz hz=>?_⟩;simp only[bc,il] at hz;rcases hz with hz|hz
  .exact a9 _ (aa _ (c1.subset hz))
  .exact aq _ (aa _ (c2.subset hz))
 .rw[ai,List.length_zip,h2.len,h4.len];omega
variable {H':Hp}{R:List Nat}{tp:GE}
section
variable {X:Cx}{T:Tb}
theorem qZ {env:En}{l:List (D×Rt)}(ar:Args X.K env F H H' l vs G)(h:∀q,q∈bF (l.map (·.2))->q∈R):cA env F H (.sh R) H' G where
 cont:=λa ha=>(ar.cont a ha).imp id λ⟨i,d,t,x,y,z⟩=>⟨i,d,t,x,y,λq hq=>h q (z q hq)⟩
 mv:=λR e=>by cases e
theorem mZ {l:List D}(h:qQ d=θ l):d=.lst l:=by
 cases d<;>simp[qQ] at h
 rw[h]
theorem CC {p:GE}(hg:Gl X "enumerate") (hm:X.mg "enumerate" = η) (ha:PA X [e] (qL X.K T (.cons c .nil))) (hs:Ι [e] X.env=(ε,eval e X.env)::Ι [] X.env):PI X (.Tuple elts x1 tp) (.Call (.Name "enumerate" p) [e] [] pos) (tI X.K T (.enum c)):=by
 intro pins s σ H R I hq;obtain⟨P,env,F,re,q,Lf,k⟩:=hq;unfold fU at Lf;obtain⟨r,h1,Lf⟩:=Rs.Le Lf;obtain⟨l,h2,Lf⟩:=Rs.Le Lf;have h2:=mZ (dF h2);cases Lf;have hl:bL T (.cons c .nil) env=.ok [r]:=by unfold bL;rw[h1];unfold bL;rfl
 refine æ (iQ I hg hm boot_enumerate (du (dG (ha pos pins s σ H (λvs H'=>∃G,Args X.K env F H H' [r] vs G) I ⟨P,env,F,re,[r],hl,λvs H' G ar=>⟨G,ar⟩⟩) λus s1 ⟨vs,H1,I1,r1,G,ar⟩=>?_) hs rfl));have rs:aK X.K H1 [r.1] vs G:=ar.Ls;obtain⟨x,rfl,rp⟩:=rs.Mu;rw[h2] at rp;obtain⟨a,vs,g,rfl,rfl,a1,a2⟩:=rp.lst_inv;obtain⟨u,rfl,ru⟩:=r1.one;cases ru;obtain⟨its,rv,pl,hz⟩:=I1.list (.inl a1);refine call_enumerate_list pl.isList λh' he hit hsz hk=>î he ⟨_,[s1.heap.objs.size+1,s1.heap.objs.size],_,_,H1,rfl,I1.kept (t':=s1.toks) hk,yI a _ _ (Nat.succ_ne_self _),⟨⟨_,he⟩,hit⟩,λb hb=>?_,k _ H1 (a::g) ar.same (qZ ar λq hq=>by simpa[bF] using hq) (λb hb=>rp.nn hb) λP' hP=>yf a1 a2 hP⟩
 simp only[fe,dg,or_false] at hb;have hb:s1.heap.objs.size<=b:=HN _ _ hb;exact I1.Mc hb (I1.Ll.fresh hb)
theorem FE {f:Expr}{d:Ex}{p:GE}(hg:Gl X "zip") (hm:X.mg "zip" = η) (ha:PA X [e,f] (qL X.K T (.cons c (.cons d .nil)))) (hs:Ι [e,f] X.env=(ε,eval e X.env)::Ι [f] X.env) (LQ:(Do pos (Ι [f] X.env)).any (·.1)=ε):PI X (.Tuple elts x1 tp) (.Call (.Name "zip" p) [e,f] [] pos) (tI X.K T (.zip c d)):=by
 intro pins s σ H R I hq;obtain⟨P,env,F,re,q,Lf,k⟩:=hq;unfold fU at Lf;obtain⟨r,h1,Lf⟩:=Rs.Le Lf;obtain⟨t,h2,Lf⟩:=Rs.Le Lf;obtain⟨l,h3,Lf⟩:=Rs.Le Lf;obtain⟨m,h4,Lf⟩:=Rs.Le Lf;have h3:=mZ (dF h3);have h4:=mZ (dF h4);cases Lf;have hl:bL T (.cons c (.cons d .nil)) env=.ok [r,t]:=by unfold bL;rw[h1];unfold bL;rw[h2];unfold bL;rfl
 refine æ (iQ I hg hm boot_zip (du (dG (ha pos pins s σ H (λvs H'=>∃G,Args X.K env F H H' [r,t] vs G) I ⟨P,env,F,re,[r,t],hl,λvs H' G ar=>⟨G,ar⟩⟩) λus s1 ⟨vs,H1,I1,r1,G,ar⟩=>?_) hs LQ));have rs:aK X.K H1 [r.1,t.1] vs G:=ar.Ls;rw[h3,h4] at rs;cases rs with
 |cons rp rs=>
  obtain⟨x',rfl,M7⟩:=rs.Mu;obtain⟨a,vs,g,rfl,rfl,a1,a2⟩:=rp.lst_inv;obtain⟨a',NV,g',rfl,rfl,Xq,a2'⟩:=M7.lst_inv;obtain⟨u,v,rfl,ru,rv⟩:=r1.two;cases ru;cases rv;obtain⟨its,_,pl,_⟩:=I1.list (.inl a1);obtain⟨its',_,Nr,_⟩:=I1.list (.inl Xq);refine call_zip_2 pl.isList Nr.isList λh' q1 q2 q3 q4 q5 q6 hk=>û q1 ⟨_,_,_,_,H1,rfl,I1.kept (t':=s1.toks) hk,An a a' s1.heap.objs.size,⟨q1,q2,⟨_,_,q3⟩,q4,q5⟩,λb hb=>?_,
   k _ H1 _ ar.same (qZ ar λq hq=>by simpa[bF] using hq) (λb hb=>?_) λP' hP=>zZ a1 a2 Xq a2' hP⟩
  .simp only[fe,dg,or_false] at hb;have hb:s1.heap.objs.size<=b:=Eu _ _ hb;exact I1.Mc hb (I1.Ll.fresh hb)
  .rcases il.mp hb with hb|hb
   .exact rp.nn hb
   .exact M7.nn hb
end
def tS (K:Frag)(T:Tb)(c:St):TS:=λD σ H=>∃P Z env F,RE K P env σ H F/\(∀i,∀a∈F i,Z a)/\(∀a,¬ P a->Z a)/\post K P Z env F H D (bC T c env)
def zw (K:Frag)(T:Tb)(c:bJ):TS:=λD σ H=>∃P Z env F,RE K P env σ H F/\(∀i,∀a∈F i,Z a)/\(∀a,¬ P a->Z a)/\post K P Z env F H D (aE T c env)
section
variable {K:Frag}{P Z:Addr->Prop}{env:En}{σ:L2.St}{H:Hp}{F:Nat->List Addr}{D:Ends}
theorem cL {α:Type}{x:Rs α}{k:α->Fl}(h:post K P Z env F H D (iY env x k)):∃a,x=.ok a/\post K P Z env F H D (k a):=by
 cases x with
 |ok a=>exact⟨a,rfl,h⟩
 |exc e=>exact h.elim
 |bad=>exact h.elim
theorem After.same (re:RE K P env σ H F)(hz:∀i,∀a∈F i,Z a)(e:aN H H'):After K P Z env F H env σ H' F:=⟨re.same e,hz,jV.of_same re.pl e,uR.refl _ _⟩
theorem Fx {r:Rt}(re:RE K P env σ H F)(hz:∀i,∀a∈F i,Z a)(zp:∀a,¬ P a->Z a)(rt:cA env F H r H' G):∀a∈G,Z a:=λa ha=>by
 rcases rt.cont a ha with q|⟨j,_,_,f,_⟩
 .exact zp a λz=>re.pl a z q
 .exact hz j a f
end
variable {b:List Stmt}{cb:bJ}{ii:Expr}{mv:Bool}{pos':GE}{st:Stmt}{t:nQ}
section
variable {X:Cx}{T:Tb}{pos:GE}{e:Expr}{c:Ex}
theorem DY:lK X [] (zw X.K T .nil):=by
 refine n6 D1 λD σ H ⟨P,Z,env,F,re,hz,zp,h⟩=>?_
 unfold aE at h;exact h σ H F (After.same re hz (aN.refl _))
theorem Af {rest:List Stmt}{cs:St}{cr:bJ}(h1:PS X st (tS X.K T cs))(h2:lK X rest (zw X.K T cr)):lK X (st::rest) (zw X.K T (.cons cs cr)):=by
 refine n6 (ku h1 h2) λD σ H ⟨P,Z,env,F,re,hz,zp,h⟩=>⟨P,Z,env,F,re,hz,zp,?_⟩
 unfold aE at h;cases hs:bC T cs env with
 |nx env'=>
  rw[hs] at h;exact λσ' H' F' af=>⟨P,Z,env',F',af.re,af.z,zp,post.trans af h⟩
 |bk env'=>rw[hs] at h;exact h
 |ct env'=>rw[hs] at h;exact h
 |rt d fr=>rw[hs] at h;exact h
 |xc e env'=>rw[hs] at h;exact h
 |bad=>rw[hs] at h;exact h
theorem DM:PS X (.Pass pos) (tS X.K T .pass):=by
 refine cV DG λD σ H ⟨P,Z,env,F,re,hz,zp,h⟩=>?_
 unfold bC at h;exact h σ H F (After.same re hz (aN.refl _))
theorem GA:PS X (.Expr (.Constant (.str x) j pos) pos') (tS X.K T .pass):=by
 refine cV FK λD σ H ⟨P,Z,env,F,re,hz,zp,h⟩=>?_
 unfold bC at h;exact h σ H F (After.same re hz (aN.refl _))
theorem HX:PS X (.Continue pos) (tS X.K T .cnt):=by
 refine cV uF λD σ H ⟨P,Z,env,F,re,hz,zp,h⟩=>?_
 unfold bC at h;exact h σ H F (After.same re hz (aN.refl _))
theorem DP:PS X (.Return η pos) (tS X.K T .OI):=by
 refine cV DQ λD σ H ⟨P,Z,env,F,re,hz,zp,h⟩=>?_
 unfold bC at h;exact h .Lj H [] .Lj (jV.refl _) (λ_ h=>(nomatch h)) λ_=>⟨bj,λ_ h=>(nomatch h)⟩
theorem Hu (he:PE X e (tE X.K T c)):PS X (.Return (θ e) pos) (tS X.K T (.ret c)):=by
 refine cV (wj he) λD σ H ⟨P,Z,env,F,re,hz,zp,h⟩=>?_
 unfold bC at h;obtain⟨p,hp,h⟩:=cL h;refine⟨P,env,F,re,p,hp,λv H' G s rp rt=>h v H' G rp (jV.of_same re.pl s) (Fx re hz zp rt) λfr=>?_⟩;cases hr:p.2 with
 |sh R=>rw[hr] at fr;cases fr
 |mv R=>
  rw[hr] at fr;obtain⟨a,b,d⟩:=rt.mv R hr;refine⟨a,λx hx=>⟨λz=>?_,b x hx⟩⟩;rcases d x hx with q|⟨i,d2,t2,hi,f,e2,o2⟩
  .exact re.pl x z q
  .have:=cz.mp fr i hi;split at this
   .rename_i d' q;exact re.wr i d' q x f z
   .cases this
theorem C1 (he:PE X e (tE X.K T c))(hs:GT e η pos.line X.env=pure ε):PS X (.Expr e pos) (tS X.K T (.expr c)):=by
 refine cV (jU he hs) λD σ H ⟨P,Z,env,F,re,hz,zp,h⟩=>?_
 unfold bC at h;obtain⟨p,hp,h⟩:=cL h;exact⟨P,env,F,re,p,hp,λv H' G s rp rt=>h σ H' F (After.same re hz s)⟩
theorem FZ {a:List Stmt}{ca:bJ}(hc:PT X e (pX X.K T c))(ha:lK X a (zw X.K T ca))(hb:lK X b (zw X.K T cb)):PS X (.If e a b pos) (tS X.K T (.ite c ca cb)):=by
 refine cV (EE hc ha hb) λD σ H ⟨P,Z,env,F,re,hz,zp,h⟩=>?_
 unfold bC at h;obtain⟨p,hp,h⟩:=cL h;cases ht:truth p.1 with
 |none=>rw[ht] at h;exact h.elim
 |some k=>
  rw[ht] at h;refine⟨P,env,F,re,p,k,hp,ht,λH' s=>?_⟩;have af:=After.same (Z:=Z) re hz s;cases k with
  |true=>show if ζ=ζ then _ else _;rw[if_pos rfl];exact⟨P,Z,env,F,af.re,hz,zp,post.trans af h⟩
  |false=>show if ε=ζ then _ else _;rw[if_neg ba];exact⟨P,Z,env,F,af.re,hz,zp,post.trans af h⟩
theorem Bc (hN:X.N.Nodup)(hi:X.N[i]? = θ x)(hx:Loc X.env.scope x)(he:PE X e (tE X.K T c))(hs:GT e (θ (.Name x pos')) pos.line X.env=pure ε)(hf:X.fn x=ζ\/X.env.scope.names.lookup x=θ .local) :
  PS X (.Assign [.Name x pos'] e pos) (tS X.K T (.asg (.nm i) c mv)):=by
 refine cV (Ig hN hi hx he hs hf) λD σ H ⟨P,Z,env,F,re,hz,zp,h⟩=>?_
 unfold bC at h;obtain⟨p,hp,h⟩:=cL h;exact⟨P,env,F,re,p,hp,λv H' G s rp rt=>vQ re hz zp s rp rt h⟩
theorem Gu (hN:X.N.Nodup)(hi:X.N[i]? = θ x)(hx:Loc X.env.scope x)(he:PE X e (tE X.K T c))(hf:X.fn x=ζ\/X.env.scope.names.lookup x=θ .local)(ho:op = .Add\/op = .Sub) :
  PS X (.AugAssign (.Name x pos') op e pos) (tS X.K T (.aug i op c)):=by
 have hop:Xs X op (λx y H Q=>∃a b k,x=.int a/\y=.int b/\F6 op a b=θ k/\Q (.int k) H):=by
  intro pins s σ H x y v u Q I rx ry h;obtain⟨a,b,k,rfl,rfl,hk,q⟩:=h;rcases ho with rfl|rfl
  .cases hk;exact Cv pins s σ H _ _ v u Q I rx ry ⟨a,b,rfl,rfl,q⟩
  .cases hk;exact Eh pins s σ H _ _ v u Q I rx ry ⟨a,b,rfl,rfl,q⟩
 refine cV (GL hN hi hx he hop hf) λD σ H ⟨P,Z,env,F,re,hz,zp,h⟩=>?_
 unfold bC at h;cases ha:intAt env i with
 |none=>rw[ha] at h;exact h.elim
 |some a=>
  rw[ha] at h;obtain⟨p,hp,h⟩:=cL h;have TL:∃t,env[i]? = θ (θ (.int a,t)):=by
   unfold intAt at ha;split at ha
   .rename_i q;cases ha;exact⟨_,q⟩
   .cases ha
  obtain⟨t,TL⟩:=TL;obtain⟨v,hv,rv⟩:=re.val i _ _ TL;obtain⟨rfl,_⟩:=rv.int_inv;refine⟨_,hv,P,env,F,re,p,hp,λv H' G s rp rt=>?_⟩;unfold IY at h;cases hq:p.1 with
  |int b=>
   rw[hq] at h rp;obtain⟨rfl,_⟩:=rp.int_inv;dsimp only at h;cases hk:F6 op a b with
   |none=>rw[hk] at h;exact h.elim
   |some k=>
    rw[hk] at h;exact⟨a,b,k,rfl,rfl,hk,vQ re hz zp s (.int k) cA.nil h⟩
  |_=>rw[hq] at h;exact h.elim
noncomputable def gU:List Nat->EK
 |[]=>JO
 |i::is=>E3 (qF i) (gU is)
theorem j9:∀{is:List Nat}{vs:List V}{σ:L2.St}{H:Hp}{Q:L2.St->Hp->Prop},is.length=vs.length->Q (setM is vs σ) H->gU is vs σ H Q
 |[],[],_,_,_,_,q=>⟨rfl,q⟩
 |i::is,v::vs,σ,H,Q,hl,q=>⟨v,vs,rfl,j9 (is:=is) (vs:=vs) (by simpa using hl) q⟩
 |[],_::_,_,_,_,hl,_=>by simp at hl
 |_::_,[],_,_,_,hl,_=>by simp at hl
theorem C4 {is:List Nat}(hg:PG X tg (u7 X.K is.length (gU is)))(he:PE X e (tE X.K T c))(hs:YU [tg] e pos.line X.env=pure ε)(hw:Î [tg] e X.env=pure η)(h1:(wl [tg] X.env).map (·.2)=[WF tg X.env]) :
  PS X (.Assign [tg] e pos) (tS X.K T (.asg (.tp is) c mv)):=by
 refine cV (sJ he hg hs hw h1) λD σ H ⟨P,Z,env,F,re,hz,zp,h⟩=>?_
 unfold bC at h;obtain⟨p,hp,h⟩:=cL h;refine⟨P,env,F,re,p,hp,λv H' G s rp rt=>?_⟩;have N0:=re.same s;have ez:=Fx re hz zp rt;have jW:=jV.of_same (P:=P) re.pl s;unfold mW at h;cases hd:p.1 with
 |tup ds=>
  rw[hd] at h rp;obtain⟨a,vs,rfl,a1,a2⟩:=rp.Lk;have fin:∀{o:Option En},post X.K P Z env F H D (yU o)->(∀env',o=θ env'->∃F',RE X.K P env' (setM is vs σ) H' F'/\(∀i,∀a∈F' i,Z a)/\uR env F env' F'/\is.length=vs.length)->u7 X.K is.length (gU is) (.ref a) σ H' D.nx:=λ{o} h q=>by
   cases o with
   |none=>exact h.elim
   |some env'=>
    obtain⟨F',b1,b2,b3,b4⟩:=q env' rfl;exact⟨a,vs,rfl,a1,b4.symm,j9 b4 (h _ H' F' ⟨b1,b2,jW,b3⟩)⟩
  have shared:post X.K P Z env F H D (if is.all (λi=>!p.2.roots.contains i) then yU (bindM (λd=>dJ d p.2.roots) is ds env) else .bad)->u7 X.K is.length (gU is) (.ref a) σ H' D.nx:=λh=>by
   by_cases hc:is.all (λi=>!p.2.roots.contains i)=ζ
   .rw[if_pos hc] at h;refine fin h λenv' Tz=>pq N0 hz a2 ez (λx hx j d' t' ej o m=>?_) Tz
    rcases rt.cont x hx with q|⟨k,d2,t2,f,e2,sr⟩
    .exact absurd q (re.nn ej m)
    .exact sr j ((re.one j d' t' ej o).2.2 x m k d2 t2 e2 f)
   .rw[if_neg hc] at h;exact h.elim
  cases hr:p.2 with
  |sh R=>rw[hr] at h shared;exact shared h
  |mv R=>
   cases R with
   |cons r0 R0=>rw[hr] at h shared;exact shared h
   |nil=>
    rw[hr] at h;obtain⟨m1,m2,m3⟩:=rt.mv [] hr;have fresh:∀a∈G,H a=η:=λa ha=>by
     rcases m3 a ha with q|⟨_,_,_,q,_⟩
     .exact q
     .cases q
    exact fin h λenv' Tz=>mM N0 hz a2 m1 m2 (λx hx z=>re.pl x z (fresh x hx)) ez (λx hx j m=>by
     obtain⟨d2,t2,e2⟩:=re.at' m;exact re.nn e2 m (fresh x hx)) Tz
 |_=>rw[hd] at h;exact h.elim
theorem GP (hp:XE (Ζ X.prog X.w) X.A X.env X.xe)(hc:PT X e (pX X.K T c))(hb:lK X b (zw X.K T cb)):PS X (.While e b [] pos) (tS X.K T (.Oc c cb)):=by
 refine cV (zT hp hc hb) λD σ H ⟨P,Z,env,F,re,hz,zp,h⟩=>?_
 unfold bC at h;refine⟨λm σ' H'=>∃env' F',After X.K P Z env F H env' σ' H' F'/\post X.K P Z env' F' H' D (ka (λenv=>(ev T c env).bind λp=>gQ (truth p.1)) (aE T cb) m env'),⟨T.fuel,env,F,After.same re hz (aN.refl _),h⟩,λm σ1 H1 ⟨NK,F1,af,h1⟩=>?_⟩;cases m with
 |zero=>exact h1.elim
 |succ m=>
  unfold ka at h1;obtain⟨k,hk,h1⟩:=cL h1;obtain⟨p,Qf,hk⟩:=Rs.Le hk;refine⟨P,NK,F1,af.re,p,k,Qf,dF hk,λH2 s2=>?_⟩;have MP:=After.same (Z:=Z) af.re af.z s2;cases k with
  |false=>
   show if ε=ζ then _ else _
   rw[if_neg ba];simp only[a8,if_false] at h1;exact h1 σ1 H2 F1 MP
  |true=>
   show if ζ=ζ then _ else _
   rw[if_pos rfl];simp only[if_true] at h1;refine⟨λσ' H'=>∃env' F',After X.K P Z env F H env' σ' H' F'/\post X.K P Z env' F' H' D (ka (λenv=>(ev T c env).bind λp=>gQ (truth p.1)) (aE T cb) m env'),λσ' H' q=>⟨m,i5 _,q⟩,P,Z,NK,F1,MP.re,af.z,zp,?_⟩;have h1:=post.trans MP h1;cases hs:aE T cb NK with
   |nx e'=>rw[hs] at h1;exact λσ' H' F' My=>⟨e',F',af.trans (MP.trans My),post.trans My h1⟩
   |ct e'=>rw[hs] at h1;exact λσ' H' F' My=>⟨e',F',af.trans (MP.trans My),post.trans My h1⟩
   |bk e'=>rw[hs] at h1;exact h1
   |rt d fr=>rw[hs] at h1;exact h1
   |xc x e'=>rw[hs] at h1;exact h1
   |bad=>rw[hs] at h1;exact h1
noncomputable def uT (K:Frag):nQ->TG
 |.nm i=>qF i
 |.tp is=>u7 K is.length (gU is)
theorem uE {P Z:Addr->Prop}{env env':En}{σ:L2.St}{d:Pc.D}{Q:L2.St->Hp->Prop}(re:RE K P env σ H F)(hz:∀i,∀a∈F i,Z a)(rp:Rep K H d v G)(gz:∀a∈G,Z a)
  (hs:∀a∈G,∀(j:Nat) (d':Pc.D) (t':Tg),env[j]? = θ (θ (d',t'))->bK t'=ζ->a∈F j->j∈R) (hb:be R t d env=θ env') (hQ:∀σ' F',RE K P env' σ' H F'->(∀i,∀a∈F' i,Z a)->uR env F env' F'->Q σ' H):uT K t v σ H Q:=by
 cases t with
 |nm i=>
  simp only[be] at hb;by_cases hi:i<env.length
  .rw[if_pos hi] at hb;cases hb;exact hQ _ _ (wD re hi rp hs) (mo hz gz) (oJ hi uj)
  .rw[if_neg hi] at hb;cases hb
 |tp is=>
  cases d with
  |tup ds=>
   simp only[be] at hb;obtain⟨a,vs,rfl,a1,a2⟩:=rp.Lk;obtain⟨F',b1,b2,b3,b4⟩:=pq re hz a2 gz hs hb;exact⟨a,vs,rfl,a1,b4.symm,j9 b4 (hQ _ F' b1 b2 b3)⟩
  |_=>cases hb
theorem lR {b:En->Fl}:∀(ds:List Pc.D) (env:En),(∀e,bU t R b ds env≠.bk e)/\∀e,bU t R b ds env≠.ct e
 |[],env=>⟨λe z=>(by cases z),λe z=>(by cases z)⟩
 |d::ds,env=>by
  unfold bU;cases be R t d env with
  |none=>exact⟨λe z=>(by cases z),λe z=>(by cases z)⟩
  |some env'=>
   simp only;cases b env' with
   |nx e'=>exact lR ds e'
   |ct e'=>exact lR ds e'
   |bk e'=>exact⟨λe z=>(by cases z),λe z=>(by cases z)⟩
   |rt d fr=>exact⟨λe z=>(by cases z),λe z=>(by cases z)⟩
   |xc x e'=>exact⟨λe z=>(by cases z),λe z=>(by cases z)⟩
   |bad=>exact⟨λe z=>(by cases z),λe z=>(by cases z)⟩
theorem HE {it:tX}(hp:XE (Ζ X.prog X.w) X.A X.env X.xe)(hc:X.calm=ζ)(hi:PI X tg ii (tI X.K T it))(hg:PG X tg (uT X.K t))(hb:lK X b (zw X.K T cb))(hs:∀x,wE ii X.env x=pure x) :
  PS X (.For tg ii b [] pos) (tS X.K T (.Li t it cb)):=by
 refine cV (Bt hp hc hi hg hb hs) λD σ H ⟨P,Z,env,F,re,hz,zp,h⟩=>?_
 unfold bC at h;obtain⟨p,hp,h⟩:=cL h;refine⟨P,env,F,re,p,hp,λJ H1 G s1 rt nn wk=>?_⟩;have Vt:=After.same (Z:=Z) re hz s1;have h:=post.trans Vt h;let P':Addr->Prop:=λa=>P a\/a∈G
 have wk:=wk P' λa ha=>.inr ha
 have seen:∀a∈G,∀(i:Nat) (d:Pc.D) (t:Tg),env[i]? = θ (θ (d,t))->bK t=ζ->a∈F i->i∈p.2:=λa ha i d t e o m=>by
  rcases rt.cont a ha with q|⟨k,d2,t2,f,e2,sr⟩
  .exact absurd q (re.nn e m)
  .exact sr i ((re.one i d t e o).2.2 a m k d2 t2 e2 f)
 have reL:RE X.K P' (lock p.2 env) σ H1 F:=Vt.re.locked nn seen;have gz:∀a∈G,Z a:=Fx re hz zp rt;let E':Ends:={ D with nx:=λσ' H'=>∀env' F',After X.K P' Z (lock p.2 env) F H1 env' σ' H' F'->D.nx σ' H' };have PB:∀{f:Fl},(∀e,f≠.bk e)->(∀e,f≠.ct e)->post X.K P Z env F H1 D (match f with|.nx e=>.nx (unlock p.2 env e)|x=>x)->post X.K P' Z (lock p.2 env) F H1 D f:=λ{f} nb nc h=>by
  cases f with
  |nx e=>exact λσ' H' F' af=>h σ' H' F' (af.Nl Vt.re)
  |bk e=>exact absurd rfl (nb e)
  |ct e=>exact absurd rfl (nc e)
  |rt d fr=>exact λv H' G' rp ev z f=>h v H' G' rp (ev.weak λ_ q=>.inl q) z λw=>⟨(f w).1,λa ha=>⟨λq=>((f w).2 a ha).1 (.inl q),((f w).2 a ha).2⟩⟩
  |xc x e=>exact h
  |bad=>exact h
 have h:=PB (lR _ _).1 (lR _ _).2 h;have zpL:∀a,¬ P' a->Z a:=λa ha=>zp a λq=>ha (.inl q)
 refine⟨λi m σ' H'=>m=p.1.length-i/\i<=p.1.length/\∃env' F',After X.K P' Z (lock p.2 env) F H1 env' σ' H' F'/\post X.K P' Z env' F' H' D (bU t p.2 (aE T cb) (p.1.drop i) env'),⟨p.1.length,by simp,dn _,lock p.2 env,F,After.same reL hz (aN.refl _),by simpa using h⟩,?_⟩;rintro i m σ2 H2 ⟨rfl,hi,Oa,F2,MP,h2⟩;obtain⟨w1,w2⟩:=wk H2 MP.ev;by_cases LB:i<p.1.length
 .right;have hd:p.1[i]? = θ p.1[i]:=by simp[LB]
  obtain⟨g1,g2⟩:=w1 i _ hd;refine⟨g1,λσ' H'=>∃env' F',After X.K P' Z (lock p.2 env) F H1 env' σ' H' F'/\post X.K P' Z env' F' H' D (bU t p.2 (aE T cb) (p.1.drop (i+1)) env'),λσ' H' q=>⟨p.1.length-(i+1),by omega,rfl,LB,q⟩,λx H3 y=>?_⟩;obtain⟨s3,G3,RW,Nn⟩:=g2 x H3 y;have My:=After.same (Z:=Z) MP.re MP.z s3;have h2:=post.trans My h2;rw[Yg LB] at h2;unfold bU at h2;cases hb:be p.2 t p.1[i] Oa with
  |none=>rw[hb] at h2;exact h2.elim
  |some L5=>
   rw[hb] at h2;refine uE My.re MP.z RW (λa ha=>gz a (Nn a ha)) (λa ha j d' t' ej o m=>?_) hb λσ4 F4 Nq z4 lk4=>?_
   .cases t' with
    |own=>exact absurd (.inr (Nn a ha)) (MP.re.wr j d' ej a m)
    |lk=>
     obtain⟨e5,e6⟩:=MP.lk j d' ej;rw[e6] at m;obtain⟨t0,e0,o0,_⟩:=iN e5;exact seen a (Nn a ha) j d' t0 e0 (o0.trans o) m
    |sh Q=>cases o
   .have Xp:After X.K P' Z Oa F2 H3 L5 σ4 H3 F4:=⟨Nq,z4,jV.refl _,lk4⟩;refine⟨P',Z,L5,F4,Nq,z4,zpL,?_⟩;have h2:=post.trans Xp h2;have all:=(MP.trans My).trans Xp;cases hs:aE T cb L5 with
    |nx e'=>simp only[hs] at h2;exact λσ' H' F' QG=>⟨e',F',all.trans QG,post.trans QG h2⟩
    |ct e'=>simp only[hs] at h2;exact λσ' H' F' QG=>⟨e',F',all.trans QG,post.trans QG h2⟩
    |bk e'=>simp only[hs] at h2;exact h2
    |rt d fr=>simp only[hs] at h2;exact h2
    |xc x e'=>simp only[hs] at h2;exact h2
    |bad=>simp only[hs] at h2;exact h2
 .left;have e:i=p.1.length:=by omega
  subst e;rw[Zu] at h2;exact⟨w2,h2 σ2 H2 F2 (After.same MP.re MP.z (aN.refl _))⟩
end
noncomputable def jH (cells:List (Str×Addr)):List (Str×NameKind)->List (Str×Addr)->List (Str×Addr)
 |[],acc=>acc
 | (n,k)::r,acc=>jH cells r (if k == .free then (match cells.lookup n with|some c=>(n,c)::acc|none=>acc) else acc)
variable {env:Yw}{scope:Scope}
theorem wc (h:∀x,(x,Ξ)∈scope.names->∃c,env.cells.lookup x=θ c):Z8 scope env=pure (jH env.cells scope.names []):=by
 unfold Z8;have gen:∀(names:List (Str×NameKind)) (acc:List (Str×Addr)),(∀x,(x,Ξ)∈names->∃c,env.cells.lookup x=θ c) ->
   (forIn names acc λ(p:Str×NameKind) (cs:List (Str×Addr))=>(match p with
    | (name,kind)=>if (kind == .free)=ζ then (do let c <- cellOf env name;pure (Ix ((name,c)::cs))) else pure (Ix cs):Sem (ForInStep (List (Str×Addr)))))=(pure (jH env.cells names acc):Sem (List (Str×Addr))):=by
  intro names
  induction names with
  |nil=>intro acc _;rfl
  |cons x r ih=>
   intro acc hx;obtain⟨n,k⟩:=x;rw[List.forIn_cons];simp only[jH];have hr:∀x,(x,Ξ)∈r->∃c,env.cells.lookup x=θ c:=λx hm=>hx x (aa _ hm)
   by_cases hk:(k==Ξ)=ζ
   .have e:k=.free:=by simpa using hk
    subst e;obtain⟨c,hc⟩:=hx n ag;simp only[hk,if_true,cellOf,hc];exact ih ((n,c)::acc) hr
   .simp only[hk,if_false];exact ih acc hr
 have:=gen scope.names [] h;simpa using this
variable {cells:List (Str×Addr)}
theorem qP {c:Addr}:∀{names:List (Str×NameKind)}{acc:List (Str×Addr)},(∀y d,acc.lookup y=θ d->cells.lookup y=θ d)->(jH cells names acc).lookup x=θ c->cells.lookup x=θ c
 |[],acc,ha,h=>ha x c h
 | (n,k)::r,acc,ha,h=>by
  simp only[jH] at h;refine qP (names:=r) (λy d q=>?_) h;by_cases hk:(k==Ξ)=ζ
  .rw[if_pos hk] at q;cases hc:cells.lookup n with
   |none=>rw[hc] at q;exact ha y d q
   |some e=>
    rw[hc] at q;simp only[dh] at q;cases hy:y==n with
    |true=>
     rw[hy] at q;have:=eq_of_beq hy;subst this;rw[hc];exact q
    |false=>rw[hy] at q;exact ha y d q
  .rw[if_neg hk] at q;exact ha y d q
theorem qu:∀{names:List (Str×NameKind)}{acc:List (Str×Addr)},(∃c,acc.lookup x=θ c)->∃c,(jH cells names acc).lookup x=θ c
 |[],acc,h=>h
 | (n,k)::r,acc,h=>by
  simp only[jH];refine qu (names:=r) ?_;by_cases hk:(k==Ξ)=ζ
  .rw[if_pos hk];cases hc:cells.lookup n with
   |none=>exact h
   |some e=>
    simp only[dh];cases hy:x==n with
    |true=>exact⟨e,rfl⟩
    |false=>exact h
  .rw[if_neg hk];exact h
theorem oH {c:Addr}(hc:cells.lookup x=θ c):∀{names:List (Str×NameKind)}{acc:List (Str×Addr)},(x,Ξ)∈names->∃c,(jH cells names acc).lookup x=θ c
 |[],acc,h=>by cases h
 | (n,k)::r,acc,h=>by
  simp only[jH];rcases fe.mp h with e|h
  .cases e;refine qu (names:=r) ?_;simp only[beq_self_eq_true,if_true,hc,dh];exact⟨c,rfl⟩
  .exact oH hc (names:=r) h
noncomputable def inner (X:Cx)(scope:Scope)(N':List Str)(C:Addr)(s0:ρ)(H0:Hp)(ex:List Addr):Cx :=
 { X with N:=N',s₀:=s0,H₀:=H0,env:=Í scope (am (C+1) scope.names (jH X.env.cells scope.names [])) C X.env,outer:=X.stack,stack:=X.stack,ex:=ex,fn:=λx=>scope.names.lookup x==θ .cell,pn:=[],xe:=λ_ _=>False }
structure fW (X:Cx)(scope:Scope)(N':List Str)(pick:List (Option Nat)):Prop where
 kind:scope.kind=.function
 cells:∀y∈scope.names,y.2=.cell->scope.names.lookup y.1=θ .cell
 names:∀y∈scope.names,y.2=.local->scope.names.lookup y.1=θ .local
 len:pick.length=N'.length
 outer:∀x,scope.names.lookup x=θ .free->(X.env.kindOf x=θ .cell\/X.env.kindOf x=θ .free)
 free:∀x,(x,Ξ)∈scope.names->scope.names.lookup x=θ .free
 pick:∀(i j:Nat) (x:Str),pick[i]? = θ (θ j)->N'[i]? = θ x->scope.names.lookup x=θ .free/\X.N[j]? = θ x
noncomputable def iJ (σ:L2.St)(pick:List (Option Nat)):L2.St:=pick.map λo=>o.bind λj=>(σ[j]?).join
theorem gO:∀{names:List (Str×NameKind)}{x:Str}{k:NameKind},(names.map λ(n,k)=>if (k==Ξ&&env.scope.kind == .function&&env.kindOf n==θ .cell) then (n,pc) else (n,k)).lookup x=θ k ->
  ∃k0,names.lookup x=θ k0/\(k=k0\/(k0=.free/\k=.cell))
 |[],_,_,h=>by simp at h
 | (n,k0)::r,x,k,h=>by
  rw[av] at h;by_cases hc:(k0==Ξ&&env.scope.kind == .function&&env.kindOf n==θ .cell)=ζ
  .simp only[hc,if_true,dh] at h;simp only[dh];cases hx:x==n with
   |true=>
    rw[hx] at h;cases h;rw[aj,aj] at hc;exact⟨k0,rfl,.inr ⟨by simpa using hc.1.1,rfl⟩⟩
   |false=>rw[hx] at h;exact gO h
  .have hc:(k0==Ξ&&env.scope.kind == .function&&env.kindOf n==θ .cell)=ε:=by simpa using hc
   simp only[hc,a8,if_false,dh] at h;simp only[dh];cases hx:x==n with
   |true=>rw[hx] at h;cases h;exact⟨k0,rfl,.inl rfl⟩
   |false=>rw[hx] at h;exact gO h
theorem iA:∀{names:List (Str×NameKind)}{x:Str},names.lookup x=θ .free ->
  (names.map λ(n,k)=>if (k==Ξ&&env.scope.kind == .function&&env.kindOf n==θ .cell) then (n,pc) else (n,k)).lookup x=θ .cell \/
  (names.map λ(n,k)=>if (k==Ξ&&env.scope.kind == .function&&env.kindOf n==θ .cell) then (n,pc) else (n,k)).lookup x=θ .free
 |[],_,h=>by simp at h
 | (n,k0)::r,x,h=>by
  rw[av];by_cases hc:(k0==Ξ&&env.scope.kind == .function&&env.kindOf n==θ .cell)=ζ
  .simp only[hc,if_true,dh] at h ⊢;cases hx:x==n with
   |true=>left;rfl
   |false=>rw[hx] at h;exact iA h
  .have hc:(k0==Ξ&&env.scope.kind == .function&&env.kindOf n==θ .cell)=ε:=by simpa using hc
   simp only[hc,a8,if_false,dh] at h ⊢;cases hx:x==n with
   |true=>rw[hx] at h;cases h;right;rfl
   |false=>rw[hx] at h;exact iA h
theorem j7:∀(names:List (Str×NameKind)) (n:Nat) (acc:List (Str×Addr)),am n names acc=am n names []++acc
 |[],_,_=>rfl
 | (nm,k)::r,n,acc=>by
  unfold am;split
  .rw[j7 r (n+1) ((nm,n)::acc),j7 r (n+1) [(nm,n)],ef];rfl
  .exact j7 r n acc
theorem vS:∀(names:List (Str×NameKind)) (n:Nat) {x:Str}{c:Addr},(x,c)∈am n names []->(x,pc)∈names
 |[],_,_,_,h=>by cases h
 | (nm,k)::r,n,x,c,h=>by
  unfold am at h;split at h
  .rename_i hk;rw[j7] at h;rcases il.mp h with h|h
   .exact aa _ (vS r _ h)
   .have e:(x,c)=(nm,n):=by simpa using h
    cases e;rw[show k=.cell by simpa using hk];exact ag
  .exact aa _ (vS r _ h)
theorem sQ:∀(names:List (Str×NameKind)) (n:Nat) {x:Str},(x,pc)∈names->∃c,(am n names []).lookup x=θ c
 | (nm,k)::r,n,x,h=>by
  unfold am;rcases fe.mp h with e|h
  .cases e;rw[if_pos (by decide),j7,ir];cases (am (n+1) r []).lookup nm with
   |some c=>exact⟨c,rfl⟩
   |none=>exact⟨n,by simp⟩
  .split
   .obtain⟨c,hc⟩:=sQ r (n+1) h;rw[j7,ir,hc];exact⟨c,rfl⟩
   .exact sQ r n h
theorem nfe {M:È}{E:Value->ρ->Prop}{globals:Addr}{cl:List (Str×Addr)}{qual:Str}{Q:Yw->ρ->Prop}
  (h:Q { scope:=scope,locals:=s.heap.objs.size,globals:=globals,cells:=am (s.heap.objs.size+1) scope.names cl,qual:=qual,func:=η,code:=env.code,frame:=env.frame,builtins:=env.builtins } { s with heap:=NE (s.heap.push { cls:=.type "dict",data:=.dict #[] }) scope.names }) :
  Ε M A (YJ scope globals cl [] qual η .none (θ env)) Q E s:=by
 simp only[YJ,YN,if_true];refine Γ (wpAny_alloc (Γ (wpAny_layCells _ (λname kind cells=>by cases Ti:kind==pc<;>simp[Ti]) _ _ _ _ ?_)));rw[show ({ s with heap:=s.heap.push { cls:=.type "dict",data:=.dict #[] } }:ρ).heap.objs.size=s.heap.objs.size+1 from xL ..];exact Χ h
variable {fp:List Addr}
section
variable {X:Cx}{scope:Scope}{N':List Str}{pick:List (Option Nat)}{pins:List (Addr×Obj)}{σ:L2.St}{H:Hp}{s:ρ}
theorem tW (S:fW X scope N' pick)(I:Inv X pins σ H s)(hf:∀b∈fp,kR X pins H b)(hl:∀b∈fp,b<s.heap.objs.size) :
  Inv (inner X scope N' s.heap.objs.size s H fp) [] (iJ σ pick) H { s with heap:=NE (s.heap.push { cls:=.type "dict",data:=.dict #[] }) scope.names }:=by
 have old:∀x c,(jH X.env.cells scope.names []).lookup x=θ c->X.env.cells.lookup x=θ c:=λx c h=>qP (acc:=[]) (λy d q=>by simp at q) h
 have hk:∀b o,s.heap.get? b=θ o->(NE (s.heap.push { cls:=.type "dict",data:=.dict #[] }) scope.names).get? b=θ o:=λb o e=>Yr _ _ b o (ψ _ e)
 have hn:(NE (s.heap.push { cls:=.type "dict",data:=.dict #[] }) scope.names).Ns s.heap.objs.size (λ_=>η):=(Heap.Ns.new s.heap (.type "dict")).keeps (Yr _ _);have ok:=cellsFrom_ok scope.names (s.heap.push { cls:=.type "dict",data:=.dict #[] }) (s.heap.objs.size+1) [] ⟨λ_ _ hm=>(nomatch hm),Yb⟩ (by rw[xL];exact au _);rw[xL] at ok;generalize hh:NE (s.heap.push { cls:=.type "dict",data:=.dict #[] }) scope.names=h' at *;have Oo:∀x c,X.env.cells.lookup x=θ c->c<s.heap.objs.size:=λx c h=>by
  obtain⟨v,hv⟩:=I.cell x c h;exact hv.lt
 have look:∀x c,(am (s.heap.objs.size+1) scope.names (jH X.env.cells scope.names [])).lookup x=θ c->((x,c)∈am (s.heap.objs.size+1) scope.names []/\s.heap.objs.size+1<=c)\/((x,pc)∉scope.names/\X.env.cells.lookup x=θ c):=λx c h=>by
  rw[j7,ir] at h;cases q:(am (s.heap.objs.size+1) scope.names []).lookup x with
  |some c'=>
   rw[q] at h;cases h;have hm:=cy q;exact .inl ⟨hm,(ok.empty _ _ hm).2⟩
  |none=>
   rw[q] at h;refine .inr ⟨λz=>?_,old x c h⟩;obtain⟨c',NF⟩:=sQ scope.names (s.heap.objs.size+1) z;rw[q] at NF;cases NF
 have sees:∀x c,scope.names.lookup x=θ .free->(jH X.env.cells scope.names []).lookup x=θ c->(am (s.heap.objs.size+1) scope.names (jH X.env.cells scope.names [])).lookup x=θ c:=λx c hx h=>by
  rw[j7,ir];cases q:(am (s.heap.objs.size+1) scope.names []).lookup x with
  |some c'=>
   have:=S.cells _ (vS _ _ (cy q)) rfl;rw[hx] at this;cases this
  |none=>rw[h];rfl
 refine⟨⟨I.ok.mod,S.kind,I.ok.glob,I.ok.blt,au _,λx y c h1 h2=>?inj,λx hx=>?_,λx c hx h=>?Pb,I.ok.hd,I.ok.frames,.inl rfl,λb hb=>?_,I.bs,cu I.ok.Ox I.sz,λb o e hb=>?_,λb hb Mo=>?_,I.stack,I.MQ⟩,
  rfl,I.bare,Un.kept hk,⟨_,hn,λi x v h1 h2 h3=>?_⟩,λx c h=>?_,I.Ll.fresh (au _),λx c h=>?frc,λp hp=>absurd (show p∈([]:List (Addr×Obj)) from hp) (by simp),I.Ll.kept hk,?_⟩
 case inj=>
  rcases look x c h1 with ⟨m1,l1⟩|⟨_,o1⟩<;>rcases look y c h2 with ⟨m2,l2⟩|⟨_,o2⟩
  .exact ą ok.apart m1 m2
  .exact absurd (ay (Oo y c o2) (XQ l1)) (fq _)
  .exact absurd (ay (Oo x c o1) (XQ l2)) (fq _)
  .exact I.ok.inj x y c o1 o2
 case Pb=>
  have hx:scope.names.lookup x=θ .cell:=by simpa[inner] using hx
  rcases look x c h with ⟨_,l1⟩|⟨n1,_⟩
  .exact cu (X0 _) l1
  .exact absurd (cy hx) n1
 case frc=>
  rcases look x c h with ⟨_,l1⟩|⟨_,o1⟩
  .exact I.Ll.fresh (cu (X0 _) l1)
  .exact I.LH x c o1
 .have hx:(ï scope X.env).names.lookup x=θ .cell\/(ï scope X.env).names.lookup x=θ .free:=hx;have LK:scope.names.lookup x=θ .free\/scope.names.lookup x=θ .cell:=by
   rcases hx with hx|hx
   .obtain⟨k0,h1,h2|⟨h2,_⟩⟩:=gO hx
    .subst h2;exact .inr h1
    .rw[h2] at h1;exact .inl h1
   .obtain⟨k0,h1,h2|⟨h2,h3⟩⟩:=gO hx
    .subst h2;exact .inl h1
    .cases h3
  rcases LK with LK|LK
  .obtain⟨c,hc⟩:=I.ok.has x (S.outer x LK);obtain⟨c',NF⟩:=oH (acc:=[]) hc (cy LK);exact⟨c',sees x c' LK NF⟩
  .obtain⟨c,hc⟩:=sQ scope.names (s.heap.objs.size+1) (cy LK);refine⟨c,?_⟩;show (am (s.heap.objs.size+1) scope.names (jH X.env.cells scope.names [])).lookup x=θ c;rw[j7,ir,hc];rfl
 .refine⟨bz (hl b hb),λx c h=>?_⟩;rcases look x c h with ⟨_,l1⟩|⟨_,o1⟩
  .exact λe=>fq _ (ay (hl b hb) (e ▸ XQ l1))
  .exact (hf b hb).2.2.2.2.1 x c o1
 .obtain⟨f0,f1,f2,f3,f4,f5⟩:=hf b hb;rcases f3 with f3|f3
  .exact I.ok.Nt b o e f3
  .exact absurd (ay (ω e) (cu I.ok.Ox f3)) (fq _)
 .obtain⟨f0,f1,f2,f3,f4,f5⟩:=hf b hb;exact (fe.mp (I.MD b Mo)).elim f1 f2
 ·
  have L1:(pick.map λo=>o.bind λj=>(σ[j]?).join)[i]? = θ (θ v):=h2;rw[π] at L1;cases hp:pick[i]? with
  |none=>rw[hp] at L1;cases L1
  |some o=>
   rw[hp] at L1;cases o with
   |none=>simp at L1
   |some j=>
    simp only[bw,Option.bind_some,da] at L1;have hj:σ[j]? = θ (θ v):=by
     cases q:σ[j]? with
     |none=>rw[q] at L1;cases L1
     |some o=>rw[q] at L1;cases o with
      |none=>cases L1
      |some w=>simp at L1;rw[L1]
    obtain⟨k1,k2⟩:=S.pick i j x hp h1;obtain⟨m0,hn0,Rb⟩:=I.loc;have OA:Cs X.env.scope x:=by
     rcases S.outer x k1 with q|q
     .exact .inr (.inl q)
     .exact .inr (.inr q)
    obtain⟨u,r,lk⟩:=Rb j x v k2 hj OA;refine⟨u,r,?_⟩;rcases lk with ⟨z,_⟩|⟨_,c,hc,Mg⟩
    .rcases S.outer x k1 with q|q<;>· rw[z] at q;cases q
    .obtain⟨c',NF⟩:=oH (names:=scope.names) (acc:=[]) hc (cy k1);have:=old x c' NF;rw[hc] at this;cases this;refine .inr ⟨iA k1,c,sees x c k1 NF,?_⟩;obtain⟨o,ho,hd⟩:=Mg;exact⟨o,hk c o ho,hd⟩
 .rcases look x c h with ⟨m1,_⟩|⟨_,o1⟩
  .exact⟨η,(ok.empty _ _ m1).1⟩
  .obtain⟨v,o,ho,hd⟩:=I.cell x c o1;exact⟨v,o,hk c o ho,hd⟩
 .show (pick.map _).length=N'.length;rw[ai,S.len]
end
noncomputable abbrev wJ (ifs:List Expr)(env:Yw):Sem Bool:=forIn ifs ζ λc r=>if r=ζ then do let ok <- isTrue c env (eval c env);pure (Ix ok) else pure (Ix r)
noncomputable def Ip (X:Cx)(ifs:List Expr)(t:TT):Prop :=
 ∀(pins:List (Addr×Obj)) (s:ρ) (σ:L2.St) (H:Hp) (Q:Bool->Hp->Prop),Inv X pins σ H s->t σ H Q->Ε (Ζ X.prog X.w) X.A (wJ ifs X.env) (TP X pins σ Q) X.xe s
variable {X:Cx}
theorem Dm:Ip X [] (λ_ H Q=>Q ζ H):=λ_ _ _ H Q I h=>wpAny_tests_nil ⟨H,I,h⟩
theorem CY {c:Expr}{t:TT}(h:PT X c t):Ip X [c] t:=λpins s σ H Q I q=>wpAny_tests_one (h pins s σ H Q I q)
variable {elt:Expr}{ifs:List Expr}
section
variable {prog:Program}{w:Ν}{A:Φ}{R:Zl->ρ->Prop}{s:ρ}
theorem uu {target:Expr}{it acc:Value}(I:Nat->ρ->Prop)
  (turn:∀n s,I n s->Ε (Ζ prog w) A (pyNext it) (λr s₁=>match r with
   |none=>R (.ok .next) s₁
   |some v=>Ε (Ζ prog w) A (SL target it v) (λ_ s₀=>Ε (Ζ prog w) A (WF target env v) (λ_ s₂=>
     Ε (Ζ prog w) A (wJ ifs env) (λok s₃=>
      if ok=ζ then Ε (Ζ prog w) A (eval elt env) (λx s₄=>
       Ε (Ζ prog w) A (call (.builtin "list.append") [acc,x]) (λ_ s₅=>∃m,m<n/\I m s₅) (λ_ _=>False) s₄) (λ_ _=>False) s₃
      else ∃m,m<n/\I m s₃) (λ_ _=>False) s₂) (λ_ _=>False) s₀) (λ_ _=>False) s₁) (λ_ _=>False) s)
  (n:Nat) (h:I n s):FM (Ζ prog w) A (.compLoop (.ListComp elt [⟨target,ii,ifs,0⟩] scope pos) 0 it acc env) R s:=by
 refine codeAny_loop rfl I (λn s hI=>?_) n h;show Ε _ A ((compTurn (.ListComp elt [⟨target,ii,ifs,0⟩] scope pos) 0 it acc env).onRaise (λx=>do noteFrame x env;theTreesLotGoes x)) _ _ s;refine wpAny_noted ?_;rw[compTurn_list];refine Γ (YT (Γ (kw (turn n s hI) (λr s₁ h₁=>?_) λ_ _ h'=>h'.elim)));cases r with
 |none=>exact Χ h₁
 |some v=>
  refine Γ (kw h₁ (λ_ s₀ h₀=>?_) λ_ _ h'=>h'.elim);refine Γ (kw h₀ (λ_ s₂ h₂=>Γ (kw h₂ (λok s₃ h₃=>?_) λ_ _ h'=>h'.elim)) λ_ _ h'=>h'.elim);cases ok with
  |false=>exact Χ ⟨rfl,h₃⟩
  |true=>
   exact Γ (Γ (kw h₃ (λx s₄ h₄=>Γ (kw h₄ (λ_ s₅ h₅=>Χ (Χ ⟨rfl,h₅⟩)) λ_ _ h'=>h'.elim)) λ_ _ h'=>h'.elim))
end
def AR (pick:List (Option Nat))(wi:TI)(g:TG)(tt:TT)(te:TE):TE:=λσ H Q=>wi σ H λJ H1=>∀l,H1 l=η->∃W:Nat->Nat->Hp->Prop,(∃m,W 0 m (upd H1 l (.lst [])))/\∀i m H,W i m H ->
 (J.stop i H/\Q (.ref l) H)\/(J.go i H/\∃N:Hp->Prop,(∀H',N H'->∃m',m'<m/\W (i+1) m' H')/\∀x H',J.Pe i H x H'->g x (iJ σ pick) H' λσ2 H2=>
  tt σ2 H2 λb H3=>if b=ζ then te σ2 H3 λy H4=>∃xs,H4 l=θ (.lst xs)/\xs.length<sizeLine/\N (upd H4 l (.lst (xs ++ [y]))) else N H3)
section
variable {X:Cx}{scope:Scope}{N':List Str}{pick:List (Option Nat)}{tg ii elt:Expr}{ifs:List Expr}{pos:GE}{wi:TI}{g:TG}{tt:TT}{te:TE}
theorem oO (S:fW X scope N' pick)(hc:X.calm=ζ)(Qo:∀C s0 H0 ex,PG (inner X scope N' C s0 H0 ex) tg g/\Ip (inner X scope N' C s0 H0 ex) ifs tt/\PE (inner X scope N' C s0 H0 ex) elt te)
  (gk:∀(v:V) (σ:L2.St) (H:Hp) (Q:L2.St->Hp->Prop),g v σ H Q->g v σ H λσ' H'=>Q σ' H'/\σ'.length=σ.length/\∀(i:Nat) u,pick[i]?≠θ η->σ[i]? = θ u->σ'[i]? = θ u)
  {σ:L2.St}{tn:Nat->Heap->Prop}{J:It}{E:Value->ρ->Prop}{RR:Value->Addr->Zl->ρ->Prop}(I:Inv X pins σ H s) (T:Turn X.prog X.w X.K tg J fp it tn) (st:tn 0 s.heap) (hf:∀b∈fp,kR X pins H b)
  (Q:VK) (h:∀l,H l=η->∃W:Nat->Nat->Hp->Prop,(∃m,W 0 m (upd H l (.lst [])))/\∀i m H,W i m H ->
   (J.stop i H/\Q (.ref l) H)\/(J.go i H/\∃N:Hp->Prop,(∀H',N H'->∃m',m'<m/\W (i+1) m' H')/\∀x H',J.Pe i H x H'->g x (iJ σ pick) H' λσ2 H2=>
    tt σ2 H2 λb H3=>if b=ζ then te σ2 H3 λy H4=>∃xs,H4 l=θ (.lst xs)/\xs.length<sizeLine/\N (upd H4 l (.lst (xs ++ [y]))) else N H3))
  (hR:∀(l C:Addr) (s':ρ) (H':Hp) (m:Str->Option Value),s'.heap.Ns C m->kR X pins H' C->Q (.ref l) H'->Inv X pins σ H' s'->RR (.ref l) C (.ok .next) s') :
  Ε (Ζ X.prog X.w) X.A (newList []) (λacc s₃=>Ε (Ζ X.prog X.w) X.A (YJ scope X.env.globals (jH X.env.cells scope.names []) [] X.env.qual η .none (θ X.env)) (λQA s₄=>
   FM (Ζ X.prog X.w) X.A (.compStart (.ListComp elt [⟨tg,ii,ifs,0⟩] scope pos) 0 (.ref it) acc { QA with scope:=ï scope X.env }) (RR acc QA.locals) s₄) E s₃) E s:=by
 have Qj:∀b∈fp,b<s.heap.objs.size:=λb hb=>let ⟨o,e,_⟩:=T.obj 0 _ st b hb;ω e
 refine ð (nfe ?_);dsimp only;have I3:Inv X pins σ (upd H s.heap.objs.size (.lst [])) { s with heap:=s.heap.push { cls:=.type "list",data:=.seq ([]:List Value).toArray } }:=I.OQ (ys:=[]) (its:=[]) (t':=s.toks) .nil (dn _);obtain⟨W,⟨m0,w0⟩,turn⟩:=h s.heap.objs.size I.fresh;have hC:(s.heap.push { cls:=.type "list",dict:=η,data:=.seq ([]:List Value).toArray }).objs.size=s.heap.objs.size+1:=xL ..;have WI:∀b∈fp,kR X pins (upd H s.heap.objs.size (.lst [])) b:=λb hb=>⟨by rw[aQ (bz (Qj b hb))];exact (hf b hb).1,(hf b hb).2⟩
 have P8:∀b o,(s.heap.push { cls:=.type "list",dict:=η,data:=.seq ([]:List Value).toArray }).get? b=θ o->(NE ((s.heap.push { cls:=.type "list",dict:=η,data:=.seq ([]:List Value).toArray }).push { cls:=.type "dict",data:=.dict #[] }) scope.names).get? b=θ o:=λb o e=>Yr _ _ b o (ψ _ e)
 have I4:=tW (s:={ s with heap:=s.heap.push { cls:=.type "list",dict:=η,data:=.seq ([]:List Value).toArray } }) S I3 WI (λb hb=>by show b<(s.heap.push _).objs.size;rw[hC];exact iy (Qj b hb));dsimp only at I4;generalize hh₁:NE ((s.heap.push { cls:=.type "list",dict:=η,data:=.seq ([]:List Value).toArray }).push { cls:=.type "dict",data:=.dict #[] }) scope.names=h₁ at *;have VQ:tn 0 h₁:=T.keep 0 _ _ st λb hb o e=>P8 b o (ψ _ e)
 generalize hY:inner X scope N' (s.heap.push { cls:=.type "list",dict:=η,data:=.seq ([]:List Value).toArray }).objs.size { s with heap:=s.heap.push { cls:=.type "list",dict:=η,data:=.seq ([]:List Value).toArray } } (upd H s.heap.objs.size (.lst [])) fp=Y at I4;have Qt:=Qo (s.heap.push { cls:=.type "list",dict:=η,data:=.seq ([]:List Value).toArray }).objs.size { s with heap:=s.heap.push { cls:=.type "list",dict:=η,data:=.seq ([]:List Value).toArray } } (upd H s.heap.objs.size (.lst [])) fp;rw[hY] at Qt;obtain⟨yg,yt,ye⟩:=Qt;have yE:Y.env=Í scope (am ((s.heap.push { cls:=.type "list",dict:=η,data:=.seq ([]:List Value).toArray }).objs.size+1) scope.names (jH X.env.cells scope.names [])) (s.heap.push { cls:=.type "list",dict:=η,data:=.seq ([]:List Value).toArray }).objs.size X.env:=by rw[<-hY];rfl
 have hCL:(s.heap.push { cls:=.type "list",dict:=η,data:=.seq ([]:List Value).toArray }).objs.size≠X.env.locals:=by
  rw[hC];exact ô (iy I.lt)
 have back:∀{H5:Hp}{s5:ρ},Inv Y [] (iJ σ pick) H5 s5->Q (.ref s.heap.objs.size) H5->RR (.ref s.heap.objs.size) (s.heap.push { cls:=.type "list",dict:=η,data:=.seq ([]:List Value).toArray }).objs.size (.ok .next) s5:=λ{H5 s5} I5 q=>by
  subst hY;obtain⟨m,hn,_⟩:=I5.loc;have J5:Inv X pins σ H5 s5:=Inv.QB I3 I5.os I5.base I5.Ll I5.bare λb hb=>by
   obtain⟨f0,f1,f2,f3,f4,f5⟩:=hf b hb;exact⟨f3,f1,f4,f5⟩
  have Wl:∀{b:Addr}{o:Obj},s.heap.get? b=θ o->b≠(s.heap.push { cls:=.type "list",dict:=η,data:=.seq ([]:List Value).toArray }).objs.size:=λe=>by rw[hC];exact bz (iy (ω e))
  refine hR _ _ s5 H5 m hn ⟨I5.free,hCL,I.PM (by rw[hC];exact X0 _),.inr (by rw[hC];exact Zv I.sz),λx c e z=>?_,λp hp z=>?_⟩ q J5
  .obtain⟨v,o,ho,_⟩:=I.cell x c e;exact Wl ho z
  .exact Wl (I.pin p hp).1 z
 have yP:Y.prog=X.prog:=by rw[<-hY];rfl
 have yw:Y.w=X.w:=by rw[<-hY];rfl
 have yK:Y.K=X.K:=by rw[<-hY];rfl
 have yA:Y.A=X.A:=by rw[<-hY];rfl
 have yc:Y.calm=ζ:=by rw[<-hY];exact hc
 have yx:Y.xe=λ_ _=>False:=by rw[<-hY];rfl
 have yp:Y.pn=[]:=by rw[<-hY];rfl
 have yex:Y.ex=fp:=by rw[<-hY];rfl
 have MF:∀{H':Hp},(∀b∈fp,H' b=η)->∀b∈fp,kR Y [] H' b:=λ{H'} hn b hb=>by
  have Mo:b∈Y.ex:=by rw[yex];exact hb
  obtain⟨x1,x2⟩:=I4.ok.T6 b Mo;exact⟨hn b hb,x1,I4.ok.NJ b Mo,.inl Mo,x2,λp hp=>by rw[yp] at hp;cases hp⟩
 rw[<-yP,<-yw,<-yA];have loop:FM (Ζ Y.prog Y.w) Y.A (.compLoop (.ListComp elt [⟨tg,ii,ifs,0⟩] scope pos) 0 (.ref it) (.ref s.heap.objs.size) Y.env) (RR (.ref s.heap.objs.size) (s.heap.push { cls:=.type "list",dict:=η,data:=.seq ([]:List Value).toArray }).objs.size) { s with heap:=h₁ }:=by
  refine uu (λn s5=>∃i H5,Inv Y [] (iJ σ pick) H5 s5/\tn i s5.heap/\(∀b∈fp,H5 b=η)/\W i n H5) ?_ m0 ⟨0,_,I4,VQ,λb hb=>(WI b hb).1,w0⟩;rintro n s5 ⟨i,H5,I5,Ph,Ri,w5⟩;rcases turn i n H5 w5 with ⟨stop,qn⟩|⟨go,N,hN,step⟩
  .have d:=T.done Y yP yw yK yc i [] s5 (iJ σ pick) H5 (λ_ _=>False) I5 (MF Ri) Ph stop;rw[<-yP,<-yw] at d;refine dG d λr s6 ⟨hr,I6⟩=>?_
   subst hr;exact back I6 qn
  .have d:=T.item Y yP yw yK yc i [] s5 (iJ σ pick) H5 (λ_ _=>False) I5 (MF Ri) Ph go;rw[<-yP,<-yw] at d;refine dG d λr s6 ⟨u,hr,h6⟩=>?_
   subst hr;refine dG h6 λ_ s7 ⟨x,H7,I7,r7,y7,RM,fr7⟩=>?_
   have I7':=I7.pinned (MF fr7) (T.obj _ _ RM);have VN:=yg _ s7 (iJ σ pick) H7 x u _ I7' r7 (gk _ _ _ _ (step x H7 y7));rw[yx] at VN;refine dG VN λ_ s8 ⟨σ8,H8,I8,q8,l8,k8⟩=>?_
   have VM:=yt _ s8 σ8 H8 _ I8 q8;rw[yx] at VM;refine dG VM λb s9 ⟨H9,I9,q9⟩=>?_
   have again:∀{σ':L2.St}{H':Hp}{s':ρ},Inv Y ([]++pg fp s7.heap) σ' H' s'->σ'=σ8->N H'->∃m,m<n/\∃i H5,Inv Y [] (iJ σ pick) H5 s'/\tn i s'.heap/\(∀b∈fp,H5 b=η)/\W i m H5:=λ{σ' H' s'} J e nn=>by
    subst e;obtain⟨m',hm,w'⟩:=hN H' nn;refine⟨m',hm,i+1,H',(J.LF).weak (l8.symm) (λj v e=>?_),T.keep _ _ _ RM λb hb o e=>(J.pin (b,o) (aq _ (aq _ (hV hb e)))).1,λb hb=>?_,w'⟩
    .refine k8 j _ (λz=>?_) e;unfold iJ at e;rw[π,z] at e;simp at e
    .obtain⟨o,e,_⟩:=T.obj _ _ RM b hb;exact (J.pin (b,o) (aq _ (aq _ (hV hb e)))).2.1
   cases b with
   |false=>
    rw[if_neg ba];exact again I9 rfl q9
   |true=>
    rw[if_pos rfl];have q9:te σ8 H9 λy H4=>∃xs,H4 s.heap.objs.size=θ (.lst xs)/\xs.length<sizeLine/\N (upd H4 s.heap.objs.size (.lst (xs ++ [y]))):=q9
    have VO:=ye _ s9 σ8 H9 _ I9 q9;rw[yx] at VO;refine dG VO λv s10 ⟨y,H10,I10,r10,xs,O8,z10,n10⟩=>?_
    have ap:=qy _ s10 σ8 H10 (.ref s.heap.objs.size) [y] (.ref s.heap.objs.size) [v] (λ_ H'=>N H') I10 rfl (.cons r10 .nil) ⟨s.heap.objs.size,xs,y,rfl,rfl,O8,z10,n10⟩;rw[yx] at ap;exact dG ap λ_ s11 ⟨_,H11,I11,_,n11⟩=>again I11 rfl n11
 show FM (Ζ Y.prog Y.w) Y.A (.compStart (.ListComp elt [⟨tg,ii,ifs,0⟩] scope pos) 0 (.ref it) (.ref s.heap.objs.size) (Í scope (am ((s.heap.push { cls:=.type "list",dict:=η,data:=.seq ([]:List Value).toArray }).objs.size+1) scope.names (jH X.env.cells scope.names [])) (s.heap.push { cls:=.type "list",dict:=η,data:=.seq ([]:List Value).toArray }).objs.size X.env))
  (RR (.ref s.heap.objs.size) (s.heap.push { cls:=.type "list",dict:=η,data:=.seq ([]:List Value).toArray }).objs.size) { s with heap:=h₁ }
 rw[<-yE];refine codeAny_compStart_list loop ?_;have l2:=loop;rw[yP,yw] at l2 ⊢;exact T.self Y.A 0 _ _ _ VQ l2
theorem iH (S:fW X scope N' pick)(hh:∀x,(X.env.kindOf x=θ .cell\/X.env.kindOf x=θ .free)->∃c,X.env.cells.lookup x=θ c):Z8 scope X.env=pure (jH X.env.cells scope.names []) :=
 wc λx hx=>hh x (S.outer x (S.free x hx))
theorem Dv (S:fW X scope N' pick)(hc:X.calm=ζ)(hi:PI X tg ii wi)(Qo:∀C s0 H0 ex,PG (inner X scope N' C s0 H0 ex) tg g/\Ip (inner X scope N' C s0 H0 ex) ifs tt/\PE (inner X scope N' C s0 H0 ex) elt te)
  (gk:∀(v:V) (σ:L2.St) (H:Hp) (Q:L2.St->Hp->Prop),g v σ H Q->g v σ H λσ' H'=>Q σ' H'/\σ'.length=σ.length/\∀(i:Nat) u,pick[i]?≠θ η->σ[i]? = θ u->σ'[i]? = θ u) (hs:∀x,wE ii X.env x=pure x) :
  PE X (.ListComp elt [⟨tg,ii,ifs,0⟩] scope pos) (AR pick wi g tt te):=by
 intro pins s σ H Q I h;rw[eval_ListComp];refine YX (use:=η) rfl hs (iH S I.ok.has) S.kind S.names (dG (hi pins s σ H _ I h) λv s1 h1=>dG h1 λQ6 s2 h2=>?_);obtain⟨it,fp,tn,J,H2,e,I2,T,PC,f2,q⟩:=h2;subst e;refine oO (RR:=λacc C=>compPost (Ζ X.prog X.w) X.A X.xe η (EP X pins σ Q) acc C) S hc Qo gk I2 T PC f2 Q q λl C s' H' m hn fc hq J0=>?_
 obtain⟨f0,f1,f2,f3,f4,f5⟩:=fc;exact⟨m,hn,λh' sb=>⟨.ref l,H',J0.turned (t':=s'.toks) (λb o hb e=>sb.extBut b o hb e) f0 f1 f3 f4 f5,rfl,hq⟩⟩
theorem uO {PD:GE}(S:fW X scope N' pick)(hc:X.calm=ζ)(hi:PI X tg ii wi)(Qo:∀C s0 H0 ex,PG (inner X scope N' C s0 H0 ex) tg g/\Ip (inner X scope N' C s0 H0 ex) ifs tt/\PE (inner X scope N' C s0 H0 ex) elt te)
  (gk:∀(v:V) (σ:L2.St) (H:Hp) (Q:L2.St->Hp->Prop),g v σ H Q->g v σ H λσ' H'=>Q σ' H'/\σ'.length=σ.length/\∀(i:Nat) u,pick[i]?≠θ η->σ[i]? = θ u->σ'[i]? = θ u) (hs:∀x,wE ii X.env x=pure x)
  (hN:X.N.Nodup) (hx:X.N[i]? = θ x) (hl:Loc X.env.scope x) (hf:X.fn x=ζ\/X.env.scope.names.lookup x=θ .local) (Pl:GT (.ListComp elt [⟨tg,ii,ifs,0⟩] scope pos) (θ (.Name x pos')) PD.line X.env=pure ζ) :
  PS X (.Assign [.Name x pos'] (.ListComp elt [⟨tg,ii,ifs,0⟩] scope pos) PD) (yu (AR pick wi g tt te) (qF i)):=by
 intro pins s σ H D I h;rw[exec_Assign_Name_used _ _ _ _ Pl];refine Γ (YT (Γ ?_));show Ε _ X.A (do let _ <- comprehension (.ListComp elt [⟨tg,ii,ifs,0⟩] scope pos) scope X.env _ (newList []) ε (eval ii X.env) (θ (WF (.Name x pos') X.env))) _ _ s;refine Γ (kw (YX (use:=θ (WF (.Name x pos') X.env)) (Q:=λ_ s'=>SP X pins D .next s') rfl hs (iH S I.ok.has) S.kind S.names
  (dG (hi pins s σ H _ I h) λv s1 h1=>dG h1 λQ6 s2 h2=>?_)) (λ_ s' hq=>Χ (Χ hq)) λ_ _ e=>e)
 obtain⟨it,fp,tn,J,H2,e,I2,T,PC,f2,q⟩:=h2;subst e;refine oO (RR:=λacc C=>compPost (Ζ X.prog X.w) X.A X.xe (θ (WF (.Name x pos') X.env)) (λ_ s'=>SP X pins D .next s') acc C) S hc Qo gk I2 T PC f2 (λx H1=>qF i x σ H1 D.nx) q λl C s' H' m hn fc hq J0=>?_
 obtain⟨o,es,ep,ho,hd,hr⟩:=id hn;have J1:=J0.pinned (fp:=[C]) (λb hb=>by rw[gu.mp hb];exact fc) λb hb=>by rw[gu.mp hb];exact⟨o,ho,λv z=>by rw[hd] at z;cases z⟩
 show Ε (Ζ X.prog X.w) X.A (WF (.Name x pos') X.env (.ref l)) _ _ s';refine ä (mh J1 hN hx hl (v:=.ref l) rfl (λs2 I2=>?_) hf);have hC2:=(I2.pin (C,o) (aq _ (aq _ (hV (by simp) ho)))).1;obtain⟨f0,f1,f2,f3,f4,f5⟩:=fc;refine⟨m,⟨o,es,ep,hC2,hd,hr⟩,λh' sb=>?_⟩;exact⟨_,H',I2.LF.turned (t':=s2.toks) (λb o hb e=>sb.extBut b o hb e) f0 f1 f3 f4 f5,hq⟩
end
noncomputable def fZ (own:Nat)(pick:List Nat):List (Option Nat):=ν own η++pick.map θ
theorem rN (σ:L2.St)(pk:List (Option Nat)):(iJ σ pk).length=pk.length:=by simp[iJ]
theorem qe (env:En)(own:Nat)(pick:List Nat):(aO env own pick).length=own+pick.length:=by simp[aO]
noncomputable def rq (F:Nat->List Addr)(env:En)(own:Nat)(pick:List Nat):Nat->List Addr:=λi=>match (aO env own pick)[i]? with
 |some (θ _)=>match pick[i-own]? with
  |some j=>F j
  |none=>[]
 |_=>[]
variable {own:Nat}{pick:List Nat}
theorem gZ {env:En}{d:D}{t:Tg}(h:(aO env own pick)[i]? = θ (θ (d,t))):t=.sh []/\own<=i/\∃j t0,pick[i-own]? = θ j/\env[j]? = θ (θ (d,t0)):=by
 unfold aO at h;by_cases hi:i<own
 .rw[Θ (by simpa using hi),Ω] at h;split at h<;>cases h
 .have hi:own<=i:=i7 hi;rw[Μ (by simpa using hi),bf,π] at h;cases hp:pick[i-own]? with
  |none=>rw[hp] at h;cases h
  |some j=>
   rw[hp] at h;simp only[bw,da] at h;split at h
   .rename_i d0 t0 q;cases h;exact⟨rfl,hi,j,t0,rfl,q⟩
   .cases h
section
variable {K:Frag}{P:Addr->Prop}{env:En}{σ:L2.St}{H:Hp}{F:Nat->List Addr}
theorem RE.picked (re:RE K P env σ H F)(own:Nat)(pick:List Nat):RE K (λ_=>False) (aO env own pick) (iJ σ (fZ own pick)) H (rq F env own pick) where
 len:=by rw[qe,rN];simp[fZ]
 val:=λi d t h=>by
  obtain⟨rfl,hi,j,t0,hp,he⟩:=gZ h;obtain⟨v,e,r⟩:=re.val j d t0 he;refine⟨v,?_,?_⟩
  .unfold iJ fZ;rw[π,Μ (by simpa using hi),bf,π,hp];simp[e]
  .unfold rq;rw[h,hp];exact r
 MN:=λi h=>by
  unfold rq;split
  .rename_i p q;exact absurd q (h p.1 p.2)
  .rfl
 one:=λi d t h o=>by
  obtain⟨rfl,_⟩:=gZ h;cases o
 wr:=λi d h=>by
  obtain⟨q,_⟩:=gZ h;cases q
 pl:=λ_ h=>h.elim
theorem x6 (re:RE K P env σ H F)(h:a∈rq F env own pick i):∃j∈pick,∃d t,a∈F j/\env[j]? = θ (θ (d,t)):=by
 unfold rq at h;split at h
 .rename_i p q;obtain⟨_,hi,j,t0,hp,he⟩:=gZ (d:=p.1) (t:=p.2) q;rw[hp] at h;exact⟨j,Α hp,p.1,t0,h,he⟩
 .cases h
end
noncomputable def Ia (K:Frag)(T:Tb):nY->TT
 |.none=>λ_ H Q=>Q ζ H
 |.some c=>pX K T c
section
variable {X:Cx}{T:Tb}{scope:Scope}{N':List Str}{own:Nat}{pick:List Nat}{t:nQ}{it:tX}{c:nY}{e:Ex}
theorem GW {σ:L2.St}{Q:Bool->Hp->Prop}{P:Addr->Prop}{env:En}{k:Bool}(re:RE X.K P env σ H F)(hk:nT T c env=.ok k)(q:∀H',aN H H'->Q k H'):Ia X.K T c σ H Q:=by
 cases c with
 |none=>
  unfold nT at hk;cases hk;exact q H (aN.refl _)
 |some c=>
  unfold nT at hk;obtain⟨p,h1,h2⟩:=Rs.Le hk;exact⟨P,env,F,re,p,k,h1,dF h2,q⟩
theorem qC {σ:L2.St}(h:tE X.K T (.comp own pick t it c e) σ H Q):AR (fZ own pick) (tI X.K T it) (uT X.K t) (Ia X.K T c) (tE X.K T e) σ H Q:=by
 obtain⟨P,env,F,re,p0,Lf,k⟩:=h;unfold ev at Lf;obtain⟨p,h1,Lf⟩:=Rs.Le Lf;obtain⟨QI,h2,Lf⟩:=Rs.Le Lf;have N6:p.1.length<=lim:=gb λhn=>by rw[if_neg hn] at Lf;cases Lf
 rw[if_pos N6] at Lf;cases Lf;refine⟨P,env,F,re,p,h1,λJ H1 Gs s1 rt nn wk l hl=>?_⟩;have L6:=re.same s1;have wk:=wk (λa=>a∈Gs) λa ha=>ha
 let S0:Addr->Prop:=λa=>a∈Gs\/∃j∈pick,∃d t,a∈F j/\env[j]? = θ (θ (d,t))
 have S0n:∀a,S0 a->H1 a≠η:=λa ha=>by
  rcases ha with ha|⟨j,_,d,t,m,ej⟩
  .exact nn a ha
  .exact L6.nn ej m
 have lS:¬ S0 l:=λz=>S0n l z hl
 refine⟨λi m H2=>m=p.1.length-i/\i<=p.1.length/\∃(acc rest:List (D×Rt)) (vs:List V) (G:List Addr),fE (λd=>bM (be [] t d (aO env own pick)) (nT T c) (ev T e)) (p.1.drop i)=.ok rest/\QI=acc++rest/\acc.length<=i/\H2 l=θ (.lst vs)/\aK X.K H2 (acc.map (·.1)) vs G/\aN H1 H2/\l∉G /\
  (∀a∈G,H1 a=η\/S0 a)/\(acc.all (λq=>q.1.flat || gC q.2)=ζ->G.Nodup/\∀a∈G,H1 a=η/\∃ws:ML,H2 a=θ ws.o),?_,?_⟩
 .refine⟨p.1.length,by simp,dn _,[],QI,[],[],by simpa using h2,rfl,au _,bH,.nil,aN.new hl,by simp,λ_ h=>(nomatch h),λ_=>⟨bj,λ_ h=>(nomatch h)⟩⟩
 .rintro i m H2 ⟨rfl,hi,acc,rest,vs,G,ND,N4,NH,Ot,rs,s2,Ql,hG,Tq⟩;obtain⟨w1,w2⟩:=wk H2 (jV.of_same (λa ha=>nn a ha) s2);by_cases LB:i<p.1.length
  .right;have hd:p.1[i]? = θ p.1[i]:=by simp[LB]
   obtain⟨g1,g2⟩:=w1 i _ hd;refine⟨g1,λH3=>i+1<=p.1.length/\∃(acc rest:List (D×Rt)) (vs:List V) (G:List Addr),fE (λd=>bM (be [] t d (aO env own pick)) (nT T c) (ev T e)) (p.1.drop (i+1))=.ok rest/\QI=acc++rest/\acc.length<=i+1/\H3 l=θ (.lst vs)/\aK X.K H3 (acc.map (·.1)) vs G/\aN H1 H3/\l∉G /\
    (∀a∈G,H1 a=η\/S0 a)/\(acc.all (λq=>q.1.flat || gC q.2)=ζ->G.Nodup/\∀a∈G,H1 a=η/\∃ws:ML,H3 a=θ ws.o),λH3 q=>⟨p.1.length-(i+1),by omega,rfl,q⟩,λx H3 y=>?_⟩
   obtain⟨s3,G3,RW,Nn⟩:=g2 x H3 y;rw[Yg LB] at ND;unfold fE at ND;obtain⟨o,LD,ND⟩:=Rs.Le ND;obtain⟨Oj,Oq,ND⟩:=Rs.Le ND;cases hb:be [] t p.1[i] (aO env own pick) with
   |none=>rw[hb] at LD;cases LD
   |some L5=>
    rw[hb] at LD;unfold bM at LD;obtain⟨kc,Ti,LD⟩:=Rs.Le LD;have rep:=(L6.same (s2.trans s3)).picked own pick;let Z:Addr->Prop:=λa=>S0 a
    have zF:∀i,∀a∈rq F env own pick i,Z a:=λi a ha=>by
     obtain⟨j,hj,d,t,m,ej⟩:=x6 (L6.same (s2.trans s3)) ha;exact .inr ⟨j,hj,d,t,m,ej⟩
    refine uE (Z:=Z) rep zF RW (λa ha=>.inl (Nn a ha)) (λa ha j d' t' ej o m=>?_) hb λσ4 F4 Nq z4 _=>?_
    .obtain⟨rfl,_⟩:=gZ ej;cases o
    .refine GW Nq Ti λH5 s5=>?_
     have MY:=s2.trans (s3.trans s5);have l5:H5 l=θ (.lst vs):=s5 _ _ (s3 _ _ Ot);cases kc with
     |false=>
      show if ε=ζ then _ else _
      rw[if_neg ba];simp only[a8,if_false] at LD;cases LD;cases ND;refine⟨LB,acc,Oj,vs,G,Oq,N4,Zv NH,l5,rs.same (s3.trans s5),MY,Ql,hG,λf=>?_⟩;obtain⟨n1,n2⟩:=Tq f;exact⟨n1,λa ha=>⟨(n2 a ha).1,let ⟨ws,q⟩:=(n2 a ha).2;⟨ws,s5 _ _ (s3 _ _ q)⟩⟩⟩
     |true=>
      show if ζ=ζ then _ else _
      rw[if_pos rfl];simp only[if_true] at LD;obtain⟨q,hq,LD⟩:=Rs.Le LD;cases LD;cases ND;refine⟨_,L5,F4,Nq.same s5,q,hq,λyv H6 Gy s6 VW VU=>?_⟩;have l6:H6 l=θ (.lst vs):=s6 _ _ l5;have QD:=MY.trans s6;have PK:=s3.trans (s5.trans s6);have yS:∀a∈Gy,H5 a=η\/S0 a:=λa ha=>(VU.cont a ha).imp id λ⟨i,d,t,m,_⟩=>z4 i a m
      have ly:l∉Gy:=λz=>by
       rcases yS l z with q|q
       .rw[l5] at q;cases q
       .exact lS q
      have SF:vs.length=acc.length:=by have:=rs.len;rw[ai] at this;exact this.symm
      refine⟨vs,l6,iq (cu (õ SF) (cu NH (XM (ay LB N6)))) (by decide),LB,acc ++ [q],Oj,vs ++ [yv],G++(Gy ++ []),Oq,by rw[N4];simp,by simp;exact NH,bH,?_,?_,?_,?_,?_⟩
      .rw[bq];exact (aK.append (rs.same PK) (.cons VW .nil)).upd l6 (by simp;exact⟨Ql,ly⟩)
      .intro b o e;rw[aQ (λz=>by subst z;rw[hl] at e;cases e)];exact QD _ _ e
      .simp;exact⟨Ql,ly⟩
      .intro a ha;rw[bc] at ha;rcases il.mp ha with ha|ha
       .exact hG a ha
       .exact (yS a ha).imp (aN.no MY) id
      .intro f;rw[List.all_append,aj] at f;obtain⟨n1,n2⟩:=Tq f.1;have fy:Gy.Nodup/\∀a∈Gy,H5 a=η/\∃ws:ML,H6 a=θ ws.o:=by
        have f2:q.1.flat=ζ\/gC q.2=ζ:=by simpa using f.2
        rcases f2 with f2|f2
        .rw[VW.flat f2];exact⟨bj,λ_ h=>(nomatch h)⟩
        .have:q.2=.mv []:=by
          cases hr:q.2 with
          |sh R=>rw[hr] at f2;cases f2
          |mv R=>cases R with
           |nil=>rfl
           |cons a b=>rw[hr] at f2;cases f2
         obtain⟨m1,m2,m3⟩:=VU.mv [] this;refine⟨m1,λa ha=>⟨?_,m2 a ha⟩⟩;rcases m3 a ha with z|⟨_,_,_,z,_⟩
         .exact z
         .cases z
       rw[bc];refine⟨fi.mpr ⟨n1,fy.1,λa ha b hb z=>?_⟩,λa ha=>?_⟩
       .subst z;obtain⟨_,ws,w⟩:=n2 a ha;have:=s5 _ _ (s3 _ _ w);rw[(fy.2 a hb).1] at this;cases this
       .have ne:a≠l:=λz=>by
         subst z;rcases il.mp ha with ha|ha
         .exact Ql ha
         .exact ly ha
        rcases il.mp ha with ha|ha
        .obtain⟨u1,ws,w⟩:=n2 a ha;exact⟨u1,ws,by rw[aQ ne];exact PK _ _ w⟩
        .obtain⟨u1,ws,w⟩:=fy.2 a ha;exact⟨aN.no MY u1,ws,by rw[aQ ne];exact w⟩
  .left;have ei:i=p.1.length:=by omega
   subst ei;refine⟨w2,?_⟩;rw[Zu] at ND;unfold fE at ND;cases ND;rw[bc] at N4;subst N4;refine k _ H2 (l::G) (s1.trans s2) (.lst (.inl Ot) rs) ?_;have Rb:=aN.no s1 hl;cases hf:QI.all (λq=>q.1.flat || gC q.2) with
   |true=>
    obtain⟨n1,n2⟩:=Tq hf;have new:∀a∈l::G,H a=η:=λa ha=>by
     rcases fe.mp ha with rfl|ha
     .exact Rb
     .exact aN.no s1 (n2 a ha).1
    refine⟨λa ha=>.inl (new a ha),λR e=>⟨jy.mpr ⟨Ql,n1⟩,λa ha=>?_,λa ha=>.inl (new a ha)⟩⟩;rcases fe.mp ha with rfl|ha
    .exact⟨.l _,Ot⟩
    .exact (n2 a ha).2
   |false=>
    refine⟨λa ha=>?_,λR e=>by cases e⟩;rcases fe.mp ha with rfl|ha
    .exact .inl Rb
    .rcases hG a ha with q|q|⟨j,hj,d,t,m,ej⟩
     .exact .inl (aN.no s1 q)
     .exact (rt.cont a q).imp id λ⟨i,d,t,x,y,z⟩=>⟨i,d,t,x,y,λr hr=>a9 _ (z r hr)⟩
     .refine .inr ⟨j,d,t,m,ej,λr hr=>aq _ ?_⟩;unfold qO;rw[XW];exact⟨bG j t,χ.mpr ⟨j,hj,by rw[ej]⟩,hr⟩
theorem rf {t:nQ}{pk:List (Option Nat)}(ht:∀i,(t=.nm i\/∃is,t=.tp is/\i∈is)->pk[i]? = θ η)(v:V)(σ:L2.St)(H:Hp)(Q:L2.St->Hp->Prop)(h:uT K t v σ H Q) :
  uT K t v σ H λσ' H'=>Q σ' H'/\σ'.length=σ.length/\∀(i:Nat) u,pk[i]?≠θ η->σ[i]? = θ u->σ'[i]? = θ u:=by
 cases t with
 |nm i=>exact⟨h,by simp,λj u hj e=>by rw[μ];exact e;rintro rfl;exact hj (ht i (.inl rfl))⟩
 |tp is=>
  obtain⟨a,xs,e1,e2,e3,h⟩:=h;refine⟨a,xs,e1,e2,e3,?_⟩;have gen:∀(is:List Nat) (xs:List V) (σ1:L2.St),(∀i∈is,pk[i]? = θ η)->σ1.length=σ.length->(∀(i:Nat) u,pk[i]?≠θ η->σ[i]? = θ u->σ1[i]? = θ u)->gU is xs σ1 H Q->gU is xs σ1 H λσ' H'=>Q σ' H'/\σ'.length=σ.length/\∀(i:Nat) u,pk[i]?≠θ η->σ[i]? = θ u->σ'[i]? = θ u:=by
   intro is
   induction is with
   |nil=>intro xs σ1 _ hl hk h;exact⟨h.1,h.2,hl,hk⟩
   |cons j js ih=>
    intro xs σ1 hi hl hk h;obtain⟨v,r,e,h⟩:=h;refine⟨v,r,e,ih r (σ1.set j (θ v)) (λi hm=>hi i (aa _ hm)) (by simp[hl]) (λi u Mn e'=>?_) h⟩;rw[μ];exact hk i u Mn e';rintro rfl;exact Mn (hi j ag)
  exact gen is xs σ (λi hm=>ht i (.inr ⟨is,rfl,hm⟩)) rfl (λ_ _ _ e=>e) h
end
def jG (K:Frag)(T:Tb)(x:Nat)(path:nY):TE:=λσ H Q=>∃P env F po v p,RE K P env σ H F/\jW T path env=.ok po/\σ[x]? = θ (θ v)/\PV K H v po p/\∀H',aN H H'->Q (.ref p) H'
section
variable {X:Cx}{T:Tb}{pos:GE}{i:Nat}{x:Str}
theorem u6 (hN:X.N[i]? = θ x)(hv:Cs X.env.scope x)(hd:(x==("__debug__" : Str))=ε) (Mh:(x==("__classdict__" : Str))=ε):PE X (.Name x pos) (jG X.K T i .none):=by
 refine bX (rR hN hv hd Mh) λσ H Q ⟨P,env,F,po,v,p,re,MB,hv,pv,k⟩=>?_
 unfold jW at MB;cases MB;cases pv;exact⟨_,hv,k H (aN.refl _)⟩
theorem Ef (hN:X.N[i]? = θ x)(hv:Cs X.env.scope x)(hd:(x==("__debug__" : Str))=ε) (Mh:(x==("__classdict__" : Str))=ε) (he:PE X e (tE X.K T c)) (hs:oj e):PE X (.Subscript (.Name x pos') e pos) (jG X.K T i (.some c)):=by
 refine bX (Fd (xy.or z9) (rR hN hv hd Mh) he hs) λσ H Q ⟨P,env,F,po,v,p,re,MB,hv,pv,k⟩=>?_
 unfold jW at MB;obtain⟨q,h1,MB⟩:=Rs.Le MB;cases hq:q.1 with
 |int j=>
  rw[hq] at MB;cases MB;refine⟨v,hv,P,env,F,re,q,h1,λw H1 G s OG VV=>?_⟩;rw[hq] at OG;obtain⟨rfl,_⟩:=OG.int_inv;cases pv with
  |item h hj e=>
   rename_i r ws n;have Mb:E9 ws j=θ (.ref p):=by
    unfold E9;rw[<-A8,hj];exact e
   rcases h with h|h
   .exact .inl ⟨r,ws,j,.ref p,rfl,rfl,.inl (aN.rd s h),Mb,k H1 s⟩
   .exact .inr ⟨r,ws,j,.ref p,rfl,rfl,aN.sqT s h,Mb,k H1 s⟩
 |_=>rw[hq] at MB;cases MB
end
def pK (K:Frag)(m:sj):V->List V->Hp->VK->Prop:=λx vs H Q=>∃l ws xs ds Gx G ys,x=.ref l/\H l=θ (.lst ws)/\aK K H xs ws Gx/\aK K H ds vs G/\yy m xs ds=θ ys/\ys.length<=lim/\l∉Gx/\l∉G/\Gx.Nodup /\
 ∀us Gy v,aK K (upd H l (.lst us)) ys us Gy->(∀a∈Gy,a∈Gx\/(m.Lz=ε/\a∈G))->((∀a∈Gx,a∉G)->G.Nodup\/m.Lz=ζ->Gy.Nodup)->Q v (upd H l (.lst us))
variable {T:Tb}{path:nY}
section
variable {X:Cx}
def Az:V->List V->Hp->VK->Prop:=λx vs H Q=>∃l b xs zs,x=.ref l/\vs=[.ref b]/\H l=θ (.lst xs)/\Rd H b (.lst zs)/\xs.length+zs.length<=sizeLine/\Q .Lj (upd H l (.lst (xs++zs)))
theorem vO:DC X "list.extend" Az:=by
 intro pins s σ H x vs v us Q I rx rv h;obtain⟨l,b,xs,zs,rfl,rfl,hH,hB,hz,q⟩:=h;cases rx;obtain⟨u,rfl,ru⟩:=rv.one;cases ru;obtain⟨z,its,n,r,hl,e⟩:=I.vD hH;obtain⟨z2,MI,n2,r2,Ot,e2⟩:=Inv.N3 I hB;have hsz:its.toArray.size+MI.toArray.size<=sizeLine:=by rw[ao,ao];omega
 have NA:¬ (!its.toArray.isEmpty&&wp (its.toArray.size+MI.toArray.size))=ζ:=by
  rw[tw hsz,Bool.and_false];exact ba
 refine EQ F.slot_list_extend ⟨_,e,rfl⟩ F.entry_list_extend (F.args_list_extend_2 _ _)
  (ę l its.toArray n b MI.toArray n2 NA (by rw[ao];omega) (by omega)) ⟨e,e2,?_⟩
 refine⟨.Lj,_,I.Nv (its':=its++MI) hH e (by simp) (r.append r2) ?_,rfl,q⟩;rw[az];omega
theorem j6:DC X "list.append" (pK X.K .append):=by
 intro pins s σ H x vs v us Q I rx rv h;obtain⟨l,ws,xs,ds,Gx,G,ys,rfl,hl,r1,r2,hm,hlen,n1,n2,nd,k⟩:=h
 match ds,hm with
 |[d],hm=>
  cases hm;obtain⟨y,rfl,rp⟩:=r2.Mu;refine qy pins s σ H _ _ v us Q I rx rv ⟨l,ws,y,rfl,rfl,hl,?_,k (ws ++ [y]) (Gx++(G ++ [])) _ ?_ (λa ha=>?_) λdj o=>?_⟩
  .rw[<-r1.len];simp only[az,i4] at hlen;exact ay (ay (i5 _) hlen) sC
  .exact (r1.append (.cons rp .nil)).upd hl (by simp;exact⟨n1,n2⟩)
  .simp at ha;exact ha.imp id λz=>⟨rfl,z⟩
  .rcases o with o|o
   .rw[bc];exact fi.mpr ⟨nd,o,λa ha b hb z=>by subst z;exact dj a ha hb⟩
   .cases o
theorem u9:DC X "list.extend" (pK X.K .extend):=by
 intro pins s σ H x vs v us Q I rx rv h;obtain⟨l,ws,xs,ds,Gx,G,ys,rfl,hl,r1,r2,hm,hlen,n1,n2,nd,k⟩:=h
 match ds,hm with
 |[.lst zs],hm=>
  obtain⟨hf,hm⟩:=zt hm;cases hm;obtain⟨y,rfl,rp⟩:=r2.Mu;obtain⟨b,wz,gz,rfl,rfl,a1,a2⟩:=rp.lst_inv;have eg:gz=[]:=a2.flat hf;subst eg;refine vO pins s σ H _ _ v us Q I rx rv ⟨l,b,ws,wz,rfl,rfl,hl,a1,?_,k (ws++wz) (Gx ++ []) _ ?_ (λa ha=>?_) λ_ _=>?_⟩
  .rw[<-r1.len,<-a2.len];simp only[az] at hlen;exact cu hlen sC
  .exact (r1.append a2).upd hl (by simp;exact n1)
  .simp at ha;exact .inl ha
  .rw[bc];exact nd
theorem yk:DC X "list.clear" (pK X.K .clear):=by
 intro pins s σ H x vs v us Q I rx rv h;obtain⟨l,ws,xs,ds,Gx,G,ys,rfl,hl,r1,r2,hm,hlen,n1,n2,nd,k⟩:=h
 match ds,hm with
 |[],hm=>
  cases hm;cases r2;exact AE pins s σ H _ _ v us Q I rx rv ⟨l,ws,rfl,rfl,hl,k [] [] _ .nil (λ_ ha=>(nomatch ha)) λ_ _=>bj⟩
theorem aK.erase:∀{xs:List Pc.D}{ws:List V}{G:List Addr}{j:Nat}{r:Pc.D},aK K H xs ws G->xs[j]? = θ r->∃u B A,ws[j]? = θ u/\Rep K H r u B/\aK K H (xs.eraseIdx j) (ws.eraseIdx j) A/\List.Perm G (B++A)
 |_,_,_,_,_,.nil,e=>by simp at e
 |_,_,_,0,_,.cons (G:=G) (G':=G') h r,e=>by
  simp at e;subst e;exact⟨_,G,G',rfl,h,r,.refl _⟩
 |_,_,_,j+1,d,.cons (G:=G) (G':=G') h r,e=>by
  obtain⟨u,B,A,e1,e2,e3,e4⟩:=aK.erase (j:=j) r (by simpa using e);refine⟨u,B,G++A,by simpa using e1,e2,.cons h e3,?_⟩;refine (Ċ G e4).trans ?_;rw[<-ef,<-ef];exact ċ A YK
def ET (K:Frag):V->List V->Hp->VK->Prop:=λx vs H Q=>∃l ws xs ds Gx G q,x=.ref l/\H l=θ (.lst ws)/\aK K H xs ws Gx/\aK K H ds vs G/\sE xs ds=θ q/\l∉Gx/\Gx.Nodup /\
 ∀w us Gy,Rep K (upd H l (.lst us)) q.1 w []->aK K (upd H l (.lst us)) q.2 us Gy->(∀a∈Gy,a∈Gx)->Gy.Nodup->Q w (upd H l (.lst us))
theorem o9 {xs:List Pc.D}{ws:List V}{Gx:List Addr}{q:Pc.D×List Pc.D}(hl:H l=θ (.lst ws))(r1:aK K H xs ws Gx)(n1:l∉Gx)(nd:Gx.Nodup)(hp:nO xs j=θ q) :
  ∃u Gy,ws[j]? = θ u/\Rep K (upd H l (.lst (ws.eraseIdx j))) q.1 u []/\aK K (upd H l (.lst (ws.eraseIdx j))) q.2 (ws.eraseIdx j) Gy/\(∀a∈Gy,a∈Gx)/\Gy.Nodup:=by
 unfold nO at hp;cases hj:xs[j]? with
 |none=>rw[hj] at hp;cases hp
 |some r=>
  rw[hj] at hp;by_cases hf:r.flat=ζ
  .simp only[hf,if_true] at hp;cases hp;obtain⟨u,B,A,e1,e2,e3,e4⟩:=r1.erase hj;have eb:=e2.flat hf;subst eb;exact⟨u,A,e1,e2.upd hl (by simp),e3.upd hl (λz=>n1 (e4.symm.subset z)),λa ha=>e4.symm.subset ha,e4.nodup_iff.mp nd⟩
  .simp only[hf,if_false] at hp;cases hp
theorem BP (n:Nat)(i:Int)(h:Pc.kQ n i=θ j):Yd i n=θ j:=by
 unfold Pc.kQ at h;unfold Yd;by_cases h0:0<=i
 .rw[if_pos h0] at h;by_cases h1:i<n
  .rw[if_pos h1] at h;cases h;have:¬ i<0:=by omega
   simp[this];omega
  .rw[if_neg h1] at h;cases h
 .rw[if_neg h0] at h;by_cases h1 : -(n:Int)<=i
  .rw[if_pos h1] at h;cases h;have:i<0:=by omega
   simp[this];omega
  .rw[if_neg h1] at h;cases h
theorem Dg:DC X "list.pop" (ET X.K):=by
 intro pins s σ H x vs v us Q I rx rv h;obtain⟨l,ws,xs,ds,Gx,G,q,rfl,hl,r1,r2,hm,n1,nd,k⟩:=h
 match ds,hm with
 |[],hm=>
  cases r2;obtain⟨u,Gy,e1,e2,e3,e4,e5⟩:=o9 hl r1 n1 nd hm;rw[r1.len] at e1 e2 e3;have kk:=k u _ Gy e2 e3 e4 e5;rw[pS] at kk;exact Fm pins s σ H _ _ v us Q I rx rv ⟨l,ws,u,rfl,rfl,hl,e1,kk⟩
 |[.int i],hm=>
  simp only[sE] at hm;by_cases hi : -(2 ^ 63)<=i/\i<2 ^ 63
  .rw[if_pos hi,ah] at hm;obtain⟨j,hj,hm⟩:=hm;obtain⟨y,rfl,rp⟩:=r2.Mu;obtain⟨rfl,_⟩:=rp.int_inv;obtain⟨u,Gy,e1,e2,e3,e4,e5⟩:=o9 hl r1 n1 nd hm;rw[r1.len] at hj;exact B9 pins s σ H _ _ v us Q I rx rv ⟨l,ws,i,j,u,rfl,rfl,hl,hi.1,hi.2,BP _ _ hj,e1,k u _ Gy e2 e3 e4 e5⟩
  .rw[if_neg hi] at hm;cases hm
theorem Cd {x:Nat}{p:Option Int}{env:En}{d:D}{ys:List D}{rs:List Rt}:(∃e,dU x p env d ys rs=.nx e)\/dU x p env d ys rs=.bad:=by
 unfold dU;split
 .exact .inr rfl
 .split
  .exact .inl ⟨_,rfl⟩
  .exact .inr rfl
theorem za {y:Nat}{D:Ends}{σ:L2.St}(h:tS X.K T (.M6 y i cs) D σ H):oV (DB X.K "list" (pK X.K .append) (jG X.K T y .none) (iC (DB X.K "list" (ET X.K) (jG X.K T i .none) (qL X.K T cs)) yV)) D σ H:=by
 obtain⟨P,Z,env,F,re,hz,zp,h⟩:=h;unfold bC at h;by_cases SO:y=i
 .rw[if_pos SO] at h;exact h.elim
 rw[if_neg SO] at h;cases hx:ownAt env i with
 |none=>rw[hx] at h;exact h.elim
 |some d=>
  rw[hx] at h;simp only at h;cases Mb:d.LL η with
  |none=>rw[Mb] at h;exact h.elim
  |some xs=>
   rw[Mb] at h;obtain⟨l,hl,h⟩:=cL h;cases hm:sE xs (l.map (·.1)) with
   |none=>rw[hm] at h;exact h.elim
   |some q=>
    rw[hm] at h;simp only at h;rcases Cd (x:=i) (p:=η) (env:=env) (d:=d) (ys:=q.2) (rs:=[]) with ⟨env',NT⟩|NT
    rotate_left
    .rw[NT] at h;exact h.elim
    rw[NT] at h;have h:post X.K P Z env F H D (match ownAt env' y with
     |none=>.bad
     |some dy=>(match dy.LL η with
      |none=>.bad
      |some ys=>dU y η env' dy (ys ++ [q.1]) [])):=h
    cases hy:ownAt env' y with
    |none=>rw[hy] at h;exact h.elim
    |some dy=>
     rw[hy] at h;simp only at h;cases N8:dy.LL η with
     |none=>rw[N8] at h;exact h.elim
     |some ys=>
      rw[N8] at h;simp only at h;have LM:=dC hx;have Q8:=dC hy;have Wr:ownAt env y=θ dy:=by
       unfold dU at NT;split at NT
       .cases NT
       .split at NT
        .cases NT;rw[μ (cv SO)] at Q8;unfold ownAt;rw[(bO Q8).1]
        .cases NT
      have SQ:=dC Wr;obtain⟨vy,Qa,_⟩:=re.val y dy .own SQ;obtain⟨py,Wc,fy⟩:=jD re Wr Qa N8;obtain⟨v,hv,_⟩:=re.val i d .own LM;obtain⟨p,pv,f⟩:=jD re hx hv Mb;refine⟨P,env,F,η,vy,py,re,rfl,Qa,Wc,λHa sa=>?_⟩;obtain⟨wsa,ga,ea,_⟩:=fy Ha sa;refine⟨.inl ⟨rfl,wsa,.inl (.inl ea)⟩,?_⟩;refine⟨P,env,F,η,v,p,re.same sa,rfl,hv,by cases pv;exact .top _,λH1 s1'=>?_⟩;have s1:=sa.trans s1';obtain⟨Rr,g1,e1,_⟩:=f H1 s1;refine⟨.inl ⟨rfl,Rr,.inl (.inl e1)⟩,P,env,F,re.same s1,l,hl,λvs H2 G ar=>?_⟩;have s2:=s1.trans ar.same;obtain⟨ws,Gx,a1,a2,a3,a4,a5,a6,fs⟩:=f H2 s2;refine⟨p,ws,xs,l.map (·.1),Gx,G,q,rfl,a1,a2,ar.Ls,hm,a6,a5,λw us Gy gJ rs sub nd=>?_⟩;have key:=mC (K:=X.K) (P:=P) (Z:=Z) (D:=⟨λσ' H'=>∃F',After X.K P Z env F H env' σ' H' F',λ_ _=>True,λ_ _=>True,λ_ _=>True⟩) (N:=[]) (us:=us) re hz zp s2 hx hv a3 (λR hR Q1=>⟨bj,λ_ h=>(nomatch h),λ_ h=>(nomatch h)⟩) (λhN Pp=>by
       obtain⟨G',b1,b2,b3⟩:=fs q.2 us Gy rs nd (λz=>a6 (sub p z)) λa ha=>.inl (sub a ha)
       exact⟨G',b1,b2,λa ha=>.inl ((b3 a ha).elim id λz=>a4 a (sub a z))⟩) (by rw[NT];exact λσ' H' F' af=>⟨F',af⟩)
      obtain⟨F',af⟩:=key;have hvy':=Qa;obtain⟨Wb,Sg,fy'⟩:=jD af.re hy Qa N8;obtain⟨ws',Xx,c1,c2,c3,c4,c5,c6,T4⟩:=fy' _ (aN.refl _);have epy:Wb=py:=by cases Wc;cases Sg;rfl
      subst epy;have h':=post.trans af h;refine⟨Wb,ws',ys,[q.1],Xx,[] ++ [],ys ++ [q.1],rfl,c1,c2,.cons gJ .nil,rfl,rg h',c6,λz=>(nomatch z),c5,λPf Xw w' rs' Pz nd'=>?_⟩;refine mC (N:=[]) af.re af.z zp (aN.refl _) hy Qa c3 (λR hR Q1=>⟨bj,λ_ h=>(nomatch h),λ_ h=>(nomatch h)⟩) (λhN Pp=>?_) h';have OD:∀a∈Xw,a∈Xx:=λa ha=>(Pz a ha).elim id λz=>(nomatch z.2)
      obtain⟨G',b1,b2,b3⟩:=T4 (ys ++ [q.1]) Pf Xw rs' (nd' (λ_ _ z=>nomatch z) (.inl bj)) (λz=>c6 (OD _ z)) λa ha=>.inl (OD a ha)
      exact⟨G',b1,b2,λa ha=>.inl ((b3 a ha).elim id λz=>c4 a (OD a z))⟩
theorem mB {m:sj}{D:Ends}{σ:L2.St}(h:tS X.K T (.mut i path m cs) D σ H):oV (DB X.K "list" (pK X.K m) (jG X.K T i path) (qL X.K T cs)) D σ H:=by
 obtain⟨P,Z,env,F,re,hz,zp,h⟩:=h;unfold bC at h;cases hx:ownAt env i with
 |none=>rw[hx] at h;exact h.elim
 |some d=>
  rw[hx] at h;obtain⟨po,MB,h⟩:=cL h;cases Mb:d.LL po with
  |none=>rw[Mb] at h;exact h.elim
  |some xs=>
   rw[Mb] at h;obtain⟨l,hl,h⟩:=cL h;cases hm:yy m xs (l.map (·.1)) with
   |none=>rw[hm] at h;exact h.elim
   |some ys=>
    rw[hm] at h;have LM:=dC hx;obtain⟨v,hv,_⟩:=re.val i d .own LM;obtain⟨p,pv,f⟩:=jD re hx hv Mb;refine⟨P,env,F,po,v,p,re,MB,hv,pv,λH1 s1=>?_⟩;obtain⟨Rr,g1,e1,_⟩:=f H1 s1;refine⟨.inl ⟨rfl,Rr,.inl (.inl e1)⟩,P,env,F,re.same s1,l,hl,λvs H2 G ar=>?_⟩;have s2:=s1.trans ar.same;obtain⟨ws,Gx,a1,a2,a3,a4,a5,a6,fs⟩:=f H2 s2;by_cases Nz:(bF (l.map (·.2))).contains i=ζ
    .simp only[Nz,if_true] at h;exact h.elim
    simp only[Nz,if_false] at h;have O9:∀a∈F i,a∉G:=λa ha hg=>by
     rcases ar.cont a hg with q|⟨j,d2,t2,m2,e2,sr⟩
     .exact (re.same s1).nn LM ha q
     .exact Nz (by simpa using sr i ((re.one i d .own LM rfl).2.2 a ha j d2 t2 e2 m2))
    have nG:=O9 p a3;refine⟨p,ws,xs,l.map (·.1),Gx,G,ys,rfl,a1,a2,ar.Ls,hm,rg h,a6,nG,a5,λus Gy w rs sub nd=>?_⟩;refine mC (N:=if m.Lz then [] else G) re hz zp s2 hx hv a3 (λR hR Q1=>?_) (λhN Pp=>?_) h
    .cases hc:m.Lz with
     |true=>exact⟨bj,λ_ h=>(nomatch h),λ_ h=>(nomatch h)⟩
     |false=>
      rw[hc] at hR;obtain⟨n1,n2,n3⟩:=Args.mv (re.same s1) ar hR Q1;exact⟨n1,n2,λa ha=>(n3 a ha).imp (aN.no s1) id⟩
    .have ngy:Gy.Nodup:=nd (λa ha=>O9 a (a4 a ha)) (by
      cases hc:m.Lz with
      |true=>exact .inr rfl
      |false=>rw[hc] at Pp;exact .inl Pp)
     obtain⟨G',b1,b2,b3⟩:=fs ys us Gy rs ngy (λz=>(sub p z).elim a6 λq=>nG q.2) λa ha=>(sub a ha).imp id λq z=>O9 a z q.2
     refine⟨G',b1,b2,λa ha=>?_⟩;rcases b3 a ha with q|q
     .exact .inl q
     .rcases sub a q with z|⟨z1,z2⟩
      .exact .inl (a4 a z)
      .rw[z1];exact .inr z2
theorem y6 {m:sj}{D:Ends}{σ:L2.St}(h:tS X.K T (.mut i path m .nil) D σ H):oV (JS X.K "list" (pK X.K m) (jG X.K T i path)) D σ H:=by
 obtain⟨P,env,F,po,v,p,re,MB,hv,pv,k⟩:=mB h;refine⟨P,env,F,po,v,p,re,MB,hv,pv,λH' s=>?_⟩;obtain⟨ty,P',env',F',N0,l,hl,f⟩:=k H' s;unfold bL at hl;cases hl;exact⟨ty,f [] H' [] (.nil (aN.refl _))⟩
theorem Bh {e:Ex}{D:Ends}{σ:L2.St}(h:tS X.K T (.Lv i path c e) D σ H):yu (tE X.K T e) (Kl (jG X.K T i path) (tE X.K T c) Fh) D σ H:=by
 obtain⟨P,Z,env,F,re,hz,zp,h⟩:=h;unfold bC at h;cases hx:ownAt env i with
 |none=>rw[hx] at h;exact h.elim
 |some d=>
  rw[hx] at h;obtain⟨q,hq,h⟩:=cL h;obtain⟨po,MB,h⟩:=cL h;cases Mb:d.LL po with
  |none=>rw[Mb] at h;exact h.elim
  |some xs=>
   rw[Mb] at h;obtain⟨qi,hqi,h⟩:=cL h;cases S3:qi.1 with
   |int n=>
    rw[S3] at h;cases hj:kQ xs.length n with
    |none=>simp only[hj] at h;exact h.elim
    |some j=>
     simp only[hj] at h;have LM:=dC hx;obtain⟨v,hv,_⟩:=re.val i d .own LM;refine⟨P,env,F,re,q,hq,λw H1 G s1 rp rt=>?_⟩;have L6:=re.same s1;obtain⟨p,pv,f⟩:=jD L6 hx hv Mb;refine⟨P,env,F,po,v,p,L6,MB,hv,pv,λH2 s2=>⟨P,env,F,L6.same s2,qi,hqi,λwi H3 Gi s3 OG VV=>?_⟩⟩;rw[S3] at OG;obtain⟨rfl,_⟩:=OG.int_inv;obtain⟨ws,Gx,a1,a2,a3,a4,a5,a6,fs⟩:=f H3 (s2.trans s3);have jl:=Gc hj;refine⟨p,ws,n,j,rfl,rfl,a1,by rw[<-a2.len];exact hj,?_⟩;have S2:∀R,q.2=.mv R->i∉R->∀a∈F i,a∉G:=λR hr hiR a ha hg=>by
      rcases rt.cont a hg with z|⟨k,d2,t2,m2,e2,sr⟩
      .exact re.nn LM ha z
      .have:=sr i ((re.one i d .own LM rfl).2.2 a ha k d2 t2 e2 m2);rw[hr] at this;exact hiR this
     have OF:=s2.trans s3;refine mC (N:=G) re hz zp (s1.trans OF) hx hv a3 (λR hR Q1=>?_) (λhN Pp=>?_) h
     .have hr:q.2=.mv R:=by
       cases hr:q.2 with
       |sh Q=>rw[hr] at hR;cases hR
       |mv Q=>rw[hr] at hR;simp[eW] at hR;rw[hR]
      obtain⟨n1,n2,n3⟩:=rt.mv R hr;exact⟨n1,λa ha=>let ⟨ws,z⟩:=n2 a ha;⟨ws,OF _ _ z⟩,n3⟩
     .obtain⟨u,A,B,C,e1,e2,r1,g⟩:=a2.split (i:=j) (d:=xs[j]) (τ jl);subst e2;have Qd:p∉G:=λz=>hN p z a3
      have pAC:∀b∈A++C,b≠p:=λb hb z=>by
       rw[z] at hb;refine a6 ?_;rcases il.mp hb with hb|hb
       .exact a9 _ hb
       .exact aq _ (aq _ hb)
      have rs:=g (upd H3 p (.lst (ws.set j w))) q.1 w G (λ_ _=>l7 a1) (kE (ws:=.l _) a1) (λb hb _ h=>(aQ (pAC b hb)).trans h) ((rp.same OF).upd a1 Qd);have O7:∀a∈A++(G++C),a∈A++(B++C)\/a∈G:=λa ha=>by
       simp only[il] at ha ⊢;rcases ha with ha|ha|ha
       .exact .inl (.inl ha)
       .exact .inr ha
       .exact .inl (.inr (.inr ha))
      have ng:(A++(G++C)).Nodup:=by
       rw[fi] at a5;obtain⟨nA,nB,PU⟩:=a5;rw[fi] at nB;obtain⟨_,nC,_⟩:=nB;rw[fi];refine⟨nA,fi.mpr ⟨Pp,nC,λa ha b hb z=>?_⟩,λa ha b hb z=>?_⟩
       .subst z;exact hN a ha (a4 a (by simp[hb]))
       .subst z;rcases il.mp hb with hb|hb
        .exact hN a hb (a4 a (by simp[ha]))
        .exact PU a ha a (by simp[hb]) rfl
      obtain⟨G',b1,b2,b3⟩:=fs (xs.set j q.1) (ws.set j w) _ rs ng (λz=>(O7 p z).elim a6 Qd) λa ha=>(O7 a ha).imp id λz y=>hN a z y
      refine⟨G',b1,b2,λa ha=>?_⟩;rcases b3 a ha with z|z
      .exact .inl z
      .exact (O7 a z).imp (a4 a) id
   |_=>rw[S3] at h;exact h.elim
end
section
variable {X:Cx}
noncomputable def kM:List String:=["int","bool","list","tuple"]
theorem ty_type {T:String}(h:T∈kM):Z4 (.type T)=pure (.type "type"):=by
 simp only[kM,fe,dg,or_false] at h;rcases h with rfl|rfl|rfl|rfl<;>kernel_rfl
def J6 (K:Frag):List V->Hp->VK->Prop:=λxs H Q=>∃x T d G,xs=[x,.ty T]/\T∈kM/\EC T [d]=θ (.bl (rH T d))/\Rep K H d x G/\Q (.bl (rH T d)) H
theorem zi:gW X (.builtin "isinstance") (J6 X.K):=by
 intro pins s σ H xs us Q I r h;obtain⟨x,T,d,G,rfl,hT,Qg,rp,q⟩:=h;obtain⟨u,w,rfl,rx,rt⟩:=r.two;obtain rfl:w=wS T:=rt;have MA:=ty_type hT;have yes:∀{Tx:String},s.TypeIs u Tx->isSubtype (.type Tx) (.type T)=pure ζ->rH T d=ζ->Ε (Ζ X.prog X.w) X.A (call (.builtin "isinstance") [u,.type T]) (EP X pins σ Q) X.xe s:=λh1 h2 h3=>
  bn (isinstance_true MA h2) ⟨h1,⟨.bl ζ,H,I,rfl,by rw[h3] at q;exact q⟩⟩
 have no:rH T d=ε->EP X pins σ Q (.bool ε) { s with toks:=s.toks+1 }:=λh=>⟨.bl ε,H,I.tok _,rfl,by rw[h] at q;exact q⟩
 simp only[kM,fe,dg,or_false] at hT;cases d with
 |bl b=>
  obtain⟨rfl,_⟩:=rp.LI;cases rx;rcases hT with rfl|rfl|rfl|rfl
  .exact yes (Y8 s b) F.sub_bool_int rfl
  .exact yes (Y8 s b) F.sub_bool_bool rfl
  .exact bn (Zw (by decide) MA F.sub_bool_list) (no rfl)
  .exact bn (Zw (by decide) MA F.sub_bool_tuple) (no rfl)
 |int i=>
  obtain⟨rfl,_⟩:=rp.int_inv;obtain⟨t,rfl⟩:=rx;rcases hT with rfl|rfl|rfl|rfl
  .exact yes (YI s i t) F.sub_int_int rfl
  .exact bn (XB (by decide) MA F.sub_int_bool) (no rfl)
  .exact bn (XB (by decide) MA F.sub_int_list) (no rfl)
  .exact bn (XB (by decide) MA F.sub_int_tuple) (no rfl)
 |lst ds=>
  obtain⟨p,vs,g,rfl,_,a1,_⟩:=rp.lst_inv;cases rx;obtain⟨its,_,pl,_⟩:=I.list (.inl a1);obtain⟨o,ho,hc,_⟩:=pl.isList;rcases hT with rfl|rfl|rfl|rfl
  .exact bn (Uf (by decide) MA F.sub_list_int) ⟨⟨o,ho,hc⟩,no rfl⟩
  .exact bn (Uf (by decide) MA F.sub_list_bool) ⟨⟨o,ho,hc⟩,no rfl⟩
  .exact yes ⟨o,ho,hc⟩ F.sub_list_list rfl
  .exact bn (Uf (by decide) MA F.sub_list_tuple) ⟨⟨o,ho,hc⟩,no rfl⟩
 |tup ds=>
  obtain⟨p,vs,rfl,a1,_⟩:=rp.Lk;cases rx;obtain⟨its,_,pl,_⟩:=I.tuple a1;obtain⟨o,ho,hc,_⟩:=pl;rcases hT with rfl|rfl|rfl|rfl
  .exact bn (Re (by decide) MA F.sub_tuple_int) ⟨⟨o,ho,hc⟩,no rfl⟩
  .exact bn (Re (by decide) MA F.sub_tuple_bool) ⟨⟨o,ho,hc⟩,no rfl⟩
  .exact bn (Re (by decide) MA F.sub_tuple_list) ⟨⟨o,ho,hc⟩,no rfl⟩
  .exact yes ⟨o,ho,hc⟩ F.sub_tuple_tuple rfl
 |_=>cases Qg
theorem Bq {b:String}{σ:L2.St}(hb:b∈kM)(h:tE X.K T (.blt (.MU b) (.cons c .nil)) σ H Q):QM (J6 X.K) (iC (tE X.K T c) (iC (tC (.ty b)) yV)) σ H Q:=by
 obtain⟨P,env,F,re,p,Lf,k⟩:=h;unfold ev bL bL at Lf;obtain⟨l,h1,Lf⟩:=Rs.Le Lf;obtain⟨q,h2,h1⟩:=Rs.Le h1;cases h1;obtain⟨d',h3,Lf⟩:=Rs.Le Lf;have h3:kS (.MU b) [q.1]=θ d':=dF h3;have hd:d'=.bl (rH b q.1):=by
  generalize q.1=z at h3;cases z<;>cases h3<;>rfl
 subst hd;cases Lf;exact⟨P,env,F,re,q,h2,λv H1 G s rp rt=>⟨v,b,q.1,G,rfl,hb,h3,rp,k _ H1 [] s (.bl _) cA.nil⟩⟩
theorem uI:∀{r:List D},r.all D.Ma=ζ->∃bs:List Bool,r=bs.map D.bl
 |[],_=>⟨[],rfl⟩
 |x::r,ha=>by
  rw[fh,aj] at ha;obtain⟨bs,rfl⟩:=uI ha.2;cases x with
  |bl c=>exact⟨c::bs,rfl⟩
  |_=>cases ha.1
theorem all_range (bs:List Bool):(υ bs.length).all (λi=>bs[i]?.getD ζ)=bs.all id:=by
 rw[fk,cz,cz];constructor
 .intro h x hx;obtain⟨i,hi,rfl⟩:=Pi.mp hx;have:=h i (by simpa using hi);simpa[hi] using this
 .intro h i hi;have hi:i<bs.length:=by simpa using hi
  simpa[hi] using h bs[i] (jj hi)
theorem oY:∀{ds:List D}{b:Bool},allB ds=θ b->ds.all D.Ma=ζ->∃bs:List Bool,ds=bs.map D.bl/\b=bs.all id
 |[],b,h,_=>by cases h;exact⟨[],rfl,rfl⟩
 |.bl c::r,b,h,ha=>by
  have Nb:r.all D.Ma=ζ:=by simpa[D.Ma] using ha
  cases c with
  |false=>
   cases h;have:=uI Nb;obtain⟨bs,rfl⟩:=this;exact⟨ε::bs,rfl,by simp⟩
  |true=>
   obtain⟨bs,rfl,rfl⟩:=oY (ds:=r) h Nb;exact⟨ζ::bs,rfl,by simp⟩
 |.Lj::r,b,h,_=>by cases h
 |.int _::r,b,h,_=>by cases h
 |.str _::r,b,h,_=>by cases h
 |.lst _::r,b,h,_=>by cases h
 |.tup _::r,b,h,_=>by cases h
theorem oF:∀{bs:List Bool}{vs:List V}{G:List Addr}{us:List Value},aK K H (bs.map D.bl) vs G->aT vs us->us=bs.map At
 |[],_,_,_,.nil,.nil=>rfl
 |b::bs,_,_,_,.cons h r,.cons x y=>by
  obtain⟨rfl,_⟩:=h.LI;cases x;rw[av,<-oF r y]
theorem yO (hc:X.calm=ζ):gW X (.builtin "all") (pZ X.K .all):=by
 intro pins s σ H xs us Q I r h;obtain⟨ds,d,G,rs,hd,k⟩:=h
 match ds,hd with
 |[.lst ys],hd=>
  simp only[kS,Fj] at hd;by_cases hb:ys.all D.Ma=ζ
  .rw[if_pos hb,ae] at hd;obtain⟨b,Mo,rfl⟩:=hd;obtain⟨bs,rfl,rfl⟩:=oY Mo hb;obtain⟨x,rfl,rp⟩:=rs.Mu;obtain⟨p,vs,g,rfl,rfl,a1,a2⟩:=rp.lst_inv;obtain⟨u,rfl,ru⟩:=r.one;cases ru;obtain⟨its,rv,pl,_⟩:=I.list (.inl a1);have ei:=oF a2 rv;subst ei;have LB:p<s.heap.objs.size:=by
    obtain⟨o,ho,_⟩:=pl.isList;exact ω ho
   refine call_all_walk (KE pl.isList ⟨s.heap.objs.size,[s.heap.objs.size,p],[s.heap.objs.size],(bs.map At).toArray.size,_,_,λi=>bs[i]?.getD ζ,rfl,YY (A:=X.A.in1) (show X.A.in1.handled=η from I.ok.hd hc) s.heap.objs.size p (bz LB) (bs.map At).toArray,⟨⟨_,Λ _ rfl,rfl,rfl⟩,pl.isList.at λo e=>ψ _ e⟩,λi v s' Q' E' hP hQ=>?_,λh' tk hk=>?_⟩)
   .have hP:(bs.map At).toArray[i]? = θ v:=hP;rw[KT,π,ae] at hP;obtain⟨b,e1,rfl⟩:=hP;have hQ:Q' (bs[i]?.getD ζ) s':=hQ;rw[e1] at hQ;exact sB hQ
   .have e:(υ (bs.map At).toArray.size).all (λi=>bs[i]?.getD ζ)=bs.all id:=by
     simp only[ao,ai];exact all_range bs
    rw[e];refine⟨.bl (bs.all id),H,?_,rfl,k _ H [] (.bl _) kT.nil⟩;have I1:Inv X pins σ H { s with heap:=s.heap.push { cls:=.type "list_iterator",data:=.fields #[.ref p,.int 0 0] } }:=I.kept (t':=s.toks) λb o e=>ψ _ e
    obtain⟨f0,f1,f2,f3,f4,f5⟩:=I.Mc (b:=s.heap.objs.size) (au _) (I.Ll.fresh (au _));exact I1.turned (t':=tk) (λb o hb e=>hk b o (by simpa using hb) e) f0 f1 f3 f4 f5
  .rw[if_neg hb] at hd;cases hd
theorem qh:∀{ds:List D}{a r:Int},vH a ds=θ r->∃ns:List Int,ds=ns.map D.int/\r=a+ns.sum
 |[],a,r,h=>by cases h;exact⟨[],rfl,by simp⟩
 |.int i::ds,a,r,h=>by
  obtain⟨ns,rfl,rfl⟩:=qh (ds:=ds) (a:=a+i) h;exact⟨i::ns,rfl,by rw[Ym];omega⟩
 |.Lj::_,_,_,h=>by cases h
 |.bl _::_,_,_,h=>by cases h
 |.str _::_,_,_,h=>by cases h
 |.lst _::_,_,_,h=>by cases h
 |.tup _::_,_,_,h=>by cases h
theorem lu:∀{ns:List Int}{vs:List V}{G:List Addr}{us:List Value},aK K H (ns.map D.int) vs G->aT vs us->us.length=ns.length/\∀i u,us[i]? = θ u->∃t,u=Ο (ns.getD i 0) t
 |[],_,_,_,.nil,.nil=>⟨rfl,λi u h=>by simp at h⟩
 |n::ns,_,_,_,.cons h r,.cons x y=>by
  obtain⟨rfl,_⟩:=h.int_inv;obtain⟨t,rfl⟩:=x;obtain⟨a,b⟩:=lu r y;refine⟨by simp[a],λi u h=>?_⟩;cases i with
  |zero=>simp at h;exact⟨t,by simp[<-h]⟩
  |succ i=>
   obtain⟨t',e⟩:=b i u (by simpa using h);exact⟨t',by simpa using e⟩
theorem yQ (hc:X.calm=ζ):gW X (.builtin "sum") (pZ X.K .sum):=by
 intro pins s σ H xs us Q I r h;obtain⟨ds,d,G,rs,hd,k⟩:=h
 match ds,hd with
 |[.lst ys],hd=>
  simp only[kS,EH] at hd;rw[ae] at hd;obtain⟨b,Mo,rfl⟩:=hd;obtain⟨ns,rfl,rfl⟩:=qh Mo;obtain⟨x,rfl,rp⟩:=rs.Mu;obtain⟨p,vs,g,rfl,rfl,a1,a2⟩:=rp.lst_inv;obtain⟨u,rfl,ru⟩:=r.one;cases ru;obtain⟨its,rv,pl,_⟩:=I.list (.inl a1);obtain⟨hl,hv⟩:=lu a2 rv;have LB:p<s.heap.objs.size:=by
   obtain⟨o,ho,_⟩:=pl.isList;exact ω ho
  refine call_sum_walkG (KE pl.isList ⟨s.heap.objs.size,[s.heap.objs.size,p],[s.heap.objs.size],its.toArray.size,_,_,λi=>ns.getD i 0,rfl,YY (A:=X.A.in1) (show X.A.in1.handled=η from I.ok.hd hc) s.heap.objs.size p (bz LB) its.toArray,⟨⟨_,Λ _ rfl,rfl,rfl⟩,pl.isList.at λo e=>ψ _ e⟩,λb hb=>?_,λi v hP=>?_,λh' tk t' hk=>?_⟩)
  .simp only[fe,dg,or_false] at hb;rw[xL];rcases hb with rfl|rfl
   .exact i5 _
   .exact iy LB
  .have hP:its.toArray[i]? = θ v:=hP;rw[KT] at hP;exact hv i v hP
  .rw[preSum_getD,ao,hl,ji];refine⟨.int ns.sum,H,?_,⟨_,rfl⟩,by have:=k (.int (0+ns.sum)) H [] (.int _) kT.nil;rwa [XR] at this⟩;have I1:Inv X pins σ H { s with heap:=s.heap.push { cls:=.type "list_iterator",data:=.fields #[.ref p,.int 0 0] } }:=I.kept (t':=s.toks) λb o e=>ψ _ e
   obtain⟨f0,f1,f2,f3,f4,f5⟩:=I.Mc (b:=s.heap.objs.size) (au _) (I.Ll.fresh (au _));exact I1.turned (t':=tk) (λb o hb e=>hk b o (by simpa using hb) e) f0 f1 f3 f4 f5
end
variable {m:MV}{o:Expr}
section
variable {X:Cx}{T:Tb}
theorem yq {σ:L2.St}(h:tE X.K T .MO σ H Q):AS σ H Q:=by
 obtain⟨P,env,F,re,p,Lf,k⟩:=h;unfold ev at Lf;cases Lf;intro p hp;refine k _ _ [p] (aN.new hp) (.Lx (ks:=[]) (xs:=[]) bH trivial) ⟨λa ha=>?_,λR hR=>⟨by simp,λa ha=>?_,λa ha=>?_⟩⟩
 .obtain rfl:=gu.mp ha;exact .inl hp
 .obtain rfl:=gu.mp ha;exact⟨.k _,bH⟩
 .obtain rfl:=gu.mp ha;exact .inl hp
theorem nR.map (k:Int)(hm:zr K H m v):∀{q:List (Int×MV)}{x:List (Key×V)},nR K H q x->nR K H (q.map λz=>if z.1=k then (z.1,m) else z) (x.map λz=>if z.1=wT k then (z.1,v) else z)
 |[],[],_=>trivial
 | (j,n)::q,p::x,⟨a,b,c⟩=>by
  refine⟨?_,?_,c.map k hm⟩
  .show (if p.1=wT k then (p.1,v) else p).1=wT (if j=k then (j,m) else (j,n)).1;rw[show (if p.1=wT k then (p.1,v) else p).1=p.1 by split<;>rfl,show (if j=k then (j,m) else (j,n)).1=j by split<;>rfl];exact a
  .show zr K H (if j=k then (j,m) else (j,n)).2 (if p.1=wT k then (p.1,v) else p).2;by_cases e:j=k
   .rw[if_pos e,if_pos (by rw[a,<-e])];exact hm
   .rw[if_neg e,if_neg (by rw[a];exact λz=>e (by injection z))];exact b
 |[],_::_,h=>h.elim
 |_::_,[],h=>h.elim
theorem nR.snoc (k:Int)(hm:zr K H m v):∀{q:List (Int×MV)}{x:List (Key×V)},nR K H q x->nR K H (q ++ [(k,m)]) (x ++ [(.inl k,v)])
 |[],[],_=>⟨rfl,hm,trivial⟩
 |_::_,_::_,⟨a,b,c⟩=>⟨a,b,c.snoc k hm⟩
 |[],_::_,h=>h.elim
 |_::_,[],h=>h.elim
theorem nR.put (k:Int){v:V}(hm:zr K H m v){q:List (Int×MV)}{x:List (Key×V)}(h:nR K H q x):nR K H (rY q k m) (putK x (.inl k) v):=by
 unfold rY putK;rw[h.any k];split
 .exact h.map k hm
 .exact h.snoc k hm
theorem m8:∀{xs:List D}{k:List Int}{vs:List V}{G:List Addr},mT xs=θ k->aK K H xs vs G->vs=k.map V.int
 |[],k,vs,G,h,r=>by cases h;cases r;rfl
 |.int i::xs,k,vs,G,h,r=>by
  have h:(mT xs).map (i :: ·)=θ k:=h;rw[ae] at h;obtain⟨k',h1,rfl⟩:=h;cases r with
  |cons r1 r2=>
   obtain⟨rfl,_⟩:=r1.int_inv;rw[m8 h1 r2];rfl
 |.Lj::_,_,_,_,h,_=>by cases h
 |.bl _::_,_,_,_,h,_=>by cases h
 |.str _::_,_,_,_,h,_=>by cases h
 |.lst _::_,_,_,_,h,_=>by cases h
 |.tup _::_,_,_,_,h,_=>by cases h
 |.Mp _::_,_,_,_,h,_=>by cases h
 |.Lx _::_,_,_,_,h,_=>by cases h
 |.LJ _::_,_,_,_,h,_=>by cases h
theorem GB (h:DZ d=θ m)(r:Rep K H d v G):zr K H m v:=by
 cases d with
 |bl b=>
  cases b with
  |true=>cases h;cases r;rfl
  |false=>cases h
 |int i=>cases h;cases r;rfl
 |tup xs=>
  have h:(mT xs).map MV.tup=θ m:=h;rw[ae] at h;obtain⟨k,h1,rfl⟩:=h;obtain⟨q,vs,rfl,a1,a2⟩:=r.Ms;rw[m8 h1 a2] at a1;exact⟨q,rfl,a1⟩
 |_=>cases h
theorem DF {o o':ML}(h:H p=θ o.o)(b:Addr)(vs:List V)(t:mK K H b vs):mK K (upd H p o'.o) b vs:=by
 rcases t with t|t
 .refine .inl ((aQ λe=>?_).trans t);subst e;rw[h] at t;cases o<;>cases t
 .exact .inr t
theorem xQ {P:Addr->Prop}{env:En}{σ:L2.St}(re:RE K P env σ H F)(hx:env[i]? = θ (θ (.Lx ks,.own))):∃p xs,σ[i]? = θ (θ (.ref p))/\F i=[p]/\H p=θ (.dK xs)/\nR K H ks xs:=by
 obtain⟨v,hv,rp⟩:=re.val i _ _ hx;obtain⟨_,lv,_⟩:=re.one i _ _ hx rfl;generalize hF:F i=G at rp lv;cases rp with
 |@Lx p _ xs h kr=>exact⟨p,xs,hv,rfl,h,kr⟩
def BK (td ty tv:TE):TS:=λD σ H=>tv σ H λv H1=>td σ H1 λx H2=>ty σ H2 λy H3=>∃a H4,x=.ref a/\yh H3 a y v H4/\D.nx σ H4
theorem As {i value:Expr}{td ty tv:TE}(hu:X.A.units+1<cLine)(ho:PE X o td)(hi:PE X i ty)(hv:PE X value tv)(hs:GT value (θ (.Subscript o i pos')) pos.line X.env=pure ε) :
  PS X (.Assign [.Subscript o i pos'] value pos) (BK td ty tv):=by
 intro pins s σ H D I h;refine wpAny_Assign_Subscript (dG (hv pins s σ H _ I h) λr s1 ⟨v,H1,I1,rv,q1⟩=>dG (ho pins s1 σ H1 _ I1 q1) λu s2 ⟨x,H2,I2,rx,q2⟩=>dG (hi pins s2 σ H2 _ I2 q2) λiv s3 ⟨y,H3,I3,ry,a,H4,ex,g,q3⟩=>?_) hs;subst ex;obtain rfl:u=FB a:=rx;exact yX hu I3 g ry rv λs4 I4=>⟨σ,H4,I4,q3⟩
theorem Ar {P:Addr->Prop}{env:En}{σ:L2.St}(re:RE K P env σ H F){d' y u:D}(hx:env[i]? = θ (θ (d,.own)))(hp:CO d y u=θ d') :
  ∃p,∃m:ML,σ[i]? = θ (θ (.ref p))/\F i=[p]/\H p=θ m.o/\∀H3 wi Gi wv Gv,aN H H3->Rep K H3 y wi Gi->Rep K H3 u wv Gv->∃m':ML,yh H3 p wi wv (upd H3 p m'.o)/\Rep K (upd H3 p m'.o) d' (.ref p) [p]:=by
 cases d with
 |Lx ks=>cases y with
  |int n=>
   obtain⟨hl,hp⟩:=zt hp;rw[ae] at hp;obtain⟨mv,hmv,rfl⟩:=hp;obtain⟨p,xs,hv,hF,hH,kr⟩:=xQ re hx;refine⟨p,.k xs,hv,hF,hH,λH3 wi Gi wv Gv sm rp ru=>?_⟩;have h3:H3 p=θ (ML.k xs).o:=sm _ _ hH;have kr3:=kr.keep λ_ _=>aN.OC sm
   have mr:=GB hmv ru;obtain⟨rfl,_⟩:=rp.int_inv;refine⟨.k (putK xs (.inl n) wv),yh.k (k:=.inl n) h3 ?_,.Lx bH ((kr3.put n mr).keep λb vs=>DF (o':=.k _) h3 b vs)⟩;rw[kr.len,Yl];unfold lim at hl;omega
  |_=>cases hp
 |_=>cases hp
theorem yM {e:Ex}{D:Ends}{σ:L2.St}(h:tS X.K T (.MG i c e) D σ H):BK (jG X.K T i .none) (tE X.K T c) (tE X.K T e) D σ H:=by
 obtain⟨P,Z,env,F,re,hz,zp,h⟩:=h;unfold bC at h;cases hx:ownAt env i with
 |none=>rw[hx] at h;exact h.elim
 |some d=>
  rw[hx] at h;obtain⟨u,hu,h⟩:=cL h;obtain⟨q,hq,h⟩:=cL h;cases hp:CO d q.1 u.1 with
  |none=>rw[hp] at h;exact h.elim
  |some d'=>
   rw[hp] at h;have LM:=dC hx;obtain⟨p,m,hv,hF,hH,inv⟩:=Ar re LM hp;refine⟨P,env,F,re,u,hu,λwv H1 Gv s1 rpv rtv=>⟨P,env,F,η,.ref p,p,re.same s1,by unfold jW;rfl,hv,.top p,λH2 s2=>⟨P,env,F,re.same (s1.trans s2),q,hq,λwi H3 Gi s3 OG VV=>?_⟩⟩⟩;have e:=(s1.trans s2).trans s3;have Wy:H3 p=θ m.o:=e _ _ hH;obtain⟨m',i1,i2⟩:=inv H3 wi Gi wv Gv e OG (rpv.same (s2.trans s3));refine⟨p,upd H3 p m'.o,rfl,i1,?_⟩;have OV:p∈F i:=by rw[hF];simp
   have L6:=re.same e;have R8:=L6.MT (vs:=m') (R:=[]) (N:=[]) (G:=[p]) (d':=d') LM hv OV i2 (by simp) (λa ha=>.inl (by rw[hF];exact ha)) (λa ha=>nomatch ha);have Sw:¬ P p:=re.wr i _ LM p OV;refine h σ _ _ ⟨R8,λj a ha=>?_,(jV.of_same re.pl e).trans ⟨λa z=>aQ (λq=>Sw (q ▸ z)),λb xs r=>?_,kE Wy⟩,λj dj ej=>?_⟩
   .unfold kf at ha;split at ha
    .exact hz i a (by rw[hF];exact ha)
    .split at ha
     .exact hz j a ha
     .cases ha
   .refine (aQ (λq=>?_)).trans r;subst q;rw[Wy] at r;cases m<;>cases r
   .by_cases hj:j=i
    .subst hj;rw[ξ (by rw[cG];exact (ο.mp LM).1)] at ej;cases ej
    .rw[μ (cv hj)] at ej;refine⟨(bO ej).1,?_⟩;unfold kf;rw[if_neg hj,ej]
theorem vU (hc:X.calm=ζ):gW X (.type "list") (pZ X.K .list):=by
 intro pins s σ H xs us Q I r h;obtain⟨ds,d,G,rs,hd,k⟩:=h;exact tT I r rs hd k λks e=>by subst e;cases hd
end
theorem dI.Nx {o:HO}(x:dI P w H h a o):∃ob,h.get? a=θ ob:=by
 cases o with
 |lst xs=>obtain⟨_,_,_,_,e⟩:=x;exact⟨_,e⟩
 |tup xs=>obtain⟨_,_,_,ob,e,_⟩:=x;exact⟨_,e⟩
 |dK kvs=>obtain⟨_,_,_,_,o,_,_,e,_⟩:=x;exact⟨_,e⟩
 |dT kvs=>obtain⟨_,_,_,_,o,_,_,e,_⟩:=x;exact⟨_,e⟩
 |set S n=>obtain⟨o,_,_,_,e,_⟩:=x;exact⟨_,e⟩
 |ins C dx fs=>obtain⟨_,_,_,e,_⟩:=x;exact⟨_,e⟩
 |own y=>obtain⟨_,e⟩:=x;exact⟨_,e⟩
 |xd fs=>obtain⟨_,⟨_,_,_,e,_⟩,_⟩:=x;exact⟨_,e⟩
 |QQ lo hi=>obtain⟨_,_,_,e⟩:=x;exact⟨_,e⟩
 |L4 ob u=>obtain⟨e,_⟩:=x;exact⟨_,e⟩
 |Of ps=>exact⟨_,(show h.get? a=θ _ from x)⟩
 |met f y=>exact⟨_,(show h.get? a=θ _ from x)⟩
 |ext φ=>obtain⟨_,⟨_,e⟩,_⟩:=x;exact⟨_,e⟩
theorem zW {σ:L2.St}{m:Str->Option Value}{B:Addr}{o:HO}{t':Nat}(I:Inv X pins σ H s)(hn:s.heap.Ns X.env.locals m)(LZ:h'.Ns X.env.locals m)
  (k:∀b o,b≠X.env.locals->s.heap.get? b=θ o->h'.get? b=θ o) (hB:∀b o,s.heap.get? b=θ o->b≠B) (new:dI X.prog X.w (upd H B o) h' B o):Inv X pins σ (upd H B o) { s with heap:=h',toks:=t' }:=by
 have OZ:H B=η:=by
  cases e:H B with
  |none=>rfl
  |some u=>
   obtain⟨ob,q⟩:=dI.Nx (I.Ll B u e);exact absurd rfl (hB B ob q)
 have nL:∀b u,H b=θ u->b≠X.env.locals:=λb u e z=>by rw[z,I.free] at e;cases e
 refine I.step (g':=s.gens) (d':=s.drawn) (ch:=[]) (λb hb=>nomatch hb) (λb o' hL _ _ e _=>k b o' hL e) (λb o' hL _ _ e _=>⟨o'.slots,k b o' hL e⟩) (λb o' _ e n=>by rw[aQ (hB b o' e)];exact n) (λb o' _ e=>?_)
  (λb xs e=>by rw[aQ (cR e OZ)];exact e) (λb ob u e=>by rw[aQ (cR e OZ)];exact e) (λb ps e=>⟨#[],by rw[aQ (cR e OZ),e];simp⟩) (λm' hm=>?_) (λb u e=>?_) I.bare
 .by_cases hL:b=X.env.locals
  .subst hL;obtain⟨o2,_,_,q,_⟩:=LZ;exact⟨o2,q⟩
  .exact⟨o',k b o' hL e⟩
 .obtain⟨o1,es,ep,e1,e2,e3,e4⟩:=hn;obtain⟨o2,NU,Rj,f1,f2,f3,f4⟩:=hm;rw[e1] at f1;cases f1;rw[e2] at f2;cases f2;have:m'=m:=funext λx=>by rw[<-f4 x,e4 x]
  rw[this];exact LZ
 .by_cases hb:b=B
  .subst hb;rw[bH] at e;cases e;exact new
  .rw[aQ hb] at e;refine (I.Ll b u e).ME (λc v hc q=>k c v ?_ q) (λc q=>?_) λc xs q=>?_
   .rcases hc with z|z
    .rw[z];exact nL b u e
    .exact nL c _ z
   .rw[aQ (cR q OZ)];exact q
   .rw[aQ (cR q OZ)];exact q
section
variable {prog:Program}{w:Ν}{A:Φ}
end
section
variable {X:Cx}{pins:List (Addr×Obj)}{σ:L2.St}{H:Hp}{s:ρ}
end
theorem insI_perm (a:Int):∀l:List Int,(insI a l).Perm (a::l)
 |[]=>.refl _
 |b::l=>by
  unfold insI;split
  .exact .refl _
  .exact ((insI_perm a l).cons b).trans (.swap a b l)
theorem nH:∀l:List Int,(fV l).Perm l
 |[]=>.refl _
 |a::l=>(insI_perm a _).trans ((nH l).cons a)
theorem ue (a:Int):∀{l:List Int},l.Pairwise (·<=·)->(insI a l).Pairwise (·<=·)
 |[],_=>Ys _ _
 |b::l,h=>by
  have h':=im.mp h;unfold insI;split
  .rename_i e;refine im.mpr ⟨λx hx=>?_,h⟩;rcases fe.mp hx with rfl|hx
   .exact e
   .exact XS e (h'.1 x hx)
  .rename_i e;refine im.mpr ⟨λx hx=>?_,ue a h'.2⟩;rcases fe.mp ((insI_perm a l).mem_iff.mp hx) with rfl|hx
   .omega
   .exact h'.1 x hx
theorem oK:∀l:List Int,(fV l).Pairwise (·<=·)
 |[]=>.nil
 |a::l=>ue a (oK l)
theorem jK:∀{ns:List Int}{us:List Value},aT (ns.map V.int) us->XF us ns
 |[],us,h=>by cases h;exact .nil
 |n::ns,us,h=>by
  cases h with
  |cons a b=>
   obtain⟨t,rfl⟩:=a;exact .cons _ t (jK b)
theorem qM:∀{ns:List Int}{us:List Value},XF us ns->aT (ns.map V.int) us
 |[],us,h=>by cases h;exact .nil
 |n::ns,us,h=>by
  cases h with
  |cons _ t b=>exact .cons ⟨t,rfl⟩ (qM b)
section
variable {X:Cx}
theorem r8:gW X (.builtin "sorted") (pZ X.K .sorted):=by
 intro pins s σ H xs us Q I r h;obtain⟨ds,d,G,rs,hd,k⟩:=h
 match ds,hd with
 |[.lst ys],hd=>
  have hd:(match mT ys with
   |some ns=>if ns.length<64 then θ (D.lst ((fV ns).map .int)) else η
   |none=>η)=θ d:=hd
  cases Th:mT ys with
  |some ns=>
   rw[Th] at hd;by_cases TQ:ns.length<64
   .simp only[if_pos TQ] at hd;cases hd;obtain⟨x,rfl,rp⟩:=rs.Mu;obtain⟨l,vs,g,rfl,rfl,a1,a2⟩:=rp.lst_inv;obtain⟨u,rfl,rx⟩:=r.one;obtain rfl:u=.ref l:=rx;obtain⟨its,rv,pl,_⟩:=I.list (.inl a1);obtain rfl:=m8 Th a2;obtain⟨m,hn,_⟩:=id I.loc;have F:=Att.Fv hn;have N:News (Att.si s.heap) X.env.locals s.heap (Att.ledger s.heap X.env.locals X.env.locals):=λ⟨a,o⟩ hp=>by
     obtain⟨n1,_,e⟩:=Att.la.mp hp;exact⟨e,n1,Att.ph _ _⟩
    refine PySem.W.kso_sorted F N pl.isList (jK rv) TQ λB NV ns' c h' F' N' l1 Mn len perm asc _=>?_
    obtain rfl:ns'=fV ns:=PySem.W.lks_uniq (perm.trans (nH ns).symm) asc (oK ns);have hB:∀b o,s.heap.get? b=θ o->b≠B:=λb o e z=>by
     by_cases hb:b=X.env.locals
     .exact (N' _ (ag ..)).2.1 (z.symm.trans hb)
     .exact absurd z (bz (l1 _ (Att.la.mpr ⟨hb,hb,e⟩)))
    have hI:=zW (t':=s.toks) (o:=.lst ((fV ns).map V.int)) I hn F'.ns (λb o hb e=>N'.get (aa _ (Att.la.mpr ⟨hb,hb,e⟩))) hB ⟨by rw[ai,len,Yl];omega,_,c,qM Mn,N'.get (ag ..)⟩;refine⟨.ref B,_,hI,rfl,?_⟩;have OZ:H B=η:=by
     cases e:H B with
     |none=>rfl
     |some u=>
      obtain⟨ob,q⟩:=dI.Nx (I.Ll B u e);exact absurd rfl (hB B ob q)
    obtain⟨n1,n2⟩:=k9 (G0:=l::g) (nj (K:=X.K) (H:=H) (fV ns)) (λa ha=>nomatch ha) OZ;exact k _ _ _ n1 n2
   .simp only[if_neg TQ] at hd;cases hd
  |none=>rw[Th] at hd;cases hd
end
section
variable {X:Cx}{T:Tb}
theorem RE.freeze {P:Addr->Prop}{env:En}{σ:L2.St}(re:RE K P env σ H F){x:Nat}{xs:List (Key×V)}{o:Obj}(hx:env[x]? = θ (θ (.Lx ks,.own)))(hv:σ[x]? = θ (θ (.ref p)))(hF:F x=[p])(hH:H p=θ (.dK xs))(kr:nR K H ks xs) :
  RE K P ((kill [x] env).set x (θ (.LJ ks,.own))) σ (upd H p (.L4 o (.dK xs))) (kf F env x [] []):=by
 have LQ:H p=θ (ML.k xs).o:=hH;have OV:p∈F x:=by rw[hF];simp
 obtain⟨ndx,PZ,Sk⟩:=re.one x _ .own hx rfl;have NS:x<(kill [x] env).length:=by
  rw[cG];exact (ο.mp hx).1
 have other:∀{j:Nat}{d2:D}{t2:Tg},j≠x->((kill [x] env).set x (θ (.LJ ks,.own)))[j]? = θ (θ (d2,t2))->(kill [x] env)[j]? = θ (θ (d2,t2)):=λ{j d2 t2} hj e=>by
  rw[μ (cv hj)] at e;exact e
 have apart:∀{j:Nat}{d2:D}{t2:Tg},j≠x->(kill [x] env)[j]? = θ (θ (d2,t2))->p∉F j:=λ{j d2 t2} hj e hb=>by
  obtain⟨e0,_,h3⟩:=bO e;exact h3 x ag (Sk p OV j d2 t2 e0 hb)
 have fj:∀{j:Nat}{d2:D}{t2:Tg},j≠x->(kill [x] env)[j]? = θ (θ (d2,t2))->kf F env x [] [] j=F j:=λ{j d2 t2} hj e=>by
  unfold kf;rw[if_neg hj,e]
 have fx:kf F env x [] [] x=[]:=if_pos rfl;refine⟨?_,λj d2 t2 e=>?_,λj h=>?_,λj d2 t2 e ow=>?_,λj d2 e=>?_,λa h=>?_⟩
 .rw[ak,cG];exact re.len
 .by_cases hj:j=x
  .subst hj;rw[ξ NS] at e;cases e;exact⟨.ref p,hv,by rw[fx];exact .LJ bH (kr.keep λb vs=>uc LQ)⟩
  .have e1:=other hj e;obtain⟨e0,_,_⟩:=bO e1;obtain⟨u,h1,h2⟩:=re.val j d2 t2 e0;exact⟨u,h1,by rw[fj hj e1];exact h2.Pw LQ (apart hj e1)⟩
 .by_cases hj:j=x
  .subst hj;exact absurd (ξ NS) (h _ .own)
  .unfold kf;rw[if_neg hj];split
   .rename_i q e;exact absurd (by rw[μ (cv hj)];exact e) (h q.1 q.2)
   .rfl
 .by_cases hj:j=x
  .subst hj;rw[fx];exact⟨bj,λa ha=>(nomatch ha),λa ha=>(nomatch ha)⟩
  .have e1:=other hj e;obtain⟨e0,_,_⟩:=bO e1;obtain⟨n1,n2,n3⟩:=re.one j d2 t2 e0 ow;rw[fj hj e1];refine⟨n1,λa ha=>?_,λa ha k d3 t3 e3 m=>?_⟩
   .obtain⟨vs,z⟩:=n2 a ha;exact⟨vs,by rw[aQ λ(q:a=p)=>apart hj e1 (q ▸ ha)];exact z⟩
   .by_cases hk:k=x
    .subst hk;rw[fx] at m;cases m
    .have e4:=other hk e3;rw[fj hk e4] at m;exact n3 a ha k d3 t3 (bO e4).1 m
 .by_cases hj:j=x
  .subst hj;rw[fx];exact λa ha=>(nomatch ha)
  .have e1:=other hj e;rw[fj hj e1];exact re.wr j d2 (bO e1).1
 .by_cases z:a=p
  .subst z;rw[bH];simp
  .rw[aQ z];exact re.pl a h
theorem El {x:Nat}{c:St}(h:PS X st (tS X.K T c)):PS X st (tS X.K T (.NI x c)):=by
 intro pins s σ H D I ⟨P,Z,env,F,re,hz,zp,k⟩;unfold bC at k;unfold tq at k;cases hx:ownAt env x with
 |none=>rw[hx] at k;exact h pins s σ H D I ⟨P,Z,env,F,re,hz,zp,k⟩
 |some d=>
  rw[hx] at k;cases d with
  |Lx ks=>
   have LM:=dC hx;obtain⟨p,xs,hv,hF,hH,kr⟩:=xQ re LM;obtain⟨ob,ho⟩:=dI.Nx (I.Ll p _ hH);have I1:Inv X pins σ (upd H p (.L4 ob (.dK xs))) s:=xb (t':=s.toks) I (by rw[hH];exact Y6) ⟨rfl,λ_ _=>rfl⟩ ⟨ob,ho⟩ ⟨ho,by
    obtain⟨z,lo,vs,rel,dd⟩:=EW I.Ll hH;exact⟨z,lo,vs,rel,dd⟩⟩
   have L6:=re.freeze (o:=ob) LM hv hF hH kr;have nP:¬ P p:=re.wr x _ LM p (by rw[hF];simp);have af:After X.K P Z env F H ((kill [x] env).set x (θ (.LJ ks,.own))) σ (upd H p (.L4 ob (.dK xs))) (kf F env x [] []):=by
    refine⟨L6,λj a ha=>?_,⟨λa z=>aQ (λq=>nP (q ▸ z)),λb xs' r=>?_,kE (ws:=.k xs) hH⟩,λj dj ej=>?_⟩
    .unfold kf at ha;split at ha
     .cases ha
     .split at ha
      .exact hz j a ha
      .cases ha
    .refine (aQ (λq=>?_)).trans r;subst q;rw[hH] at r;cases r
    .by_cases hj:j=x
     .subst hj;rw[ξ (by rw[cG];exact (ο.mp LM).1)] at ej;cases ej
     .rw[μ (cv hj)] at ej;refine⟨(bO ej).1,?_⟩;unfold kf;rw[if_neg hj,ej]
   exact h pins s σ _ D I1 ⟨P,Z,_,_,L6,af.z,zp,post.trans af k⟩
  |_=>exact h pins s σ H D I ⟨P,Z,env,F,re,hz,zp,k⟩
end
section
variable {prog:Program}{w:Ν}{A:Φ}{E:Value->ρ->Prop}{s:ρ}
end
section
variable {X:Cx}{T:Tb}
end
theorem wy:∀(xs:List V) (us:List Value),xs.length=us.length->(∀(i:Nat) (x:V),xs[i]? = θ x->∃u,us[i]? = θ u/\RelV x u)->aT xs us
 |[],[],_,_=>.nil
 |[],_::_,h,_=>by simp at h
 |_::_,[],h,_=>by simp at h
 |x::xs,u::us,h,f=>by
  obtain⟨u',e,r⟩:=f 0 x rfl;cases e;exact .cons r (wy xs us (by simpa using h) λi y hy=>by simpa using f (i+1) y (by simpa using hy))
theorem vP {a c:Int}{acc:Array Value}(h:ItemsOf (λi v=>∃t,v=.int (a+i*c) t) acc n):aT (fO a c n) acc.toList:=by
 obtain⟨h1,h2⟩:=h;refine wy _ _ (by simp[fO,h1]) λi x hx=>?_
 unfold fO at hx;rw[π,ae] at hx;obtain⟨k,hk,rfl⟩:=hx;obtain⟨hk1,O2⟩:=ο.mp hk;have Qm:i<n:=by simpa using hk1
 have hik:k=i:=by rw[<-O2];simp
 subst hik;have LB:k<acc.toList.length:=by simp[h1];exact Qm
 refine⟨acc.toList[k],τ LB,?_⟩;obtain⟨t,ht⟩:=h2 k acc[k] (by simp[h1,Qm]);have:acc.toList[k]=acc[k]'(by simpa using LB):=by simp
 rw[this,ht];exact⟨t,rfl⟩
section
variable {X:Cx}{T:Tb}
theorem x5 {σ:L2.St}{E:Value->ρ->Prop}{t u v:YR}(hc:X.calm=ζ)(I:Inv X pins σ H s)(h1 : -(2 ^ 62)<=lo)(h2:lo<2 ^ 62)(h3 : -(2 ^ 62)<=hi)(h4:hi<2 ^ 62)(h5:hi-lo<=1000000)
  (q:∀l,H l=η->Q (.ref l) (upd H l (.lst (fO lo 1 (hi-lo).toNat)))):Ε (Ζ X.prog X.w) X.A (call (.type "list") [.ref s.heap.objs.size]) (EP X pins σ Q) E { s with heap:=s.heap.push { cls:=.type "range",data:=.fields #[.int lo t,.int hi u,.int 1 v] },toks:=tk }:=by
 have I1:Inv X pins σ H { s with heap:=s.heap.push { cls:=.type "range",data:=.fields #[.int lo t,.int hi u,.int 1 v] },toks:=tk }:=I.kept λb o e=>ψ _ e
 refine call_list_range (n:=(hi-lo).toNat) (I1.ok.hd hc) (Yp ..) (small_one h1 h2 h3 h4) (by rw[YV];split<;>omega) (by omega) λh' tk' Vu c' hk hS NH=>?_
 have hv:=vP NH;have h0:H (s.heap.push { cls:=.type "range",data:=.fields #[.int lo t,.int hi u,.int 1 v] }).objs.size=η:=I1.fresh;have I2:=I1.laid (a:=(s.heap.push { cls:=.type "range",data:=.fields #[.int lo t,.int hi u,.int 1 v] }).objs.size) (o:=.lst (fO lo 1 (hi-lo).toNat)) (t':=tk') (h':=h') hk (au _) ⟨by rw[lF];have:=sC;have:lim=1000000:=rfl;omega,Vu.toList,c',hv,hS⟩;exact⟨.ref _,_,I2,rfl,q _ h0⟩
theorem wW {p q:GE}(hc:X.calm=ζ)(hg:Gl X "list") (hm:X.mg "list" = η) (hg':Gl X "range") (Qi:X.mg "range" = η) (ha:PA X es (qL X.K T cs)) (hs:∃e r,es=e::r/\Ι es X.env=(ε,eval e X.env)::Ι r X.env/\((Do pos' (Ι r X.env)).any λx=>x.1)=ε) :
  PE X (.Call (.Name "list" p) [.Call (.Name "range" q) es [] pos'] [] pos) (tE X.K T (.blt .MH cs)):=by
 intro pins s σ H Q I h;obtain⟨P,env,F,re,r,Lf,k⟩:=h;unfold ev at Lf;obtain⟨l,h1,Lf⟩:=Rs.Le Lf;obtain⟨d,h2,Lf⟩:=Rs.Le Lf;have h2:=dF h2;cases Lf;obtain⟨e,rs,rfl,SX,Pm⟩:=hs;refine æ (iQ I hg hm ü (du ?_ rfl rfl));show Ε _ _ (ã ((ε,eval (.Call (.Name "range" q) (e::rs) [] pos') X.env) :: [])) _ _ s;refine TD ?_;refine æ (iQ I hg' Qi Z2 (du (dG (ha pos' pins s σ H (λvs H'=>∃G,Args X.K env F H H' l vs G) I ⟨P,env,F,re,l,h1,λvs H' G ar=>⟨G,ar⟩⟩) λus s1 ⟨vs,H1,I1,r1,G,ar⟩=>?_) SX Pm));have VX:aK X.K H1 (l.map (·.1)) vs G:=ar.Ls;generalize hl:l.map (·.1)=ds at h2 VX
 match ds,h2 with
 |[.int n],h2=>
  simp only[kS,BS] at h2;by_cases hk:me n=ζ/\n<=1000000
  .rw[if_pos hk] at h2;cases h2;obtain⟨x,rfl,rp⟩:=VX.Mu;obtain⟨rfl,rfl⟩:=rp.int_inv;obtain⟨u,rfl,t,rfl⟩:=r1.one;unfold me at hk;simp only[decide_eq_true_eq] at hk;refine Zk (WP (x5 hc I1 (by omega) (by omega) hk.1.1 hk.1.2 (by omega) λa h0=>?_));obtain⟨n1,n2⟩:=k9 (G0:=[]) (k6 (K:=X.K) (H:=H1) 1 (n-0).toNat 0) (λz hz=>hz) h0;rw[Int.sub_zero] at n1 n2 ⊢;exact k _ _ _ (ar.same.trans n2.same) n1 (cA.new ar n2 λ_ z=>z)
  .rw[if_neg hk] at h2;cases h2
end
noncomputable def Es (val:Nat->Int):Nat->Nat->Int->Int
 |0,_,m=>m
 |k+1,j,m=>Es val k (j+1) (if val j > m then val j else m)
theorem xT:(toString "max" ++ toString ".loop" : String) = "max.loop":=by decide
variable {prog:Program}
theorem DK {E:Value->ρ->Prop}{a b:Int}{t u:YR}{Q:Value->ρ->Prop}(h:Q (.bool (decide (a > b))) s):Ε (Ζ prog w) A (Ě .Gt (.int a t) (.int b u)) Q E s :=
 CmpOf.ints_gt (P:=λi v=>∃t,v=.int (if i=0 then a else b) t) (λi=>if i=0 then a else b) (λi v h=>h) 0 1 _ _ s Q E ⟨t,rfl⟩ ⟨u,rfl⟩ h
section
variable {prog:Program}{w:Ν}{A:Φ}{R:Zl->ρ->Prop}{it:Addr}{fp wr:List Addr}{n:Nat}{P:Nat->Value->Prop}{Ob:Nat->Heap->Prop}{dv:Value}{bx:Addr}
theorem Dk (W:ė prog w A.in1 it fp wr n P Ob)(val:Nat->Int)(M3:∀i v,P i v->∃t,v=.int (val i) t)(hb:bx∉fp) :
  ∀(k j:Nat) (s:ρ) (m:Int) (t:YR) (c:Nat),n-j=k->j<=n->Ob j s.heap->s.heap.get? bx=θ { cls:=.type "list",dict:=η,data:=.seq #[.int m t,.int m t] c,slots:=#[] } ->
  (∀hp tk t',(∀b o,b∉wr->b≠bx->s.heap.get? b=θ o->hp.get? b=θ o)->R (.ok (.ret (.int (Es val k j m) t'))) { s with heap:=hp,toks:=tk }) ->
  FM (Ζ prog w) A (.builtin "max.loop" ⟨[.ref it,.none,.ref bx],[("default",dv)]⟩) R s:=by
 have hw:bx∉wr:=λh=>hb (W.sub _ h)
 intro k
 induction k with
 |zero=>
  intro j s m t c hk hj st hB q;have e:j=n:=by omega
  subst e;refine Yt X7 (by
   rw[No ut _];show Ε _ A.in1 (ý (.ref bx) >>= _) _ _ s;refine Γ (XC hB rfl (Γ (IR (W.done s _ _ st λhp tk MJ=>?_))));have Ov:=MJ bx _ hw hB;show Ε _ A.in1 (updateSeq bx (λ_=>#[]) >>= _) _ _ _;exact Γ (Yu Ov rfl (Γ (Yn (Χ (q _ tk t λb o h1 h2 e=>(db _ _ (cv h2)).trans (MJ b o h1 e)))))))
 |succ k ih=>
  intro j s m t c hk hj st hB q;have LB:j<n:=by omega
  refine Yt X7 (by
   rw[No ut _];show Ε _ A.in1 (ý (.ref bx) >>= _) _ _ s;refine Γ (XC hB rfl (Γ (IR (W.item j s _ _ LB st λv hp tk hv L9 MJ=>?_))));have Ov:=MJ bx _ hw hB;obtain⟨t2,rfl⟩:=M3 j v hv;show Ε _ A.in1 (tryCatch (Yy [Ο (val j) t2,Ο (val j) t2] (Ě .Gt (.int (val j) t2) (.int m t) >>= _)) _ >>= _) _ _ _;refine Γ (IR (KF (Γ (DK (Γ (KF (sB (Γ (Yn (Χ ?_))))))))));by_cases hg:val j > m
   .rw[cm hg];simp only[if_true];refine Γ (Yu Ov rfl (Γ (Yn ?_)));rw[xT];refine Χ ⟨XX ut _,ih (j+1) _ (val j) t2 _ (by omega) LB (W.frame _ _ _ L9 λb TJ o e=>(db _ _ (λh:bx=b=>hb (h ▸ TJ))).trans e) (KM _ Ov rfl) λQe Py t3 O2=>?_⟩;have:=q Qe Py t3 λb o h1 h2 e=>O2 b o h1 h2 ((db _ _ (cv h2)).trans (MJ b o h1 e))
    unfold Es at this
    rwa [if_pos hg] at this
   .rw[bh hg];simp only[a8,if_false];refine Γ (Yn ?_);rw[xT];refine Χ ⟨XX ut _,ih (j+1) _ m t c (by omega) LB L9 Ov λQe Py t3 O2=>?_⟩;have:=q Qe Py t3 λb o h1 h2 e=>O2 b o h1 h2 (MJ b o h1 e)
    unfold Es at this
    rwa [if_neg hg] at this)
theorem AV (W:ė prog w A.in1 it fp wr n P Ob)(val:Nat->Int)(M3:∀i v,P i v->∃t,v=.int (val i) t)(hb:bx∉fp){c:Nat}(st:Ob 0 s.heap)(hB:s.heap.get? bx=θ { cls:=.type "list",dict:=η,data:=.seq #[] c,slots:=#[] })
  (q:∀r hp tk,(∀b o,b∉wr->b≠bx->s.heap.get? b=θ o->hp.get? b=θ o)->(n=0->r=dv)->(0<n->∃t,r=.int (Es val (n-1) 1 (val 0)) t)->R (.ok (.ret r)) { s with heap:=hp,toks:=tk }) :
  FM (Ζ prog w) A (.builtin "max.loop" ⟨[.ref it,.none,.ref bx],[("default",dv)]⟩) R s:=by
 have hw:bx∉wr:=λh=>hb (W.sub _ h)
 refine Yt X7 (by
  rw[No ut _];show Ε _ A.in1 (ý (.ref bx) >>= _) _ _ s;rcases Zp n with h0|h0
  .subst h0;refine Γ (XC hB rfl (Γ (IR (W.done s _ _ st λhp tk MJ=>?_))));refine Γ (wpAny_rule ?_);exact Χ (q dv hp tk (λb o h1 h2 e=>MJ b o h1 e) (λ_=>rfl) λh=>absurd h (fq 0))
  .refine Γ (XC hB rfl (Γ (IR (W.item 0 s _ _ h0 st λv hp tk hv L9 MJ=>?_))));have Ov:=MJ bx _ hw hB;obtain⟨t2,rfl⟩:=M3 0 v hv;show Ε _ A.in1 (updateSeq bx (λ_=>#[Ο (val 0) t2,Ο (val 0) t2]) >>= _) _ _ _;refine Γ (Yu Ov rfl ?_);rw[xT];refine Χ ⟨XX ut _,Dk W val M3 hb (n-1) 1 _ (val 0) t2 _ rfl h0 (W.frame _ _ _ L9 λb TJ o e=>(db _ _ (λh:bx=b=>hb (h ▸ TJ))).trans e) (KM _ Ov rfl) λQe Py t3 O2=>?_⟩;exact q _ Qe Py (λb o h1 h2 e=>O2 b o h1 h2 ((db _ _ (cv h2)).trans (MJ b o h1 e))) (λh=>absurd h (by omega)) λ_=>⟨t3,rfl⟩)
end
theorem xZ (x d:Value):argsOk "max" ⟨[x],[("default",d)]⟩:=by unfold argsOk;kernel_rfl
theorem yY {E:Value->ρ->Prop}{x dv:Value}{Q:Value->ρ->Prop}
  (h:Ε (Ζ prog w) A.in1 (XY x) (λiv s₂=>∃it fp wr n P Ob val,iv=.ref it/\ė prog w A.in1 it fp wr n P Ob/\Ob 0 s₂.heap/\(∀b∈fp,b<s₂.heap.objs.size)/\(∀i v,P i v->∃t,v=.int (val i) t) /\
   ∀r hp tk,(∀b o,b∉wr->s₂.heap.get? b=θ o->hp.get? b=θ o)->(n=0->r=dv)->(0<n->∃t,r=.int (Es val (n-1) 1 (val 0)) t)->Q r { s₂ with heap:=hp,toks:=tk }) E s) :
  Ε (Ζ prog w) A (call (.builtin "max") [x] [("default",dv)]) Q E s:=by
 refine Z3 (codeAny_call_builtin F.plain_max F.entry_max ?_);have hc:Ε (Ζ prog w) A.in1 (Builtin.«max» ⟨[x],[("default",dv)]⟩) (λfin s'=>match fin with
   |.done f=>(match (Except.ok f:Zl) with|.ok (.ret v)=>Q v s'|.ok _=>False|.error e=>E e s')
   |.again c=>c.quiet=ζ/\FM (Ζ prog w) A c (λr s2=>match r with|.ok (.ret v)=>Q v s2|.ok _=>False|.error e=>E e s2) s') E s:=by
  show Ε _ A.in1 (On "max" ["key","default"] 0 ⟨[],[("default",dv)]⟩ >>= _) _ _ s;refine Γ (wpAny_of_eq (show On "max" ["key","default"] 0 ⟨[],[("default",dv)]⟩=pure [η,θ dv] from rfl) (Γ (Χ (Γ (kw h (λiv s₂ h₂=>?_) λ_ _ e=>e)))));obtain⟨it,fp,wr,n,P,Ob,val,rfl,W,st,hfp,M3,q⟩:=h₂;refine Γ (ð ?_);rw[xT];refine Χ ⟨XX ut _,AV W val M3 (λhm=>fq _ (hfp _ hm)) (W.frame _ _ _ st λb _ o e=>ψ _ e) (Λ _ rfl) λr hp tk hk h0 h1=>?_⟩;exact q r hp tk (λb o hbw e=>hk b o hbw (bz (ω e)) (ψ _ e)) h0 h1
 have ha:=xZ x dv;simp only[checkBuiltinCall,F.kind_max];cases SV:ě "max" with
 |none=>exact Χ hc
 |some sig=>
  simp only[argsOk,SV] at ha;have h2:ZR "max" sig ⟨[x],[("default",dv)]⟩=pure ():=ha;show Ε _ A.in1 (ZR "max" sig ⟨[x],[("default",dv)]⟩) _ _ s;rw[h2];exact Χ hc
theorem pQ:∀{xs:List D}{a b:Int},qD a xs=θ b->∃ns:List Int,xs=ns.map .int
 |[],_,_,_=>⟨[],rfl⟩
 |.int i::r,a,b,h=>by
  obtain⟨ns,rfl⟩:=pQ (xs:=r) (show qD (if i > a then i else a) r=θ b from h);exact⟨i::ns,rfl⟩
theorem qH (f:Nat->Int):∀(ns:List Int) (j:Nat) (a:Int),(∀i,i<ns.length->f (j+i)=ns.getD i 0)->qD a (ns.map .int)=θ (Es f ns.length j a)
 |[],_,_,_=>rfl
 |n::ns,j,a,h=>by
  have h0:=h 0 (by simp);simp only[Nat.add_zero,List.getD_cons_zero] at h0;show qD (if n > a then n else a) (ns.map .int)=θ (Es f ns.length (j+1) (if f j > a then f j else a));rw[h0];exact qH f ns (j+1) _ λi hi=>by
   have:=h (i+1) (by simpa using hi);rw[YZ] at this;rw[<-this];congr 1;omega
variable {ca:Ex}
section
variable {X:Cx}{T:Tb}
theorem Cy {a d:Expr}{cd:Ex}{p kp:GE}(hc:X.calm=ζ)(hg:Gl X "max") (hm:X.mg "max" = η) (ha:PE X a (tE X.K T ca)) (hd:PE X d (tE X.K T cd)) (hs:Ι [a] X.env=(ε,eval a X.env)::Ι [] X.env) :
  PE X (.Call (.Name "max" p) [a] [⟨θ "default",d,kp⟩] pos) (tE X.K T (.blt .M1 (.cons ca (.cons cd .nil)))):=by
 intro pins s σ H Q I h;obtain⟨P,env,F,re,r,Lf,k⟩:=h;unfold ev bL bL bL at Lf;obtain⟨l,h1,Lf⟩:=Rs.Le Lf;obtain⟨pa,e1,h1⟩:=Rs.Le h1;obtain⟨l2,h3,h1⟩:=Rs.Le h1;obtain⟨pd,e2,h3⟩:=Rs.Le h3;cases h3;cases h1;obtain⟨dd,h2,Lf⟩:=Rs.Le Lf;have h2:=dF h2;cases Lf;refine wn (iQ I hg hm boot_max (Ä ?_ (by rw[hs];rfl) (by rw[hs];rfl)));rw[hs];show Ε _ _ (ã ((ε,eval a X.env)::Do pos (Ι [] X.env))) _ _ s;refine TD (dG (ha pins s σ H (λv H1=>∃G,aN H H1/\Rep X.K H1 pa.1 v G/\cA env F H pa.2 H1 G) I ⟨P,env,F,re,pa,e1,λv H1 G z1 z2 z3=>⟨G,z1,z2,z3⟩⟩) λu s1 ⟨va,H1,I1,r1,G1,sa,VY,rta⟩=>?_);refine WP (kws_cons (dG (hd pins s1 σ H1 (λv H2=>∃G,aN H1 H2/\Rep X.K H2 pd.1 v G/\cA env F H1 pd.2 H2 G) I1 ⟨P,env,F,re.same sa,pd,e2,λv H2 G z1 z2 z3=>⟨G,z1,z2,z3⟩⟩) λu2 s2 ⟨vd,H2,I2,r2,G2,sd,RV,rtd⟩=>kws_nil ?_));have ar:Args X.K env F H H2 [pa,pd] [va,vd] (G1++(G2 ++ [])):=.cons sa VY rta (.cons sd RV rtd (.nil (aN.refl _)));have PH:=VY.same sd;have fin:∀ns:List Int,∀m:Int,pa.1=.lst (ns.map .int)->pd.1=.int m->dd=.int (match ns with|[]=>m|n::r=>Es (λi=>(n::r).getD i 0) r.length 1 n)->Ε (Ζ X.prog X.w) X.A (call (.builtin "max") [u] [("default",u2)]) (EP X pins σ Q) X.xe s2:=by
  intro ns m ea ed edd;rw[ea] at PH;rw[ed] at RV;obtain⟨b,vs,g,rfl,_,a1,a2⟩:=PH.lst_inv;obtain⟨rfl,_⟩:=RV.int_inv;cases r1;obtain⟨t,rfl⟩:=r2;obtain⟨its,rv,pl,_⟩:=I2.list (.inl a1);obtain⟨hl,hv⟩:=lu a2 rv;have LB:b<s2.heap.objs.size:=by
   obtain⟨o,ho,_⟩:=pl.isList;exact ω ho
  refine yY (KE pl.isList ⟨s2.heap.objs.size,[s2.heap.objs.size,b],[s2.heap.objs.size],its.toArray.size,_,_,λi=>ns.getD i 0,rfl,YY (A:=X.A.in1) (show X.A.in1.handled=η from I2.ok.hd hc) s2.heap.objs.size b (bz LB) its.toArray,⟨⟨_,Λ _ rfl,rfl,rfl⟩,pl.isList.at λo e=>ψ _ e⟩,λc hb=>?_,λi v hP=>?_,λr hp tk hk q0 q1=>?_⟩)
  .simp only[fe,dg,or_false] at hb;rw[xL];rcases hb with rfl|rfl
   .exact i5 _
   .exact iy LB
  .have hP:its.toArray[i]? = θ v:=hP;rw[KT] at hP;exact hv i v hP
  .have J1:Inv X pins σ H2 { s2 with heap:=s2.heap.push { cls:=.type "list_iterator",data:=.fields #[.ref b,.int 0 0] } }:=I2.kept (t':=s2.toks) λb o e=>ψ _ e
   obtain⟨f0,f1,f2,f3,f4,f5⟩:=I2.Mc (b:=s2.heap.objs.size) (au _) (I2.Ll.fresh (au _));have J2:=J1.turned (t':=tk) (λb o hb e=>hk b o (by simpa using hb) e) f0 f1 f3 f4 f5;rw[ao,hl] at q0 q1;have kk:=k (.int _) H2 [] ar.same (by rw[edd];exact Rep.int _) (cA.new ar (d:=dd) kT.nil λ_ z=>z);cases ns with
   |nil=>
    cases q0 rfl;exact⟨.int m,H2,J2,⟨_,rfl⟩,kk⟩
   |cons n ns=>
    obtain⟨t',rfl⟩:=q1 (by simp);exact⟨.int _,H2,J2,⟨_,rfl⟩,kk⟩
 show Ε _ _ (call (.builtin "max") [u] [("default",u2)]) _ _ s2;generalize hxa:pa.1=xa at h2 fin;generalize hxd:pd.1=xd at h2 fin;revert h2;show kS .M1 [pa.1,pd.1]=θ dd->_;rw[hxa,hxd];intro h2
 match xa,xd,h2 with
 |.lst [],.int m,h2=>
  cases h2;exact fin [] m rfl rfl rfl
 |.lst (.int i::r),.int m,h2=>
  simp only[kS,B6] at h2;rw[ae] at h2;obtain⟨z,hz,rfl⟩:=h2;obtain⟨ns,rfl⟩:=pQ hz;refine fin (i::ns) m rfl rfl ?_;rw[qH (λj=>(i::ns).getD j 0) ns 1 i (λj hj=>by rw[XO,YZ])] at hz;cases hz;rfl
end
section
variable {prog:Program}{w:Ν}{A:Φ}{R:Zl->ρ->Prop}{it:Addr}{fp wr:List Addr}{n:Nat}{P:Nat->Value->Prop}{Ob:Nat->Heap->Prop}{bx:Addr}{val:Nat->Value}{lt:Nat->Nat->Bool}{h0:Heap}
end
section
variable {X:Cx}{pins:List (Addr×Obj)}{σ:L2.St}{H:Hp}{s:ρ}
end
section
variable {X:Cx}
end
variable {ce co:Ex}
section
variable {X:Cx}
theorem yR:gW X (.type "int") (pZ X.K .int):=by
 intro pins s σ H xs us Q I r h;obtain⟨ds,d,G,rs,hd,k⟩:=h
 match ds,hd with
 |[.bl b],hd=>
  cases hd;obtain⟨x,rfl,rp⟩:=rs.Mu;obtain⟨rfl,rfl⟩:=rp.LI;obtain⟨u,rfl,ru⟩:=r.one;cases ru;exact call_int_bool ⟨.int _,H,I.tok _,⟨_,rfl⟩,k _ H [] (.int _) kT.nil⟩
theorem sV:∀{ds:List D}{bs:List Bool},xU n d ds=θ bs->bs.length=ds.length/\∀(m:Nat) x,ds[m]? = θ x->∃b,bs[m]? = θ b/\D.Lq n x d=θ b
 |[],bs,h=>by
  cases h;exact⟨rfl,λm x h=>by simp at h⟩
 |x::r,bs,h=>by
  have h:((D.Lq n x d).bind λb=>(xU n d r).map (b :: ·))=θ bs:=h;rw[ah] at h;obtain⟨b,h1,h⟩:=h;rw[ae] at h;obtain⟨cs,h2,rfl⟩:=h;obtain⟨l,g⟩:=sV h2;refine⟨by simp[l],λm y hy=>?_⟩;cases m with
  |zero=>
   rw[List.getElem?_cons_zero] at hy;cases hy;exact⟨b,rfl,h1⟩
  |succ m=>
   rw[KB] at hy;obtain⟨c,h3,h4⟩:=g m y hy;exact⟨c,by rw[KB];exact h3,h4⟩
def EU (K:Frag):V->List V->Hp->VK->Prop:=λx xs H Q=>∃(p:Addr) (ds:List D) (d:D) (j:Nat) (y:V) (G G':List Addr),x=.ref p/\xs=[y]/\Rep K H (.lst ds) (.ref p) G/\Rep K H d y G'/\Ds 20 d ds=θ j/\ds.length<=lim/\Q (.int (j:Int)) H
theorem z0 (hu:X.A.units+40<cLine):Ir X "list.index" (EU X.K):=by
 intro pins s σ H x xs v us Q I rx r h;obtain⟨p,ds,d,j,y,G,G',rfl,rfl,rp,rd,hj,hl,q⟩:=h;cases rx;obtain⟨u,rfl,ru⟩:=r.one;obtain⟨p',vs,g,e,rfl,a1,a2⟩:=rp.lst_inv;cases e;obtain⟨its,rv,pl,_⟩:=I.list (.inl a1);unfold Ds at hj;rw[ah] at hj;obtain⟨bs,hb,hj⟩:=hj;obtain⟨bl,bg⟩:=sV hb;have hlen:its.length=ds.length:=by rw[<-rv.length,<-a2.len]
 have LL:∀(m:Nat) (z:Value),its[m]? = θ z->∃b v1 g1,bs[m]? = θ b/\RelV v1 z/\(∃x,Rep X.K H x v1 g1/\D.Lq 20 x d=θ b)/\∀(A:Φ),A.units+20<cLine->TW A s z u b:=λm z hz=>by
  have hm:m<ds.length:=by rw[<-hlen];exact (ο.mp hz).1
  obtain⟨v1,g1,e1,p1,_⟩:=a2.get (i:=m) (d:=ds[m]) (by simp[hm]);obtain⟨u1,f1,t1⟩:=rv.get e1;rw[hz] at f1;cases f1;obtain⟨b,h1,h2⟩:=bg m ds[m] (by simp[hm]);exact⟨b,v1,g1,h1,t1,⟨_,p1,h2⟩,λA hA=>(xq I 20 A _ _ _ _ _ _ _ _ _ hA p1 rd t1 ru h2).2⟩
 have one:∀(m k:Nat) (z:Value) (b c:Bool),its[m]? = θ z->its[k]? = θ z->bs[m]? = θ b->bs[k]? = θ c->b=c:=λm k z b c hm hk hb hc=>by
  obtain⟨b',v1,g1,e1,r1,⟨x,p1,q1⟩,_⟩:=LL m z hm;obtain⟨c',v2,g2,e2,r2,⟨y',p2,q2⟩,_⟩:=LL k z hk;rw[hb] at e1;cases e1;rw[hc] at e2;cases e2;obtain rfl:=r1.inj r2;exact z6 I 20 p1 p2 q1 q2
 let e:Value->Bool:=λz=>@decide (∃m:Nat,its[m]? = θ z/\bs[m]? = θ ζ) (GM _)
 have he:∀(m:Nat) (z:Value) (b:Bool),its[m]? = θ z->bs[m]? = θ b->e z=b:=λm z b hm hb=>by
  cases b with
  |true=>exact @decide_eq_true _ (GM _) ⟨m,hm,hb⟩
  |false=>
   refine @decide_eq_false _ (GM _) λ⟨k,hk,hc⟩=>?_
   exact absurd (one m k z _ _ hm hk hb hc) (by decide)
 obtain⟨WC,hjt,hjf⟩:=List.findIdx?_eq_some_iff_getElem.mp hj;have Qn:j<its.toArray.size:=by rw[ao,hlen,<-bl];exact WC
 have gt:∀(m:Nat) (hm:m<its.toArray.size),its[m]? = θ its.toArray[m]:=λm hm=>by
  rw[ao] at hm;rw[τ hm];rfl
 obtain⟨⟨cls,dd,data,sl⟩,ho,hc,n,hd⟩:=id pl.isList;cases hc;cases hd;refine EQ Yc ⟨_,ho,rfl⟩ PySem.F.entry_list_index (PySem.F.args_list_index_2 _ _) (SeqAt.list_indexAt p its.toArray n dd sl u e j Qn ?_ ?_ λm hm LB=>?_) ⟨ho,λy' hy=>?_,⟨.int _,H,I.tok _,⟨_,rfl⟩,q⟩⟩
 .have:ds.length<=1000000:=hl;rw[ao,hlen] at Qn;omega
 .exact he j _ ζ (gt j Qn) (by rw[τ WC];exact fm θ hjt)
 .have Qi:m<bs.length:=by rw[bl,<-hlen,<-ao];exact hm
  refine he m _ ε (gt m hm) ?_;rw[τ Qi];have:=hjf m LB;simpa using this
 .obtain⟨m,hm,rfl⟩:=Array.mem_iff_getElem.mp hy;obtain⟨b,v1,g1,e1,_,_,ea⟩:=LL m _ (gt m hm);rw[he m _ b (gt m hm) e1];exact ea _ (by show X.A.units+1+20<cLine;omega)
theorem AX {a:D}{bs:List D}(h:yd .LG a bs=θ d):∃(xs t:List D) (j:Nat),a=.lst xs/\bs=[.tup t]/\Ds 20 (.tup t) xs=θ j/\xs.length<=lim/\d=.int (j:Int):=by
 match a,bs,h with
 |.lst xs,[.tup ts],h=>
  obtain⟨hk,h⟩:=zt h;rw[ae] at h;obtain⟨j,h1,rfl⟩:=h;exact⟨xs,ts,j,rfl,rfl,h1,hk,rfl⟩
theorem Cc {σ:L2.St}(h:tE X.K T (.NQ .LG co (.cons ce .nil)) σ H Q):DB X.K "list" (EU X.K) (tE X.K T co) (qL X.K T (.cons ce .nil)) σ H Q:=by
 obtain⟨P,env,F,re,p,Lf,k⟩:=h;unfold ev at Lf;obtain⟨q,h1,Lf⟩:=Rs.Le Lf;obtain⟨l,h2,Lf⟩:=Rs.Le Lf;obtain⟨d,h3,Lf⟩:=Rs.Le Lf;have h3:=dF h3;cases Lf;obtain⟨xs,ts,j,e1,e2,hk,hl,rfl⟩:=AX h3;refine⟨P,env,F,re,q,h1,λv H1 G s rp rt=>?_⟩;rw[e1] at rp;obtain⟨p',vs,g,rfl,rfl,a1,a2⟩:=id rp.lst_inv;refine⟨.inl ⟨rfl,vs,.inl a1⟩,P,env,F,re.same s,l,h2,λws H2 G' ar=>?_⟩;have rs:=ar.Ls;rw[e2] at rs;obtain⟨x,rfl,NZ⟩:=rs.Mu;exact⟨p',xs,.tup ts,j,x,_,_,rfl,rfl,rp.same ar.same,NZ,hk,hl,k _ H2 [] (s.trans ar.same) (.int _) cA.nil⟩
theorem qp:∀{xs:List D}{c:Nat},uq k xs=θ c->∃ns:List Int,xs=ns.map .int/\c=ns.count k
 |[],c,h=>by cases h;exact⟨[],rfl,rfl⟩
 |.int i::r,c,h=>by
  simp only[uq,ae] at h;obtain⟨c',h1,rfl⟩:=h;obtain⟨ns,rfl,rfl⟩:=qp h1;refine⟨i::ns,rfl,?_⟩;rw[List.count_cons];split<;>simp_all
theorem intsAre_of:∀{ns:List Int}{vs:List V}{G:List Addr}{us:List Value},aK K H (ns.map D.int) vs G->aT vs us->XF us ns
 |[],_,_,_,.nil,.nil=>.nil
 |n::ns,_,_,_,.cons h r,.cons x y=>by
  obtain⟨rfl,_⟩:=h.int_inv;obtain⟨t,rfl⟩:=x;exact .cons _ _ (intsAre_of r y)
def Ja (K:Frag):V->List V->Hp->VK->Prop:=λx xs H Q=>∃(p:Addr) (ns:List Int) (k:Int) (G:List Addr),x=.ref p/\xs=[.int k]/\Rep K H (.lst (ns.map .int)) (.ref p) G/\Q (.int ((ns.count k:Nat):Int)) H
theorem AQ:Ir X "list.count" (Ja X.K):=by
 intro pins s σ H x xs v us Q I rx r h;obtain⟨p,ns,k,G,rfl,rfl,rp,q⟩:=h;cases rx;obtain⟨u,rfl,⟨t',rfl⟩⟩:=r.one;obtain⟨p',vs,g,e,rfl,a1,a2⟩:=rp.lst_inv;cases e;obtain⟨its,rv,pl,_⟩:=I.list (.inl a1);exact count_list_ints pl.isList (intsAre_of a2 rv) ⟨.int _,H,I.tok _,⟨_,rfl⟩,q⟩
theorem A9 {σ:L2.St}(h:tE X.K T (.NQ .LP co (.cons ce .nil)) σ H Q):DB X.K "list" (Ja X.K) (tE X.K T co) (qL X.K T (.cons ce .nil)) σ H Q:=by
 obtain⟨P,env,F,re,p,Lf,k⟩:=h;unfold ev at Lf;obtain⟨q,h1,Lf⟩:=Rs.Le Lf;obtain⟨l,h2,Lf⟩:=Rs.Le Lf;obtain⟨d,h3,Lf⟩:=Rs.Le Lf;have h3:=dF h3;cases Lf;have inv:∃(ns:List Int) (j:Int),q.1=.lst (ns.map .int)/\l.map (·.1)=[.int j]/\d=.int ((ns.count j:Nat):Int):=by
  generalize q.1=a at h3;generalize l.map (·.1)=bs at h3
  match a,bs,h3 with
  |.lst xs,[.int j],h3=>
   have h3:(uq j xs).map (λ(c:Nat)=>D.int (c:Int))=θ d:=h3;rw[ae] at h3;obtain⟨c,hc,rfl⟩:=h3;obtain⟨ns,rfl,rfl⟩:=qp hc;exact⟨ns,j,rfl,rfl,rfl⟩
 obtain⟨ns,j,e1,e2,rfl⟩:=inv;refine⟨P,env,F,re,q,h1,λv H1 G s rp rt=>?_⟩;rw[e1] at rp;obtain⟨p',vs,g,rfl,rfl,a1,a2⟩:=id rp.lst_inv;refine⟨.inl ⟨rfl,vs,.inl a1⟩,P,env,F,re.same s,l,h2,λws H2 G' ar=>?_⟩;have rs:=ar.Ls;rw[e2] at rs;obtain⟨x,rfl,NZ⟩:=rs.Mu;obtain⟨rfl,_⟩:=NZ.int_inv;exact⟨p',ns,j,_,rfl,rfl,rp.same ar.same,k _ H2 [] (s.trans ar.same) (.int _) cA.nil⟩
end
structure Sc where
 N:List Str
 sc:Scope
 fns:List Str
 zx:List Str
 fT:List Str
noncomputable def idxOf:List Str->Str->Option Nat
 |[],_=>η
 |y::r,x=>if y=x then θ 0 else (idxOf r x).map (· + 1)
theorem cI:∀{l:List Str}{x:Str}{i:Nat},idxOf l x=θ i->l[i]? = θ x
 |y::r,x,i,h=>by
  simp only[idxOf] at h;by_cases e:y=x
  .rw[if_pos e] at h;cases h;rw[e];rfl
  .rw[if_neg e,ae] at h;obtain⟨j,hj,rfl⟩:=h;simpa using cI hj
noncomputable def fJ (sc:Scope)(x:Str):Option NameKind:=sc.names.lookup x
noncomputable def qb (sc:Scope)(x:Str):Bool:=match fJ sc x with
 |some .local=>ζ
 |some .cell=>ζ
 |some .free=>ζ
 |_=>ε
noncomputable def lC (sc:Scope)(x:Str):Bool:=match fJ sc x with
 |some .local=>ζ
 |some .cell=>ζ
 |_=>ε
noncomputable def uM (sc:Scope)(x:Str):Bool:=match fJ sc x with
 |some .globalImplicit=>ζ
 |_=>ε
noncomputable def fL (x:Str):Bool:=!(x==("__debug__" : Str)) && !(x==("__classdict__" : Str)) && !(x==("__name__" : Str))
noncomputable def notStar:Expr->Bool
 |.Starred _ _=>ε
 |_=>ζ
noncomputable def j4:Expr->Bool
 |.Set _ _ _=>ε
 |_=>ζ
noncomputable def iR:Expr->Bool
 |.Slice _ _ _ _=>ε
 |_=>ζ
noncomputable def iX:Expr->Bool
 |.ListComp _ _ _ _=>ζ
 |.SetComp _ _ _ _=>ζ
 |.DictComp _ _ _ _ _=>ζ
 |_=>ε
noncomputable def eO (f:Expr->Option Ex):List Expr->Option nV
 |[]=>θ .nil
 |e::es=>if notStar e then (f e).bind λc=>(eO f es).map λcs=>.cons c cs else η
noncomputable def IV (f:Expr->Option Ex)(op:BoolOp):List Expr->Option Ex
 |[]=>η
 |[a]=>f a
 |a::r=>(f a).bind λc=>(IV f op r).map λd=>match op with
  |.And=>.and c d
  |.Or=>.or c d
noncomputable def pT (S:Sc):List Expr->Option (List Nat)
 |[]=>θ []
 |.Name x _::r=>if lC S.sc x then (idxOf S.N x).bind λi=>(pT S r).map λis=>i::is else η
 |_::_=>η
noncomputable def xX (S:Sc):Expr->Option nQ
 |.Name x _=>if lC S.sc x then (idxOf S.N x).map .nm else η
 |.Tuple es _ _=>(pT S es).map .tp
 |_=>η
noncomputable def Aa (f:Expr->Option Ex):Option Expr->Option nY
 |none=>θ .none
 |some e=>(f e).map .some
noncomputable def lI (S:Sc)(x:Str):Bool:=uM S.sc x&&S.fT.contains x
noncomputable def isTup:Expr->Bool
 |.Tuple _ _ _=>ζ
 |_=>ε
noncomputable def Ii (S:Sc)(f:Expr->Option Ex)(tp:Bool):Expr->Option tX
 |.Call (.Name x p) es [] pos=>if x = "range" then (if lI S "range" then (match eO f es with
   |some (.cons a .nil)=>θ (.Lm a)
   |some (.cons a (.cons b .nil))=>θ (.M0 a b)
   |_=>η) else η) else if x = "enumerate" then (if lI S "enumerate" && tp then (match es with
   |[e]=>if notStar e then (f e).map .enum else η
   |_=>η) else η) else if x = "reversed" then η else if x = "zip" then (if lI S "zip" && tp then (match es with
   |[e,g]=>if notStar e&&notStar g then (f e).bind λc=>(f g).map λd=>.zip c d else η
   |_=>η) else η) else (f (.Call (.Name x p) es [] pos)).map .seq
 |e=>if j4 e then (f e).map .seq else η
noncomputable def bW (sc:Scope):List Str:=(sc.names.filter λp=>(p.2 == .local || p.2 == .cell)&&p.1 != (".0" : Str)).map (·.1)
noncomputable def bZ (sc:Scope):List Str:=(sc.names.filter λp=>p.2 == .free).map (·.1)
noncomputable def mJ:List (Option Nat)->Option (List Nat)
 |[]=>θ []
 |some i::r=>(mJ r).map (i :: ·)
 |none::_=>η
noncomputable def nk (S:Sc)(sc:Scope):Bool :=
 sc.kind == .function&&sc.names.all (λp=>p.2 != .cell || fJ sc p.1==θ .cell)&&sc.names.all (λp=>p.2 != .local || fJ sc p.1==θ .local)&&sc.names.all (λp=>p.2 != .free || (fJ sc p.1==θ .free&&(fJ S.sc p.1==θ .cell || fJ S.sc p.1==θ .free))) &&
 decide (bW sc++bZ sc).Nodup
noncomputable def yl (own:Nat):nQ->Bool
 |.nm i=>decide (i<own)
 |.tp is=>is.all λi=>decide (i<own)
noncomputable def J8 (x:Str):Option Cz:=if x = "len" then θ .len else if x = "all" then θ .all else if x = "abs" then θ .abs else if x = "list" then θ .list else if x = "int" then θ .int else if x = "sum" then θ .sum else if x = "sorted" then θ .sorted else η
noncomputable def Gw (t:Str):Option String:=if t = "int" then θ "int" else if t = "bool" then θ "bool" else if t = "list" then θ "list" else if t = "tuple" then θ "tuple" else η
noncomputable def Ks (S:Sc)(f:Expr->Option Ex):List Expr->Option Ex
 |[a,.Name t _]=>if uM S.sc t&&S.fT.contains t&&fL t&&notStar a then (Gw t).bind λu=>(f a).map λca=>.blt (.MU u) (.cons ca .nil) else η
 |_=>η
noncomputable def qT:List Expr->Bool
 |[.Call (.Name r _) [_] [] _]=>r==("reversed" : Str)
 |_=>ε
noncomputable def Ji (S:Sc)(f:Expr->Option Ex):List Expr->Option Ex
 |_=>η
noncomputable def qJ:List Expr->Bool
 |[.Call (.Name r _) _ [] _]=>r==("range" : Str)
 |_=>ε
noncomputable def Fi (S:Sc)(f:Expr->Option Ex):List Expr->Option Ex
 |[.Call (.Name r _) es [] _]=>if r = "range" then (if lI S "range" then (match es with
  |[a]=>(eO f [a]).map λcs=>.blt .MH cs
  |[a,b]=>(eO f [a,b]).map λcs=>.blt .MH cs
  |_=>η) else η) else η
 |_=>η
noncomputable def wt (S:Sc)(f:Expr->Option Ex)(x:Str)(es:List Expr):Option Ex :=
 if fL x&&uM S.sc x then (match idxOf S.fns x with
  |some i=>(eO f es).map λcs=>.call i cs
  |none=>if S.fT.contains x then (if x = "isinstance" then Ks S f es else if x = "list"/\qT es=ζ then Ji S f es else if x = "list"/\qJ es=ζ then Fi S f es else match es with
    |[]=>η
    |e::r=>(J8 x).bind λb=>(eO f (e::r)).map λcs=>.blt b cs) else η) else η
noncomputable def xN (S:Sc)(f:Expr->Option Ex)(x:Str)(a d:Expr)(k:Str):Option Ex :=
 if x = "max" then (if k = "default" then (if lI S "max" && notStar a then (f a).bind λca=>(f d).map λcd=>.blt .M1 (.cons ca (.cons cd .nil)) else η) else η) else η
noncomputable def E7 (x:Str):Option Rp:=if x = "count" then θ .LP else if x = "index" then θ .LG else η
noncomputable def B8:Expr->Bool
 |.Name _ _=>ζ
 |.Subscript _ _ _=>ζ
 |.Constant _ _ _=>ζ
 |.Call _ (_::_) _ _=>ζ
 |_=>ε
noncomputable def D5 (f:Expr->Option Ex)(o:Expr)(name:Str)(es:List Expr)(apos cpos:GE):Option Ex:=match es with
 |[e]=>if apos.endLine==cpos.line&&B8 o then (E7 name).bind λm=>(f o).bind λco=>(eO f [e]).bind λcs=>(match cs with
  |.cons ce .nil=>θ (.NQ m co (.cons ce .nil))
  |_=>η)
  else η
 |_=>η
noncomputable def Jz (f:Expr->Option Ex):List Expr->Option nY
 |[]=>θ .none
 |[c]=>(f c).map .some
 |_=>η
noncomputable def tR (S:Sc)(f:Sc->Expr->Option Ex)(elt tg ii:Expr)(ifs:List Expr)(sc:Scope):Option Ex :=
 if nk S sc&&j4 ii then
  (Ii S (f S) (isTup tg) ii).bind λit=>(mJ ((bZ sc).map (idxOf S.N))).bind λpick=>
   (xX { S with N:=bW sc++bZ sc,sc:=sc } tg).bind λt=>if yl (bW sc).length t then
    (Jz (f { S with N:=bW sc++bZ sc,sc:=sc }) ifs).bind λc=>(f { S with N:=bW sc++bZ sc,sc:=sc } elt).map λce=>.comp (bW sc).length pick t it c ce
   else η
 else η
noncomputable def zN (S:Sc)(x:Str):Option Ex:=if fL x then (if qb S.sc x then (idxOf S.N x).map .var else if uM S.sc x then (idxOf S.zx x).map .MM else η) else η
noncomputable def JR:Const->Option Ex
 |.int i=>θ (.cst (.int i))
 |.bool b=>θ (.cst (.bl b))
 |.none=>θ (.cst .Lj)
 |.str s=>θ (.cst (.str s))
 |_=>η
noncomputable def Xb (op:UnaryOp)(o:Option Ex):Option Ex:=match op with
 |.USub=>o.map .neg
 |.Not=>o.map .not
 |_=>η
noncomputable def Bz (f:Expr->Option Ex)(a:Expr)(op:XU)(b:Expr):Option Ex:=if xz op b then η else (f a).bind λca=>(f b).map λcb=>.cmp op ca cb
noncomputable def EX (f:Expr->Option Ex)(a:Expr)(op OJ:XU)(b c:Expr):Option Ex:=η
noncomputable def Jd (f:Expr->Option Ex)(a:Expr):List XU->List Expr->Option Ex
 |[],_=>η
 |[op],bs=>(match bs with
  |[]=>η
  |[b]=>Bz f a op b
  |_::_::_=>η)
 |op::OJ::ops,bs=>(match ops with
  |[]=>(match bs with
   |[]=>η
   |[_]=>η
   |b::c::r=>(match r with
    |[]=>EX f a op OJ b c
    |_::_=>η))
  |_::_=>η)
noncomputable def Ff (f:Expr->Option Ex)(a b:Expr):Option Ex:=match b with
 |.Slice lo hi st _=>(match st with
  |none=>(f a).bind λca=>(Aa f lo).bind λl=>(Aa f hi).map λh=>.sl ca l h
  |some _=>η)
 |b=>if iR b then (f a).bind λca=>(f b).map λcb=>.ix ca cb else η
noncomputable def z7 (S:Sc)(f:Expr->Option Ex)(x:Str)(es:List Expr):List Zn->Option Ex
 |[]=>wt S f x es
 |[⟨k,d,_⟩]=>(match k with
  |none=>η
  |some k=>(match es with
   |[]=>η
   |[a]=>xN S f x a d k
   |_::_::_=>η))
 |_::_::_=>η
noncomputable def BL (S:Sc)(f:Expr->Option Ex)(g:Expr)(es:List Expr)(ks:List Zn)(cpos:GE):Option Ex:=match g with
 |.Name x _=>z7 S f x es ks
 |.Attribute o name apos=>(match ks with
  |[]=>D5 f o name es apos cpos
  |_::_=>η)
 |_=>η
noncomputable def Xc (S:Sc)(f:Sc->Expr->Option Ex)(elt:Expr)(sc:Scope):List Comprehension->Option Ex
 |[]=>η
 |[⟨tg,ii,ifs,as⟩]=>if as=0 then tR S f elt tg ii ifs sc else η
 |_::_::_=>η
noncomputable def HC (f:Expr->Option Ex)(a:Expr)(op:li)(b:Expr):Option Ex:=(f a).bind λca=>(f b).map λcb=>.bin op ca cb
noncomputable def Hz (S:Sc):List (Option Expr)->List Expr->Option Ex
 |[],[]=>θ .MO
 |_,_=>η
noncomputable def cE:Nat->Sc->Expr->Option Ex
 |0,_,_=>η
 |n+1,S,e=>match e with
  |.Name x _=>zN S x
  |.Constant c _ _=>JR c
  |.BinOp a op b _=>HC (cE n S) a op b
  |.UnaryOp op a _=>Xb op (cE n S a)
  |.BoolOp op es _=>IV (cE n S) op es
  |.Compare a ops bs _=>Jd (cE n S) a ops bs
  |.IfExp c a b _=>(cE n S c).bind λcc=>(cE n S a).bind λca=>(cE n S b).map λcb=>.ite cc ca cb
  |.List es _=>(eO (cE n S) es).map .lst
  |.Tuple es _ _=>(eO (cE n S) es).map .tup
  |.Subscript a b _=>Ff (cE n S) a b
  |.Call g es ks pos=>BL S (cE n S) g es ks pos
  |.ListComp elt gens sc _=>Xc S (cE n) elt sc gens
  |.Dict ks vs _=>Hz S ks vs
  |_=>η
structure Ctx (X:Cx)(S:Sc)(T:Tb):Prop where
 N:X.N=S.N
 nd:S.N.Nodup
 OA:∀x,qb S.sc x=ζ->Cs X.env.scope x
 loc:∀x,lC S.sc x=ζ->Loc X.env.scope x/\(X.fn x=ζ\/X.env.scope.names.lookup x=θ .local)
 gl:∀x,uM S.sc x=ζ->Gl X x
 cel:∀x,(fJ S.sc x=θ .cell\/fJ S.sc x=θ .free)->(X.env.kindOf x=θ .cell\/X.env.kindOf x=θ .free)
 units:X.A.units+40<cLine/\xj X.w X.K
 calm:X.calm=ζ
 fns:∀i x,idxOf S.fns x=θ i->∃f fd ps k,nU X.prog X.w X.K X.mg X.base nh k f fd ps (DL X.K ps.length (T.cl i))/\gP k X.A/\X.mg x=θ (.ref f)/\sw X.K (.ref f)=ζ/\Binds X.K fd ps []/\∀ds r,T.cl i ds=.ok r->ds.length=ps.length
 zx:∀i x,idxOf S.zx x=θ i->∃v u,X.mg x=θ u/\RelV v u/\∀H,Rep X.K H (T.gl i) v []
 fT:∀x,S.fT.contains x=ζ->X.mg x=η
theorem bA (h:notStar e=ζ):Ι (e::es) env=(ε,eval e env)::Ι es env:=by
 cases e<;>first|rfl | (cases h)
theorem vm (h:j4 e=ζ)(x:Value):wE e env x=pure x:=by
 cases e<;>first|rfl | (cases h)
theorem tM (h:iR e=ζ):oj e:=by
 intro o i;cases e<;>first|rfl | (cases h)
variable {f:Expr->Option Ex}
theorem bQ (h:eO f (e::es)=θ cs):notStar e=ζ/\∃c d,f e=θ c/\eO f es=θ d/\cs=.cons c d:=by
 unfold eO at h;by_cases hs:notStar e=ζ
 .rw[if_pos hs] at h;rw[ah] at h;obtain⟨c,h1,h2⟩:=h;rw[ae] at h2;obtain⟨d,h2,rfl⟩:=h2;exact⟨hs,c,d,h1,h2,rfl⟩
 .rw[if_neg hs] at h;cases h
theorem fK:∀{es:List Expr}{cs:nV},eO f es=θ cs->(Do pos (Ι es env)).any (·.1)=ε
 |[],cs,_=>rfl
 |e::es,cs,h=>by
  obtain⟨hs,c,d,_,h2,_⟩:=bQ h;rw[bA hs];show (ε || (Do pos (Ι es env)).any (·.1))=ε;rw[fK h2];rfl
theorem fG (h:fL x=ζ):(x==("__debug__" : Str))=ε/\(x==("__classdict__" : Str))=ε/\x≠"__name__":=by
 unfold fL at h;rw[aj,aj] at h;obtain⟨⟨h1,h2⟩,h3⟩:=h;refine⟨by simpa using h1,by simpa using h2,λe=>?_⟩;subst e;simp at h3
theorem GO {c a b:Expr}{cc cb:Ex}(hc:PT X c (pX X.K T cc))(ha:PT X a (pX X.K T ca))(hb:PT X b (pX X.K T cb)):PT X (.IfExp c a b pos) (pX X.K T (.ite cc ca cb)):=by
 intro pins s σ H Q I h;obtain⟨P,env,F,re,p,bb,Lf,ht,k⟩:=h;unfold ev at Lf;obtain⟨q,h1,Lf⟩:=Rs.Le Lf;obtain⟨kb,h2,Lf⟩:=Rs.Le Lf;refine isTrue_IfExp (dG (hc pins s σ H (λd H'=>d=kb/\aN H H') I ⟨P,env,F,re,q,kb,h1,dF h2,λH' s=>⟨rfl,s⟩⟩) λd s1 ⟨H1,I1,e,s⟩=>?_);subst e;cases d with
 |true=>exact ha pins s1 σ H1 Q I1 ⟨P,env,F,re.same s,p,bb,Lf,ht,λH' s'=>k H' (s.trans s')⟩
 |false=>exact hb pins s1 σ H1 Q I1 ⟨P,env,F,re.same s,p,bb,Lf,ht,λH' s'=>k H' (s.trans s')⟩
theorem Bo {a:Ex}{env:En}{p}(Lf:fU T (.Lm a) env=.ok p):p.2=[]/\∃l,bL T (.cons a .nil) env=.ok l/\((∃j,l.map (·.1)=[.int j]/\me j=ζ/\p.1=cN 0 1 j.toNat)\/(∃i j,l.map (·.1)=[.int i,.int j]/\me i=ζ/\me j=ζ/\p.1=cN i 1 (j-i).toNat)):=by
 unfold fU at Lf;obtain⟨q,h1,Lf⟩:=Rs.Le Lf;split at Lf
 .rename_i j hj;split at Lf
  .rename_i ho;cases Lf;exact⟨rfl,[q],by unfold bL;rw[h1];unfold bL;rfl,.inl ⟨j,by simp[hj],ho,rfl⟩⟩
  .cases Lf
 .cases Lf
theorem Ah {a b:Ex}{env:En}{p}(Lf:fU T (.M0 a b) env=.ok p):p.2=[]/\∃l,bL T (.cons a (.cons b .nil)) env=.ok l/\((∃j,l.map (·.1)=[.int j]/\me j=ζ/\p.1=cN 0 1 j.toNat)\/(∃i j,l.map (·.1)=[.int i,.int j]/\me i=ζ/\me j=ζ/\p.1=cN i 1 (j-i).toNat)):=by
 unfold fU at Lf;obtain⟨q,h1,Lf⟩:=Rs.Le Lf;obtain⟨r,h2,Lf⟩:=Rs.Le Lf;split at Lf
 .rename_i i j hi hj;split at Lf
  .rename_i ho;cases Lf;rw[aj] at ho;exact⟨rfl,[q,r],by unfold bL;rw[h1];unfold bL;rw[h2];unfold bL;rfl,.inr ⟨i,j,by simp[hi,hj],ho.1,ho.2,rfl⟩⟩
  .cases Lf
 .cases Lf
def SE (X:Cx)(T:Tb)(e:Expr)(c:Ex):Prop:=PE X e (tE X.K T c)/\PT X e (pX X.K T c)
section
variable {X:Cx}{S:Sc}{T:Tb}
theorem cK (hf:∀e c,f e=θ c->SE X T e c):∀{es:List Expr}{cs:nV},eO f es=θ cs->PA X es (qL X.K T cs)
 |[],cs,h=>by cases h;exact vB
 |e::es,cs,h=>by
  obtain⟨hs,c,d,h1,h2,rfl⟩:=bQ h;exact og (hf e c h1).1 (cK hf h2) (bA hs)
theorem Fg {op:BoolOp}{pos:GE}(hf:∀e c,f e=θ c->SE X T e c):∀{es:List Expr}{c:Ex},IV f op es=θ c->PE X (.BoolOp op es pos) (tE X.K T c)/\PW X (.BoolOp op es pos) (pX X.K T c)
 |[],c,h=>by cases h
 |[a],c,h=>by
  have h:f a=θ c:=h;have ⟨h1,h2⟩:=hf a c h;refine⟨Hf h1,?_⟩;cases op with
  |And=>exact Dd h2
  |Or=>exact Ib h2
 |a::b::r,c,h=>by
  unfold IV at h;rw[ah] at h;obtain⟨ca,h1,h2⟩:=h;rw[ae] at h2;obtain⟨cb,h2,h3⟩:=h2;subst h3;have ⟨ia,ta⟩:=hf a ca h1;have ⟨ib,tb⟩:=Fg (pos:=pos) hf h2;cases op with
  |And=>exact⟨Fo ia ib,G9 ta tb⟩
  |Or=>exact⟨Jj ia ib,Kf ta tb⟩
theorem uL (C:Ctx X S T):∀{es:List Expr}{is:List Nat},pT S es=θ is->Ka X es (gU is)/\(wl es X.env).length=is.length/\(wl es X.env).findIdx? (·.1)=η:=by
 intro es
 induction es with
 |nil=>intro is h;cases h;exact⟨Er,rfl,rfl⟩
 |cons e es ih=>
  intro is h;cases e with
  |Name x p=>
   unfold pT at h;by_cases hl:lC S.sc x=ζ
   .rw[if_pos hl,ah] at h;obtain⟨i,h1,h2⟩:=h;rw[ae] at h2;obtain⟨js,h2,rfl⟩:=h2;obtain⟨a,b,c⟩:=ih h2;have hN:=C.nd;rw[<-C.N] at hN;have hi:=cI h1;rw[<-C.N] at hi;refine⟨BU (se hN hi (C.loc x hl).1 (C.loc x hl).2) a,?_,?_⟩
    .show (wl es X.env).length+1=js.length+1;rw[b]
    .show List.findIdx? (·.1) ((ε,_)::wl es X.env)=η;rw[List.findIdx?_cons];simp[c]
   .rw[if_neg hl] at h;cases h
  |_=>cases h
theorem sH (C:Ctx X S T){t:nQ}(h:xX S e=θ t):PG X e (uT X.K t):=by
 cases e with
 |Name x p=>
  unfold xX at h;dsimp only at h;by_cases hl:lC S.sc x=ζ
  .rw[if_pos hl,ae] at h;obtain⟨i,h1,rfl⟩:=h;have hN:=C.nd;rw[<-C.N] at hN;have hi:=cI h1;rw[<-C.N] at hi;exact se hN hi (C.loc x hl).1 (C.loc x hl).2
  .rw[if_neg hl] at h;cases h
 |Tuple es a b=>
  unfold xX at h;rw[ae] at h;obtain⟨is,h1,rfl⟩:=h;obtain⟨a,b,c⟩:=uL C h1;exact zA C.calm a b c
 |_=>cases h
theorem ES (C:Ctx X S T)(hf:∀e c,f e=θ c->SE X T e c){it:tX}(h:Ii S f (isTup tg) e=θ it):PI X tg e (tI X.K T it):=by
 unfold Ii at h;split at h
 .rename_i x p es pos;by_cases hx:x = "range"
  .subst hx;rw[if_pos rfl] at h;by_cases hg:lI S "range" = ζ
   .rw[if_pos hg] at h;have MC:uM S.sc "range" = ζ/\S.fT.contains "range" = ζ:=by
     unfold lI at hg
     rwa [aj] at hg
    cases hc:eO f es with
    |none=>rw[hc] at h;cases h
    |some cs=>
     rw[hc] at h;cases es with
     |nil=>cases hc;cases h
     |cons e0 rest=>
      obtain⟨hs,c0,d0,_,hd,rfl⟩:=bQ hc;refine GY rfl (C.gl _ MC.1) (C.fT _ MC.2) (cK hf hc) (bA hs) (fK hd) ?_;intro env p Lf;cases d0 with
      |nil=>
       cases h;exact Bo Lf
      |cons c1 d1=>
       cases d1 with
       |nil=>
        cases h;exact Ah Lf
       |cons c2 d2=>
        cases h
   .rw[if_neg hg] at h;cases h
  rw[if_neg hx] at h;by_cases hx:x = "enumerate"
  .subst hx;rw[if_pos rfl] at h;by_cases hg:(lI S "enumerate" && isTup tg)=ζ
   .rw[if_pos hg] at h;rw[aj] at hg;have MC:uM S.sc "enumerate" = ζ/\S.fT.contains "enumerate" = ζ:=by
     have:=hg.1;unfold lI at this
     rwa [aj] at this
    cases tg with
    |Tuple elts x1 tp=>
     split at h
     .rename_i e0;by_cases hs:notStar e0=ζ
      .rw[if_pos hs,ae] at h;obtain⟨c,h1,rfl⟩:=h;exact CC (C.gl _ MC.1) (C.fT _ MC.2) (og (hf _ _ h1).1 vB (bA hs)) (bA hs)
      .rw[if_neg hs] at h;cases h
     .cases h
    |_=>cases hg.2
   .rw[if_neg hg] at h;cases h
  rw[if_neg hx] at h;by_cases hx:x = "reversed"
  .subst hx;rw[if_pos rfl] at h;cases h
  rw[if_neg hx] at h;by_cases hx:x = "zip"
  .subst hx;rw[if_pos rfl] at h;by_cases hg:(lI S "zip" && isTup tg)=ζ
   .rw[if_pos hg] at h;rw[aj] at hg;have MC:uM S.sc "zip" = ζ/\S.fT.contains "zip" = ζ:=by
     have:=hg.1;unfold lI at this
     rwa [aj] at this
    cases tg with
    |Tuple elts x1 tp=>
     split at h
     .rename_i e0 e1;by_cases hs:(notStar e0&&notStar e1)=ζ
      .rw[if_pos hs,ah] at h;obtain⟨c,h1,h⟩:=h;rw[ae] at h;obtain⟨d,h2,rfl⟩:=h;rw[aj] at hs;exact FE (C.gl _ MC.1) (C.fT _ MC.2) (og (hf _ _ h1).1 (og (hf _ _ h2).1 vB (bA hs.2)) (bA hs.1)) (bA hs.1) (by rw[bA hs.2];rfl)
      .rw[if_neg hs] at h;cases h
     .cases h
    |_=>cases hg.2
   .rw[if_neg hg] at h;cases h
  .rw[if_neg hx,ae] at h;obtain⟨c,h1,rfl⟩:=h;exact AO (hf _ _ h1).1
 .by_cases hn:j4 e=ζ
  .rw[if_pos hn,ae] at h;obtain⟨c,h1,rfl⟩:=h;exact AO (hf _ _ h1).1
  .rw[if_neg hn] at h;cases h
end
theorem jZ:∀{names:List (Str×NameKind)}{x:Str}{k:NameKind},names.lookup x=θ k->k≠.free ->
  (names.map λ(n,k)=>if (k==Ξ&&env.scope.kind == .function&&env.kindOf n==θ .cell) then (n,pc) else (n,k)).lookup x=θ k
 |[],_,_,h,_=>by simp at h
 | (n,k0)::r,x,k,h,hk=>by
  rw[av];by_cases hc:(k0==Ξ&&env.scope.kind == .function&&env.kindOf n==θ .cell)=ζ
  .simp only[hc,if_true,dh] at h ⊢;cases hx:x==n with
   |true=>
    rw[hx] at h;cases h;rw[aj,aj] at hc;exact absurd (by simpa using hc.1.1) hk
   |false=>rw[hx] at h;exact jZ h hk
  .have hc:(k0==Ξ&&env.scope.kind == .function&&env.kindOf n==θ .cell)=ε:=by simpa using hc
   simp only[hc,a8,if_false,dh] at h ⊢;cases hx:x==n with
   |true=>rw[hx] at h;exact h
   |false=>rw[hx] at h;exact jZ h hk
theorem nI:∀{l:List (Option Nat)}{p:List Nat},mJ l=θ p->l=p.map θ
 |[],p,h=>by cases h;rfl
 |some i::r,p,h=>by
  simp only[mJ,ae] at h;obtain⟨q,h1,rfl⟩:=h;rw[nI h1];rfl
 |none::r,p,h=>by cases h
variable {S:Sc}
theorem ou {sc:Scope}(h:nk S sc=ζ):sc.kind=.function/\(∀y∈sc.names,y.2=.cell->sc.names.lookup y.1=θ .cell)/\(∀y∈sc.names,y.2=.local->sc.names.lookup y.1=θ .local) /\
  (∀y∈sc.names,y.2=.free->sc.names.lookup y.1=θ .free/\(fJ S.sc y.1=θ .cell\/fJ S.sc y.1=θ .free))/\(bW sc++bZ sc).Nodup:=by
 unfold nk at h;simp only[aj,cz,g6,beq_iff_eq,bne_iff_ne,decide_eq_true_eq,fJ] at h;obtain⟨⟨⟨⟨h1,h2⟩,h3⟩,h4⟩,h5⟩:=h;refine⟨h1,λy hy e=>?_,λy hy e=>?_,λy hy e=>?_,h5⟩
 .rcases h2 y hy with h|h
  .exact absurd e h
  .exact h
 .rcases h3 y hy with h|h
  .exact absurd e h
  .exact h
 .rcases h4 y hy with h|h
  .exact absurd e h
  .exact h
section
variable {X:Cx}{S:Sc}{T:Tb}{sc:Scope}{pick:List Nat}
theorem vZ (C:Ctx X S T)(h:nk S sc=ζ)(hp:mJ ((bZ sc).map (idxOf S.N))=θ pick):fW X sc (bW sc++bZ sc) (fZ (bW sc).length pick):=by
 obtain⟨h1,h2,h3,h4,h5⟩:=ou h;have hp:=nI hp;have hlen:(bZ sc).length=pick.length:=by simpa using congrArg ul hp
 refine⟨h1,h2,h3,by simp[fZ,hlen],λx hx=>C.cel x (h4 _ (cy hx) rfl).2,λx hx=>(h4 _ hx rfl).1,λi j x hi hx=>?_⟩;unfold fZ at hi;by_cases LB:i<(bW sc).length
 .rw[Θ (by simpa using LB),Ω] at hi;split at hi<;>cases hi
 .have hle:=i7 LB;rw[Μ (by simpa using hle),bf,<-hp,π] at hi;rw[Μ hle] at hx;rw[hx] at hi;simp only[bw,da] at hi;have hm:=Α hx;unfold bZ at hm;rw[χ] at hm;obtain⟨p,Qf,rfl⟩:=hm;rw[gx] at Qf;have hf:p.2=.free:=by simpa using Qf.2
  refine⟨(h4 p Qf.1 hf).1,?_⟩;rw[C.N];exact cI hi
theorem zd (C:Ctx X S T)(h:nk S sc=ζ)(Ca:Addr)(s0:ρ)(H0:Hp)(ex:List Addr):Ctx (inner X sc (bW sc++bZ sc) Ca s0 H0 ex) { S with N:=bW sc++bZ sc,sc:=sc } T:=by
 obtain⟨h1,h2,h3,h4,h5⟩:=ou h;have keep:∀x k,sc.names.lookup x=θ k->k≠.free->(ï sc X.env).names.lookup x=θ k:=λx k e hk=>jZ e hk
 refine⟨rfl,h5,λx hx=>?_,λx hx=>?_,λx hx=>?_,λx hx=>?_,C.units,C.calm,C.fns,C.zx,C.fT⟩
 .unfold qb fJ at hx;dsimp only at hx;split at hx
  .rename_i e;exact .inl (keep _ _ e (by simp))
  .rename_i e;exact .inr (.inl (keep _ _ e (by simp)))
  .rename_i e;exact .inr (iA e)
  .cases hx
 .unfold lC fJ at hx;dsimp only at hx;split at hx
  .rename_i e;exact⟨.inl (keep _ _ e (by simp)),.inr (keep _ _ e (by simp))⟩
  .rename_i e;exact⟨.inr (keep _ _ e (by simp)),.inl (by show (sc.names.lookup x==θ pc)=ζ;rw[e];rfl)⟩
  .cases hx
 .unfold uM fJ at hx;dsimp only at hx;split at hx
  .rename_i e;exact keep _ _ e (by simp)
  .cases hx
 .unfold fJ at hx;rcases hx with hx|hx
  .exact .inl (keep _ _ hx (by simp))
  .exact iA hx
end
theorem BN (n d:Nat)(o:Option Int):kZ n d o=HT.kZ n d o:=by cases o<;>rfl
section
variable {X:Cx}{T:Tb}{a:Expr}{ca:Ex}{lo hi:Option Expr}{cl ch:nY}{pos p2:GE}
noncomputable def tO (K:Frag)(T:Tb)(c:nY):TO:=λσ H Q=>∃P env F,RE K P env σ H F/\∃o,jW T c env=.ok o/\∀H',aN H H'->Q o H'
theorem AG {X:Cx}{e:Option Expr}{t t':TO}(h:PO X e t)(k:∀σ H Q,t' σ H Q->t σ H Q):PO X e t':=λpins s σ H Q I q=>h pins s σ H Q I (k σ H Q q)
theorem C3:PO X η (tO X.K T .none):=AG DX λσ H Q ⟨P,env,F,re,o,h,k⟩=>by
 unfold jW at h;cases h;exact k H (aN.refl _)
theorem Ei (h:PE X a (tE X.K T ca)):PO X (θ a) (tO X.K T (.some ca)):=AG (Eg h) λσ H Q ⟨P,env,F,re,o,h,k⟩=>by
 unfold jW at h;obtain⟨p,h1,h2⟩:=Rs.Le h;refine⟨P,env,F,re,p,h1,λv H' G s rp rt=>?_⟩;split at h2
 .rename_i i hi;cases h2;rw[hi] at rp;obtain⟨rfl,rfl⟩:=rp.int_inv;exact⟨i,rfl,k H' s⟩
 .cases h2
theorem Jo (ha:PE X a (tE X.K T ca))(hl:PO X lo (tO X.K T cl))(hh:PO X hi (tO X.K T ch)):PE X (.Subscript a (.Slice lo hi η p2) pos) (tE X.K T (.sl ca cl ch)):=by
 refine bX (zy Dw ha hl hh) λσ H Q ⟨P,env,F,re,p,Lf,k⟩=>?_
 unfold ev at Lf;obtain⟨q,h1,Lf⟩:=Rs.Le Lf;obtain⟨ol,h2,Lf⟩:=Rs.Le Lf;obtain⟨oh,h3,Lf⟩:=Rs.Le Lf;obtain⟨d,h4,Lf⟩:=Rs.Le Lf;have h4:=dF h4;cases Lf;refine⟨P,env,F,re,q,h1,λv H1 G s rp rt=>⟨P,env,F,re.same s,ol,h2,λH2 s2=>⟨P,env,F,re.same (s.trans s2),oh,h3,λH3 s3=>?_⟩⟩⟩;have RQ:=s2.trans s3;cases hq:q.1 with
 |lst xs=>
  rw[hq] at rp h4;cases h4;obtain⟨pa,vs,G',rfl,rfl,hr,rs⟩:=Rep.lst_inv (rp.same RQ);refine⟨pa,vs,rfl,.inl hr,λpn hn=>?_⟩;obtain⟨G1,r1,u1⟩:=rs.drop (kZ xs.length 0 ol);obtain⟨G2,r2,u2⟩:=r1.take (kZ xs.length xs.length oh-kZ xs.length 0 ol);have hc:yC vs ol oh=(vs.drop (kZ xs.length 0 ol)).take (kZ xs.length xs.length oh-kZ xs.length 0 ol):=by
   unfold yC;rw[rs.len,BN,BN]
  rw[hc];have sub:∀a∈G2,a∈pa::G':=λa ha=>aa _ (u1.mem (u2.mem ha))
  obtain⟨M7,nv⟩:=k9 (G0:=pa::G') r2 sub hn;have ar:Args X.K env F H H3 [q] [.ref pa] ((pa::G') ++ []):=.cons s (by rw[hq];exact rp) rt (.nil RQ);rw[bc] at ar;exact k _ _ _ ((s.trans RQ).trans nv.same) M7 (cA.new ar nv (by simp[bF]))
 |_=>rw[hq] at h4;cases h4
end
variable {id:String}{name:Str}{r:List Expr}
section
variable {X:Cx}{S:Sc}{T:Tb}
theorem Ak (hf:∀e c,f e=θ c->SE X T e c){o:Option Expr}{c:nY}(h:Aa f o=θ c):PO X o (tO X.K T c):=by
 cases o with
 |none=>cases h;exact C3
 |some e=>
  have h:(f e).map nY.some=θ c:=h;rw[ae] at h;obtain⟨d,h1,rfl⟩:=h;exact Ei (hf e d h1).1
theorem B4 {x:String}{b:Cz}(hf:∀e c,f e=θ c->SE X T e c){p:GE}(hr:gW X (.builtin id) (pZ X.K b))(hv:wf x=θ (.builtin id))(hg:Gl X x)(hm:X.mg x=η)(hn:fL x=ζ)(ha:eO f (e::r)=θ cs) :
  PE X (.Call (.Name x p) (e::r) [] pos) (tE X.K T (.blt b cs)):=by
 obtain⟨hs,_,_,_,h2,_⟩:=bQ ha;obtain⟨n1,n2,n3⟩:=fG hn;exact bX (uv hr hg hm hv (cK hf ha) n3 n1 (bA hs) (fK h2)) λσ H Q h=>tN h
theorem JM {x:String}{b:Cz}(hf:∀e c,f e=θ c->SE X T e c){p:GE}(hr:gW X (.type id) (pZ X.K b))(hv:wf x=θ (.type id))(hg:Gl X x)(hm:X.mg x=η)(hn:fL x=ζ)(ha:eO f (e::r)=θ cs) :
  PE X (.Call (.Name x p) (e::r) [] pos) (tE X.K T (.blt b cs)):=by
 obtain⟨hs,_,_,_,h2,_⟩:=bQ ha;obtain⟨n1,n2,n3⟩:=fG hn;exact bX (yL hr hg hm hv (cK hf ha) n3 n1 (bA hs) (fK h2)) λσ H Q h=>tN h
theorem A2 {t:Str}{u:String}(h:Gw t=θ u):u∈kM/\wf t=θ (.type u):=by
 unfold Gw at h;split at h
 .rename_i e;cases h;subst e;exact⟨by decide,boot_int⟩
 split at h
 .rename_i e;cases h;subst e;exact⟨by decide,boot_bool⟩
 split at h
 .rename_i e;cases h;subst e;exact⟨by decide,ü⟩
 split at h
 .rename_i e;cases h;subst e;exact⟨by decide,boot_tuple⟩
 cases h
theorem Dx (C:Ctx X S T)(hf:∀e c,f e=θ c->SE X T e c){p pos:GE}(h:wt S f x es=θ c):PE X (.Call (.Name x p) es [] pos) (tE X.K T c):=by
 unfold wt at h;by_cases hk:(fL x&&uM S.sc x)=ζ
 .rw[if_pos hk] at h;rw[aj] at hk;obtain⟨hn,hg⟩:=hk;have hg:=C.gl x hg;obtain⟨n1,n2,n3⟩:=fG hn;cases hi:idxOf S.fns x with
  |some i=>
   rw[hi] at h;dsimp only at h;rw[ae] at h;obtain⟨cs,h1,rfl⟩:=h;obtain⟨fa,fd,ps,k,FO,hr,hm,WB,hb,hl⟩:=C.fns i x hi;cases es with
   |nil=>
    cases h1;refine bX (Am FO hr hg hm WB hb .nil ED n1) λσ H Q h=>?_
    have:=rz hl h;obtain⟨P,env,F,re,l,Lf,k⟩:=this;unfold bL at Lf;cases Lf;exact k [] H [] (.nil (aN.refl _))
   |cons e r=>
    obtain⟨hs,_,_,_,h2,_⟩:=bQ h1;exact bX (Dn FO hr hg hm WB hb .nil ED (cK hf h1) n1 (bA hs) (fK h2)) λσ H Q h=>rz hl h
  |none=>
   rw[hi] at h;dsimp only at h;by_cases hb:S.fT.contains x=ζ
   .rw[if_pos hb] at h;have hm:=C.fT x hb;by_cases hx:x = "isinstance"
    .rw[if_pos hx] at h;subst hx;unfold Ks at h;split at h
     .rename_i a t pt;by_cases hc:(uM S.sc t&&S.fT.contains t&&fL t&&notStar a)=ζ
      .rw[if_pos hc] at h;simp only[aj] at hc;obtain⟨⟨⟨c1,c2⟩,c3⟩,c4⟩:=hc;rw[ah] at h;obtain⟨u,h1,h2⟩:=h;rw[ae] at h2;obtain⟨ca,h2,rfl⟩:=h2;obtain⟨hu,hbt⟩:=A2 h1;obtain⟨m1,m2,m3⟩:=fG c3;refine bX (uv zi hg hm boot_isinstance (dM (hf a ca h2).1 (dM (D3 (v:=.ty u) (C.gl t c1) (C.fT t c2) hbt rfl m3 m1) pM rfl) (bA c4)) n3 n1 (bA c4) rfl) λσ H Q h=>Bq hu h
      .rw[if_neg hc] at h;cases h
     .cases h
    .rw[if_neg hx] at h;by_cases Te:x = "list"/\qT es=ζ
     .rw[if_pos Te] at h;obtain⟨rfl,_⟩:=Te;cases h
     rw[if_neg Te] at h;by_cases Tf:x = "list"/\qJ es=ζ
     .rw[if_pos Tf] at h;obtain⟨rfl,_⟩:=Tf;unfold Fi at h;split at h
      .rename_i r pr NU pp zz;by_cases SY:r = "range"
       .rw[if_pos SY] at h;subst SY;by_cases Na:lI S "range" = ζ
        .rw[if_pos Na] at h;have MC:uM S.sc "range" = ζ/\S.fT.contains "range" = ζ:=by
          have:=Na;unfold lI at this
          rwa [aj] at this
         split at h
         .rename_i a;rw[ae] at h;obtain⟨cs,ha,rfl⟩:=h;obtain⟨n1,c1,d1,_,hd,_⟩:=bQ ha;exact wW C.calm hg hm (C.gl _ MC.1) (C.fT _ MC.2) (cK hf ha) ⟨_,_,rfl,bA n1,rfl⟩
         .rename_i a b;rw[ae] at h;obtain⟨cs,ha,rfl⟩:=h;obtain⟨n1,c1,d1,_,hd,_⟩:=bQ ha;obtain⟨n2,_,_,_,_,_⟩:=bQ hd;exact wW C.calm hg hm (C.gl _ MC.1) (C.fT _ MC.2) (cK hf ha) ⟨_,_,rfl,bA n1,by rw[bA n2];rfl⟩
         .cases h
        .rw[if_neg Na] at h;cases h
       .rw[if_neg SY] at h;cases h
      .cases h
     rw[if_neg Tf] at h;cases es with
     |nil=>cases h
     |cons e r=>
      dsimp only at h;rw[ah] at h;obtain⟨b,h1,h2⟩:=h;rw[ae] at h2;obtain⟨cs,h2,rfl⟩:=h2;unfold J8 at h1;split at h1
      .rename_i e;cases h1;subst e;exact B4 hf zf boot_len hg hm hn h2
      split at h1
      .rename_i e;cases h1;subst e;exact B4 hf (yO C.calm) boot_all hg hm hn h2
      split at h1
      .rename_i e;cases h1;subst e;exact B4 hf zc boot_abs hg hm hn h2
      split at h1
      .rename_i e;cases h1;subst e;exact JM hf (vU C.calm) ü hg hm hn h2
      split at h1
      .rename_i e;cases h1;subst e;exact JM hf yR boot_int hg hm hn h2
      split at h1
      .rename_i e;cases h1;subst e;exact B4 hf (yQ C.calm) boot_sum hg hm hn h2
      split at h1
      .rename_i e;cases h1;subst e;exact B4 hf r8 boot_sorted hg hm hn h2
      cases h1
   .rw[if_neg hb] at h;cases h
 .rw[if_neg hk] at h;cases h
theorem Gk (hu:X.A.units+40<cLine)(hf:∀e c,f e=θ c->SE X T e c){apos cpos:GE}(h:D5 f o name es apos cpos=θ c):PE X (.Call (.Attribute o name apos) es [] cpos) (tE X.K T c):=by
 unfold D5 at h;split at h
 .rename_i e;by_cases hk:(apos.endLine==cpos.line&&B8 o)=ζ
  .rw[if_pos hk] at h;rw[aj] at hk;have hb:XV o name X.env (eval o X.env)=eval o X.env:=by
    obtain⟨_,hk⟩:=hk;cases o<;>first|rfl | (cases hk;done)|skip
    rename_i g as ks cp;cases as with
    |nil=>cases hk
    |cons a r=>cases g<;>rfl
   rw[ah] at h;obtain⟨m,hm,h⟩:=h;rw[ah] at h;obtain⟨co,ho,h⟩:=h;rw[ah] at h;obtain⟨cs,hc,h⟩:=h;obtain⟨ns,ce,d,he,hd,rfl⟩:=bQ hc;cases hd;cases h;unfold E7 at hm;split at hm
   .rename_i e;cases hm;subst e;refine bX (nF df PySem.F.slot_list_count PySem.F.type_list_count AQ (hf o co ho).1 (cK hf hc) hb ?_ hk.1 (bA ns) rfl) λσ H Q h=>A9 h
    rw[bA ns];rfl
   split at hm
   .rename_i e;cases hm;subst e;refine bX (nF df Yc PySem.F.type_list_index (z0 hu) (hf o co ho).1 (cK hf hc) hb ?_ hk.1 (bA ns) rfl) λσ H Q h=>Cc h
    rw[bA ns];rfl
   cases hm
  .rw[if_neg hk] at h;cases h
 .cases h
theorem wK (h:yl own t=ζ)(i:Nat)(hi:t=.nm i\/∃is,t=.tp is/\i∈is):(fZ own pick)[i]? = θ η:=by
 have:i<own:=by
  rcases hi with rfl|⟨is,rfl,hm⟩
  .simpa[yl] using h
  .simp only[yl,cz,decide_eq_true_eq] at h;exact h i hm
 unfold fZ;rw[Θ (by simpa using this),Ω,if_pos this]
structure qz (X:Cx)(S:Sc)(T:Tb)(elt tg ii:Expr)(ifs:List Expr)(sc:Scope)(c:Ex):Prop where
 ex:∃pick t it ci ce,c=.comp (bW sc).length pick t it ci ce/\fW X sc (bW sc++bZ sc) (fZ (bW sc).length pick)/\PI X tg ii (tI X.K T it) /\
  (∀C s0 H0 ex,PG (inner X sc (bW sc++bZ sc) C s0 H0 ex) tg (uT X.K t)/\Ip (inner X sc (bW sc++bZ sc) C s0 H0 ex) ifs (Ia X.K T ci)/\PE (inner X sc (bW sc++bZ sc) C s0 H0 ex) elt (tE X.K T ce)) /\
  yl (bW sc).length t=ζ/\j4 ii=ζ
variable {sc:Scope}
theorem pR (C:Ctx X S T){f:Sc->Expr->Option Ex}(hf:∀{X:Cx}{S:Sc},Ctx X S T->∀e c,f S e=θ c->SE X T e c)(h:tR S f elt tg ii ifs sc=θ c):qz X S T elt tg ii ifs sc c:=by
 unfold tR at h;by_cases hk:(nk S sc&&j4 ii)=ζ
 .rw[if_pos hk] at h;rw[aj] at hk;rw[ah] at h;obtain⟨it,h1,h⟩:=h;rw[ah] at h;obtain⟨pick,h2,h⟩:=h;rw[ah] at h;obtain⟨t,h3,h⟩:=h;by_cases ho:yl (bW sc).length t=ζ
  .rw[if_pos ho] at h;rw[ah] at h;obtain⟨ci,h4,h⟩:=h;rw[ae] at h;obtain⟨ce,h5,rfl⟩:=h;refine⟨pick,t,it,ci,ce,rfl,vZ C hk.1 h2,ES C (hf C) h1,λCa s0 H0 ex=>?_,ho,hk.2⟩;have C':=zd C hk.1 Ca s0 H0 ex;refine⟨sH C' h3,?_,(hf C' elt ce h5).1⟩;unfold Jz at h4;split at h4
   .cases h4;exact Dm
   .rw[ae] at h4;obtain⟨cc,h4,rfl⟩:=h4;exact CY (hf C' _ cc h4).2
   .cases h4
  .rw[if_neg ho] at h;cases h
 .rw[if_neg hk] at h;cases h
theorem DS (C:Ctx X S T){pos:GE}(h:qz X S T elt tg ii ifs sc c):PE X (.ListComp elt [⟨tg,ii,ifs,0⟩] sc pos) (tE X.K T c):=by
 obtain⟨pick,t,it,ci,ce,rfl,h1,h2,h3,h4,h5⟩:=h;exact bX (Dv h1 C.calm h2 h3 (rf (wK h4)) (vm h5)) λσ H Q h=>qC h
theorem C9 (C:Ctx X S T)(hf:∀e c,f e=θ c->SE X T e c){kn:Str}{a d:Expr}{p kp pos:GE}(h:xN S f x a d kn=θ c):PE X (.Call (.Name x p) [a] [⟨θ kn,d,kp⟩] pos) (tE X.K T c):=by
 unfold xN at h;split at h
 .rename_i e1;subst e1;split at h
  .rename_i e2;subst e2;by_cases Na:(lI S "max" && notStar a)=ζ
   .rw[if_pos Na,ah] at h;obtain⟨ca,h1,h⟩:=h;rw[ae] at h;obtain⟨cd,h2,rfl⟩:=h;rw[aj] at Na;have MC:uM S.sc "max" = ζ/\S.fT.contains "max" = ζ:=by
     have:=Na.1;unfold lI at this
     rwa [aj] at this
    exact Cy C.calm (C.gl _ MC.1) (C.fT _ MC.2) (hf a ca h1).1 (hf d cd h2).1 (bA Na.2)
   .rw[if_neg Na] at h;cases h
  .cases h
 .cases h
theorem bY:∀(n:Nat) {X:Cx}{S:Sc}{T:Tb}(C:Ctx X S T) (e:Expr) (c:Ex),cE n S e=θ c->SE X T e c:=by
 intro n
 induction n with
 |zero=>intro X S T C e c h;cases h
 |succ n ih=>
  intro X S T C e c h;have LS:=ih C;cases e with
  |Name x p=>
   have h:zN S x=θ c:=h;unfold zN at h;by_cases hn:fL x=ζ
   .rw[if_pos hn] at h;obtain⟨n1,n2,n3⟩:=fG hn;by_cases hv:qb S.sc x=ζ
    .rw[if_pos hv,ae] at h;obtain⟨i,h1,rfl⟩:=h;have hi:=cI h1;rw[<-C.N] at hi;have:=FC (T:=T) (pos:=p) hi (C.OA x hv) n1 n2;exact⟨this,dQ this λ_=>rfl⟩
    .rw[if_neg hv] at h;by_cases hg:uM S.sc x=ζ
     .rw[if_pos hg,ae] at h;obtain⟨i,h1,rfl⟩:=h;obtain⟨v,u,g1,g2,g3⟩:=C.zx i x h1;have:=GK (Dh (pos:=p) (C.gl x hg) g1 g2 n1) g3;exact⟨this,dQ this λ_=>rfl⟩
     .rw[if_neg hg] at h;cases h
   .rw[if_neg hn] at h;cases h
  |Constant k x1 p=>
   have h:JR k=θ c:=h;cases k with
   |int i=>cases h;exact⟨kj (T:=T) Ce λH=>Rep.int _,dQ (kj (T:=T) Ce λH=>Rep.int _) λ_=>rfl⟩
   |bool b=>cases h;exact⟨kj (T:=T) EM λH=>Rep.bl _,dQ (kj (T:=T) EM λH=>Rep.bl _) λ_=>rfl⟩
   |none=>cases h;exact⟨kj (T:=T) Aw λH=>Rep.Lj,dQ (kj (T:=T) Aw λH=>Rep.Lj) λ_=>rfl⟩
   |str s=>cases h;exact⟨kj (T:=T) AM λH=>Rep.str _,dQ (kj (T:=T) AM λH=>Rep.str _) λ_=>rfl⟩
   |_=>cases h
  |BinOp a op b p=>
   have h:HC (cE n S) a op b=θ c:=h;unfold HC at h;rw[ah] at h;obtain⟨ca,h1,h⟩:=h;rw[ae] at h;obtain⟨cb,h2,rfl⟩:=h;have:=Ho (pos:=p) (D8 op) (LS a ca h1).1 (LS b cb h2).1;exact⟨this,dQ this λ_=>rfl⟩
  |UnaryOp op a p=>
   have h:Xb op (cE n S a)=θ c:=h;cases op with
   |USub=>
    have h:(cE n S a).map .neg=θ c:=h;rw[ae] at h;obtain⟨ca,h1,rfl⟩:=h;have:=Fy (pos:=p) (LS a ca h1).1;exact⟨this,dQ this λ_=>rfl⟩
   |Not=>
    have h:(cE n S a).map .not=θ c:=h;rw[ae] at h;obtain⟨ca,h1,rfl⟩:=h;exact⟨He (LS a ca h1).1,HF (LS a ca h1).2⟩
   |_=>cases h
  |BoolOp op es p=>
   have h:IV (cE n S) op es=θ c:=h;have ⟨h1,h2⟩:=Fg (pos:=p) LS h;exact⟨h1,h2.pt⟩
  |Compare a ops bs p=>
   have h:Jd (cE n S) a ops bs=θ c:=h;cases ops with
   |nil=>cases h
   |cons op r=>cases r with
    |nil=>cases bs with
     |nil=>cases h
     |cons b r2=>cases r2 with
      |cons _ _=>cases h
      |nil=>
       have h:Bz (cE n S) a op b=θ c:=h;unfold Bz at h;by_cases hb:xz op b=ζ
       .rw[if_pos hb] at h;cases h
       .rw[if_neg hb] at h;have hb:xz op b=ε:=by simpa using hb
        rw[ah] at h;obtain⟨ca,h1,h⟩:=h;rw[ae] at h;obtain⟨cb,h2,rfl⟩:=h;exact⟨Gj (xA op C.units) (LS a ca h1).1 (LS b cb h2).1 hb,Fw C.units (LS a ca h1).1 (LS b cb h2).1 hb⟩
    |cons OJ r2=>cases r2 with
     |cons _ _=>cases bs<;>cases h
     |nil=>cases bs with
      |nil=>cases h
      |cons b r3=>cases r3 with
       |nil=>cases h
       |cons d r4=>cases r4 with
        |cons _ _=>cases h
        |nil=>
         have h:EX (cE n S) a op OJ b d=θ c:=h;cases h
  |IfExp t a b p=>
   have h:((cE n S t).bind λcc=>(cE n S a).bind λca=>(cE n S b).map λcb=>.ite cc ca cb)=θ c:=h;rw[ah] at h;obtain⟨cc,h1,h⟩:=h;rw[ah] at h;obtain⟨ca,h2,h⟩:=h;rw[ae] at h;obtain⟨cb,h3,rfl⟩:=h;exact⟨HI (LS t cc h1).2 (LS a ca h2).1 (LS b cb h3).1,GO (LS t cc h1).2 (LS a ca h2).2 (LS b cb h3).2⟩
  |List es p=>
   have h:(eO (cE n S) es).map .lst=θ c:=h;rw[ae] at h;obtain⟨cs,h1,rfl⟩:=h;have:=HH (pos:=p) (cK LS h1);exact⟨this,dQ this λ_=>rfl⟩
  |Dict ks vs p=>
   have h:Hz S ks vs=θ c:=h;unfold Hz at h;split at h
   .cases h;have:PE X (.Dict [] [] p) (tE X.K T .MO):=bX AF λσ H Q h=>yq h
    exact⟨this,dQ this λ_=>rfl⟩
   .cases h
  |Tuple es x1 p=>
   have h:(eO (cE n S) es).map .tup=θ c:=h;rw[ae] at h;obtain⟨cs,h1,rfl⟩:=h;have:=Fs (pos:=p) (x1:=x1) (cK LS h1);exact⟨this,dQ this λ_=>rfl⟩
  |Subscript a b p=>
   have h:Ff (cE n S) a b=θ c:=h;by_cases hb:iR b=ζ
   .have h:(if iR b then (cE n S a).bind λca=>(cE n S b).map λcb=>.ix ca cb else η)=θ c:=by
     cases b<;>first|exact h|cases hb
    rw[if_pos hb] at h;rw[ah] at h;obtain⟨ca,h1,h⟩:=h;rw[ae] at h;obtain⟨cb,h2,rfl⟩:=h;have:=JE (pos:=p) (Dq C.units.2) (LS a ca h1).1 (LS b cb h2).1 (tM hb);exact⟨this,dQ this λ_=>rfl⟩
   .cases b with
    |Slice lo hi st p2=>
     cases st with
     |none=>
      have h:((cE n S a).bind λca=>(Aa (cE n S) lo).bind λl=>(Aa (cE n S) hi).map λh=>.sl ca l h)=θ c:=h;rw[ah] at h;obtain⟨ca,h1,h⟩:=h;rw[ah] at h;obtain⟨cl,h2,h⟩:=h;rw[ae] at h;obtain⟨ch,h3,rfl⟩:=h;have:=Jo (pos:=p) (p2:=p2) (LS a ca h1).1 (Ak LS h2) (Ak LS h3);exact⟨this,dQ this λ_=>rfl⟩
     |some _=>cases h
    |_=>exact absurd rfl hb
  |Call g es ks pos=>
   have h:BL S (cE n S) g es ks pos=θ c:=h;cases g with
   |Name x p=>
    have h:z7 S (cE n S) x es ks=θ c:=h;cases ks with
    |nil=>
     have h:wt S (cE n S) x es=θ c:=h;have:=Dx (p:=p) (pos:=pos) C LS h;exact⟨this,dQ this λ_=>rfl⟩
    |cons k r=>cases r with
     |cons _ _=>obtain⟨_,_,_⟩:=k;cases h
     |nil=>
      obtain⟨k,d,kp⟩:=k;cases k with
      |none=>cases h
      |some kn=>cases es with
       |nil=>cases h
       |cons a r2=>cases r2 with
        |cons _ _=>cases h
        |nil=>
         have h:xN S (cE n S) x a d kn=θ c:=h;have:=C9 (p:=p) (kp:=kp) (pos:=pos) C LS h;exact⟨this,dQ this λ_=>rfl⟩
   |Attribute o name apos=>
    cases ks with
    |nil=>
     have h:D5 (cE n S) o name es apos pos=θ c:=h;have:=Gk (apos:=apos) (cpos:=pos) C.units.1 LS h;exact⟨this,dQ this λ_=>rfl⟩
    |cons _ _=>cases h
   |_=>cases h
  |ListComp elt gens sc pos=>
   have h:Xc S (cE n) elt sc gens=θ c:=h;cases gens with
   |nil=>cases h
   |cons g r=>cases r with
    |cons _ _=>obtain⟨_,_,_,_⟩:=g;cases h
    |nil=>
     obtain⟨tg,ii,ifs,as⟩:=g;have h:(if as=0 then tR S (cE n) elt tg ii ifs sc else η)=θ c:=h;by_cases ha:as=0
     .rw[if_pos ha] at h;subst ha;have:=DS (pos:=pos) C (pR C (λC'=>ih C') h);exact⟨this,dQ this λ_=>rfl⟩
     .rw[if_neg ha] at h;cases h
  |_=>cases h
end
section
variable {X:Cx}{T:Tb}
end
structure m9 (X:Cx)(S:Sc)(T:Tb):Prop where
 c:Ctx X S T
 sc:X.env.scope=S.sc
 fn:S.sc.kind=.function
 own:XE (Ζ X.prog X.w) X.A X.env X.xe
 nx:∀e s,X.xe e s->False
noncomputable def EL (m:Str):Option sj:=if m = "append" then θ .append else if m = "extend" then θ .extend else η
noncomputable def Cm (m:Str):Option sj:=if m = "clear" then θ .clear else η
noncomputable def kU (n:Nat)(S:Sc):Expr->Option (Nat×nY)
 |.Name x _=>if fL x&&qb S.sc x then (idxOf S.N x).map λi=>(i,.none) else η
 |.Subscript (.Name x _) e _=>if fL x&&qb S.sc x&&iR e then (idxOf S.N x).bind λi=>(cE n S e).map λc=>(i,.some c) else η
 |_=>η
noncomputable def A3:Expr->Bool
 |.Constant (.bool ζ) _ _=>ζ
 |.Tuple _ _ _=>ζ
 |.IfExp _ _ _ _=>ζ
 |_=>ε
noncomputable def mvB (x:Str):Expr->Bool
 |.Name y _=>x==("_law_best" : Str)&&y==("_law_way" : Str)
 |.List (.Name y _::_) _=>x==("_law_rows" : Str)&&y==("_law_turned" : Str)
 |_=>ε
noncomputable def Ej (n:Nat)(S:Sc)(tg e:Expr):Option St:=match tg with
 |.Name x px=>match e with
  |.ListComp elt [⟨QK,ii,ifs,0⟩] sc p=>if lC S.sc x then (idxOf S.N x).bind λi=>(cE n S (.ListComp elt [⟨QK,ii,ifs,0⟩] sc p)).map λc=>.asg (.nm i) c ε else η
  |e=>if iX e then η else if lC S.sc x then (idxOf S.N x).bind λi=>(cE n S e).map λc=>.asg (.nm i) c (mvB x e) else η
 |.Tuple es k p=>if iX e || isTup e then η else (pT S es).bind λis=>(cE n S e).map λc=>.asg (.tp is) c ε
 |.Subscript o ix p=>if A3 e then (if iR ix then (match kU n S o with
   |some (i,.none)=>(cE n S ix).bind λci=>(cE n S e).map λce=>.MG i ci ce
   |_=>η) else η) else if iX e || !iR ix then η else (kU n S o).bind λq=>(cE n S ix).bind λci=>(cE n S e).map λc=>.Lv q.1 q.2 ci c
 |_=>η
noncomputable def DH (n:Nat)(S:Sc)(o:Expr)(name:Str)(es:List Expr)(apos cpos:GE):Option St :=
 if apos.endLine==cpos.line then (if es.isEmpty then (Cm name).bind λm=>(kU n S o).map λq=>.mut q.1 q.2 m .nil else (EL name).bind λm=>(kU n S o).bind λq=>match es with
  |[a]=>(eO (cE n S) [a]).map λcs=>.mut q.1 q.2 m cs
  |[a,b]=>(eO (cE n S) [a,b]).map λcs=>.mut q.1 q.2 m cs
  |_=>η)
 else η
noncomputable def ug (n:Nat)(S:Sc)(o:Expr)(name:Str)(es:List Expr)(apos cpos:GE):Option St:=match es with
 |[.Call (.Attribute o2 Nu NM) [a] [] NL]=>if name = "append"/\Nu = "pop"/\(apos.endLine==cpos.line)=ζ/\(NM.endLine==NL.line)=ζ then (match kU n S o,kU n S o2 with
  |some (y,.none),θ (x,.none)=>(eO (cE n S) [a]).map λcs=>.M6 y x cs
  |_,_=>η) else η
 |_=>η
noncomputable def Hn (n:Nat)(S:Sc)(tg:Expr)(op:li)(e:Expr):Option St:=match tg with
 |.Name x _=>if lC S.sc x&&(op == .Add || op == .Sub) then (idxOf S.N x).bind λi=>(cE n S e).map λc=>.aug i op c else η
 |_=>η
noncomputable def Dp (n:Nat)(S:Sc)(tg e:Expr):Option St:=η
noncomputable def Iq (n:Nat)(S:Sc)(e:Expr):Option St:=if iX e then η else (cE n S e).map .expr
noncomputable def IX (n:Nat)(S:Sc):Expr->Option St
 |.Constant k x1 p=>(match k with
  |.str _=>θ .pass
  |k=>Iq n S (.Constant k x1 p))
 |.Call g es ks cpos=>(match g with
  |.Attribute o name apos=>(match ks with
   |[]=>(match ug n S o name es apos cpos with
    |some c=>θ c
    |none=>DH n S o name es apos cpos)
   |k::ks=>Iq n S (.Call (.Attribute o name apos) es (k::ks) cpos))
  |g=>Iq n S (.Call g es ks cpos))
 |e=>Iq n S e
noncomputable def Xd (n:Nat)(S:Sc)(e:Expr):List Expr->Option St
 |[]=>η
 |[tg]=>(match Dp n S tg e with
  |some c=>θ c
  |none=>Ej n S tg e)
 |_::_::_=>η
noncomputable def UK (n:Nat)(S:Sc):Option Expr->Option St
 |none=>θ .OI
 |some e=>(cE n S e).map .ret
noncomputable def xH:nQ->bJ->Option Nat
 |_,_=>η
theorem zV {x:Nat}(h:xH t cb=θ x):t=.nm x:=by
 cases h
noncomputable def IK (n:Nat)(S:Sc)(tg ii:Expr)(ob:Option bJ):List Stmt->Option St
 |[]=>if j4 ii then (xX S tg).bind λt=>ob.bind λcb=>(match xH t cb with
  |some x=>(cE n S ii).map λc=>.N9 x c cb
  |none=>(Ii S (cE n S) (isTup tg) ii).map λit=>.Li t it cb) else η
 |_::_=>η
noncomputable def FA (S:Sc):Expr->Option St->Option St
 |.Name x _,o=>if x = "_law_picked"\/x = "_law_picked_here" then (idxOf S.N x).bind λi=>o.map λc=>.NI i c else o
 |_,o=>o
theorem zG {o:Option St}{c:St}(h:FA S e o=θ c):o=θ c\/∃i c',o=θ c'/\c=.NI i c':=by
 unfold FA at h;split at h
 .split at h
  .rw[ah] at h;obtain⟨i,_,h⟩:=h;rw[ae] at h;obtain⟨c',h1,h2⟩:=h;exact .inr ⟨i,c',h1,h2.symm⟩
  .exact .inl h
 .exact .inl h
noncomputable def UJ (n:Nat)(S:Sc)(e:Expr)(ob:Option bJ):List Stmt->Option St
 |[]=>(cE n S e).bind λc=>ob.map λcb=>.Oc c cb
 |_::_=>η
mutual
noncomputable def cS:Nat->Sc->Stmt->Option St
 |0,_,_=>η
 |n+1,S,st=>match st with
  |.Assign QJ e _=>Xd n S e QJ
  |.AugAssign tg op e _=>Hn n S tg op e
  |.Expr e _=>IX n S e
  |.Return o _=>UK n S o
  |.If e a b _=>(cE n S e).bind λc=>(rQ n S a).bind λca=>(rQ n S b).map λcb=>.ite c ca cb
  |.For tg ii b oe _=>FA S ii (IK n S tg ii (rQ n S b) oe)
  |.While e b oe _=>UJ n S e (rQ n S b) oe
  |.Try b hs oe fb _=>match hs,oe,fb with
   |[_],[],[]=>(rQ n S b).map λcb=>.ite (.cst (.bl ζ)) cb .nil
   |_,_,_=>η
  |.Pass _=>θ .pass
  |.Raise _ _ _=>θ (.expr (.neg (.cst .Lj)))
  |.Continue _=>θ .cnt
  |_=>η
noncomputable def rQ:Nat->Sc->List Stmt->Option bJ
 |0,_,_=>η
 |_+1,_,[]=>θ .nil
 |n+1,S,s::r=>(cS n S s).bind λc=>(rQ n S r).map λd=>.cons c d
end
theorem sT {t:Option Expr}{l:Nat}(h:iX e=ε):GT e t l env=pure ε:=by
 cases e<;>first|rfl | (cases h)
theorem rC {t:Expr}{l:Nat}(h:iX e=ε):YU [t] e l env=pure ε:=sT h
variable {apos cpos:GE}{q:Nat×nY}
section
variable {X:Cx}{S:Sc}{T:Tb}
theorem CZ:PS X st (tS X.K T (.expr (.neg (.cst .Lj)))):=by
 intro pins s σ H D I h;obtain⟨P,Z,env,F,re,hz,zp,h⟩:=h;exact h.elim
theorem jP (C:Ctx X S T)(h:kU n S o=θ q):PE X o (jG X.K T q.1 q.2):=by
 unfold kU at h;split at h
 .rename_i x p;by_cases hk:(fL x&&qb S.sc x)=ζ
  .rw[if_pos hk,ae] at h;rw[aj] at hk;obtain⟨i,h1,rfl⟩:=h;obtain⟨n1,n2,n3⟩:=fG hk.1;have hi:=cI h1;rw[<-C.N] at hi;exact u6 hi (C.OA x hk.2) n1 n2
  .rw[if_neg hk] at h;cases h
 .rename_i x p e pos;by_cases hk:(fL x&&qb S.sc x&&iR e)=ζ
  .rw[if_pos hk,ah] at h;rw[aj,aj] at hk;obtain⟨i,h1,h⟩:=h;rw[ae] at h;obtain⟨c,h2,rfl⟩:=h;obtain⟨n1,n2,n3⟩:=fG hk.1.1;have hi:=cI h1;rw[<-C.N] at hi;exact Ef hi (C.OA x hk.1.2) n1 n2 (bY n C e c h2).1 (tM hk.2)
  .rw[if_neg hk] at h;cases h
 .cases h
theorem jM (h:kU n S o=θ q):XV o name env (eval o env)=eval o env:=by
 unfold kU at h;split at h
 .rfl
 .rfl
 .cases h
theorem FG (C:m9 X S T){c:St}(h:Ej n S tg e=θ c):PS X (.Assign [tg] e pos) (tS X.K T c):=by
 have hN:=C.c.nd;rw[<-C.c.N] at hN;unfold Ej at h;split at h
 .rename_i x px;split at h
  .rename_i elt QK ii ifs sc p;by_cases hl:lC S.sc x=ζ
   .rw[if_pos hl,ah] at h;obtain⟨i,h1,h⟩:=h;rw[ae] at h;obtain⟨ce,h2,rfl⟩:=h;have hi:=cI h1;rw[<-C.c.N] at hi;have Pl:GT (.ListComp elt [⟨QK,ii,ifs,0⟩] sc p) (θ (.Name x px)) pos.line X.env=pure (X.env.blockKind == .function&&X.env.kindOf x==θ .local&&px.line==p.line && !(sc.names.any λ(n,k)=>n==x&&(k == .local || k == .cell))):=rfl;cases hb:(X.env.blockKind == .function&&X.env.kindOf x==θ .local&&px.line==p.line && !(sc.names.any λ(n,k)=>n==x&&(k == .local || k == .cell))) with
    |false=>
     rw[hb] at Pl;exact Bc hN hi (C.c.loc x hl).1 (bY n C.c _ _ h2).1 Pl (C.c.loc x hl).2
    |true=>
     rw[hb] at Pl;cases n with
     |zero=>cases h2
     |succ n=>
      have h2:tR S (cE n) elt QK ii ifs sc=θ ce:=h2;obtain⟨pick,t,it,ci,ce',rfl,g1,g2,g3,g4,g5⟩:=pR C.c (λC'=>bY n C') h2;refine cV (uO g1 C.c.calm g2 g3 (rf (wK g4)) (vm g5) hN hi (C.c.loc x hl).1 (C.c.loc x hl).2 Pl) λD σ H h=>?_
      obtain⟨P,Z,env,F,re,hz,zp,h⟩:=h;unfold bC at h;obtain⟨p,hp,h⟩:=cL h;exact qC ⟨P,env,F,re,p,hp,λv H' G s rp rt=>vQ re hz zp s rp rt h⟩
   .rw[if_neg hl] at h;cases h
  .by_cases hc:iX e=ζ
   .rw[if_pos hc] at h;cases h
   .rw[if_neg hc] at h;by_cases hl:lC S.sc x=ζ
    .rw[if_pos hl,ah] at h;obtain⟨i,h1,h⟩:=h;rw[ae] at h;obtain⟨ce,h2,rfl⟩:=h;have hi:=cI h1;rw[<-C.c.N] at hi;exact Bc hN hi (C.c.loc x hl).1 (bY n C.c _ _ h2).1 (sT (by simpa using hc)) (C.c.loc x hl).2
    .rw[if_neg hl] at h;cases h
 .rename_i es k p;by_cases hc:(iX e || isTup e)=ζ
  .rw[if_pos hc] at h;cases h
  .rw[if_neg hc,ah] at h;simp only[g6,not_or,jo] at hc;obtain⟨is,h1,h⟩:=h;rw[ae] at h;obtain⟨ce,h2,rfl⟩:=h;obtain⟨a1,a2,a3⟩:=uL C.c h1;refine C4 (zA C.c.calm a1 a2 a3) (bY n C.c _ _ h2).1 (rC hc.1) ?_ rfl;obtain⟨_,hc⟩:=hc;cases e<;>first|rfl | (cases hc)
 .rename_i o ix p;by_cases ht:A3 e=ζ
  .rw[if_pos ht] at h;by_cases hp:iR ix=ζ
   .rw[if_pos hp] at h;split at h
    .rename_i i hq;rw[ah] at h;obtain⟨ci,h2,h⟩:=h;rw[ae] at h;obtain⟨ce,h3,rfl⟩:=h;have S4:PE X o (jG X.K T i .none):=jP C.c hq;refine cV (As ?_ S4 (bY n C.c _ _ h2).1 (bY n C.c _ _ h3).1 ?_) λD σ H h=>yM h
     .have:=C.c.units;omega
     .cases e<;>first|rfl | (cases ht)
    .cases h
   .rw[if_neg hp] at h;cases h
  rw[if_neg ht] at h;by_cases hc:(iX e || !iR ix)=ζ
  .rw[if_pos hc] at h;cases h
  .rw[if_neg hc,ah] at h;simp only[g6,not_or,jo,Bool.not_eq_false'] at hc;obtain⟨q,h1,h⟩:=h;rw[ah] at h;obtain⟨ci,h2,h⟩:=h;rw[ae] at h;obtain⟨ce,h3,rfl⟩:=h;refine cV (sJ (bY n C.c _ _ h3).1 (FI (jP C.c h1) (bY n C.c _ _ h2).1 set_list ?_) (rC hc.1) ?_ rfl) λD σ H h=>Bh h
   .intro v;obtain⟨_,hc⟩:=hc;cases ix<;>first|rfl | (cases hc)
   .cases e<;>rfl
 .cases h
theorem GS (C:m9 X S T){c:St}(h:DH n S o name es apos cpos=θ c):PS X (.Expr (.Call (.Attribute o name apos) es [] cpos) pos) (tS X.K T c):=by
 unfold DH at h;by_cases hl:(apos.endLine==cpos.line)=ζ
 .rw[if_pos hl] at h;by_cases he:es.isEmpty=ζ
  .rw[if_pos he,ah] at h;have he:es=[]:=by simpa using he
   subst he;obtain⟨m,hm,h⟩:=h;rw[ae] at h;obtain⟨q,hq,rfl⟩:=h;have slot:∃id,þ "list" name id/\Z4 (.builtin id)=pure (.type "method_descriptor")/\Ir X id (pK X.K m):=by
    unfold Cm at hm;split at hm
    .rename_i e;cases hm;subst e;exact⟨_,PySem.F.slot_list_clear,by rfl,yk⟩
    cases hm
   obtain⟨id,s1,s2,s3⟩:=slot;exact cV (jU (HM df s1 s2 s3 (jP C.c hq) (jM hq) hl) rfl) λD σ H h=>y6 h
  rw[if_neg he,ah] at h;obtain⟨m,hm,h⟩:=h;rw[ah] at h;obtain⟨q,hq,h⟩:=h;have slot:∃id,þ "list" name id/\Z4 (.builtin id)=pure (.type "method_descriptor")/\Ir X id (pK X.K m):=by
   unfold EL at hm;split at hm
   .rename_i e;cases hm;subst e;exact⟨_,ij,by rfl,j6⟩
   split at hm
   .rename_i e;cases hm;subst e;exact⟨_,PySem.F.slot_list_extend,by rfl,u9⟩
   cases hm
  obtain⟨id,s1,s2,s3⟩:=slot;split at h
  .rename_i a;rw[ae] at h;obtain⟨cs,ha,rfl⟩:=h;obtain⟨n1,c1,d1,_,hd,_⟩:=bQ ha;refine cV (jU (nF df s1 s2 s3 (jP C.c hq) (cK (bY n C.c) ha) (jM hq) ?_ hl (bA n1) (fK hd)) rfl) λD σ H h=>mB h
   rw[bA n1];rfl
  .rename_i a b;rw[ae] at h;obtain⟨cs,ha,rfl⟩:=h;obtain⟨n1,c1,d1,_,hd,_⟩:=bQ ha;obtain⟨n2,_,_,_,_,_⟩:=bQ hd;refine cV (jU (nF df s1 s2 s3 (jP C.c hq) (cK (bY n C.c) ha) (jM hq) ?_ hl (bA n1) (fK hd)) rfl) λD σ H h=>mB h
   rw[bA n1,bA n2];rfl
  .cases h
 .rw[if_neg hl] at h;cases h
theorem CJ (C:m9 X S T){c:St}(h:ug n S o name es apos cpos=θ c):PS X (.Expr (.Call (.Attribute o name apos) es [] cpos) pos) (tS X.K T c):=by
 unfold ug at h;split at h
 .rename_i o2 Nu NM a NL;by_cases hc:name = "append"/\Nu = "pop"/\(apos.endLine==cpos.line)=ζ/\(NM.endLine==NL.line)=ζ
  .rw[if_pos hc] at h;obtain⟨rfl,rfl,h1,h2⟩:=hc;split at h
   .rename_i y x hy hx;rw[ae] at h;obtain⟨cs,ha,rfl⟩:=h;obtain⟨n1,c1,d1,_,hd,_⟩:=bQ ha;refine cV (jU (nF df ij (by rfl) j6 (jP C.c hy) (dM (nF df PySem.F.slot_list_pop (by rfl) Dg (jP C.c hx) (cK (bY n C.c) ha) (jM hx) ?_ h2 (bA n1) (fK hd)) pM) (jM hy) rfl h1 rfl rfl) rfl) λD σ H h=>za h
    rw[bA n1];rfl
   .cases h
  .rw[if_neg hc] at h;cases h
 .cases h
theorem HW (C:m9 X S T){c:St}(h:Hn n S tg op e=θ c):PS X (.AugAssign tg op e pos) (tS X.K T c):=by
 have hN:=C.c.nd;rw[<-C.c.N] at hN;unfold Hn at h;split at h
 .rename_i x px;by_cases hl:(lC S.sc x&&(op == .Add || op == .Sub))=ζ
  .rw[if_pos hl,ah] at h;obtain⟨i,h1,h⟩:=h;rw[ae] at h;obtain⟨ce,h2,rfl⟩:=h;rw[aj,g6] at hl;have hi:=cI h1;rw[<-C.c.N] at hi;refine Gu hN hi (C.c.loc x hl.1).1 (bY n C.c _ _ h2).1 (C.c.loc x hl.1).2 ?_;obtain⟨_,ho⟩:=hl;cases op<;>simp_all
  .rw[if_neg hl] at h;cases h
 .cases h
theorem G5 (C:m9 X S T){c:St}(h:Dp n S tg e=θ c):PS X (.Assign [tg] e pos) (tS X.K T c):=by
 cases h
theorem ite_tt {T:Tb}{env:En}:bC T (.ite (.cst (.bl ζ)) cb .nil) env=aE T cb env:=by
 rw[bC];rfl
theorem Hy {X:Cx}{T:Tb}{body:List Stmt}{hd:ExceptHandler}(nx:∀e s,X.xe e s->False)(h:lK X body (zw X.K T cb)):PS X (.Try body [hd] [] [] pos) (tS X.K T (.ite (.cst (.bl ζ)) cb .nil)):=by
 intro pins s σ H D I hw;have hw:zw X.K T cb D σ H:=by
  obtain⟨P,Z,env,F,h1,h2,h3,h4⟩:=hw;rw[ite_tt] at h4;exact⟨P,Z,env,F,h1,h2,h3,h4⟩
 refine wpAny_Try_except (kw (h pins s σ H D I hw) (λf s1 h1=>?_) λe s1 h1=>?_)
 .cases f with
  |next=>exact Χ h1
  |brk=>exact h1
  |cont=>exact h1
  |ret u=>exact h1
 .exact (nx _ _ h1).elim
theorem Ab (C:m9 X S T):∀(n:Nat),(∀(st:Stmt) (c:St),cS n S st=θ c->PS X st (tS X.K T c))/\∀(l:List Stmt) (c:bJ),rQ n S l=θ c->lK X l (zw X.K T c):=by
 intro n
 induction n with
 |zero=>exact⟨λst c h=>(by cases h),λl c h=>(by cases h)⟩
 |succ n ih=>
  obtain⟨i1,i2⟩:=ih;refine⟨λst c h=>?_,λl c h=>?_⟩
  .cases st with
   |Assign QJ e p=>
    have h:Xd n S e QJ=θ c:=h;cases QJ with
    |nil=>cases h
    |cons tg r=>cases r with
     |cons _ _=>cases h
     |nil=>
      have h:(match Dp n S tg e with
       |some c=>θ c
       |none=>Ej n S tg e)=θ c:=h
      cases hp:Dp n S tg e with
      |some c'=>rw[hp] at h;cases h;exact G5 C hp
      |none=>rw[hp] at h;exact FG C h
   |AugAssign tg op e p=>exact HW C h
   |Expr e p=>
    have h:IX n S e=θ c:=h;have plain:Iq n S e=θ c->PS X (.Expr e p) (tS X.K T c):=λh=>by
     unfold Iq at h;by_cases hc:iX e=ζ
     .rw[if_pos hc] at h;cases h
     .rw[if_neg hc,ae] at h;obtain⟨ce,h1,rfl⟩:=h;exact C1 (bY n C.c _ _ h1).1 (sT (by simpa using hc))
    cases e with
    |Constant k x1 q=>cases k with
     |str s=>cases h;exact GA
     |_=>exact plain h
    |Call g es ks q=>cases g with
     |Attribute o name apos=>cases ks with
      |nil=>
       have h:(match ug n S o name es apos q with
        |some c=>θ c
        |none=>DH n S o name es apos q)=θ c:=h
       cases ha:ug n S o name es apos q with
       |some c'=>rw[ha] at h;cases h;exact CJ C ha
       |none=>rw[ha] at h;exact GS C h
      |cons k ks=>exact plain h
     |_=>exact plain h
    |_=>exact plain h
   |Return o p=>cases o with
    |none=>cases h;exact DP
    |some e=>
     have h:(cE n S e).map .ret=θ c:=h;rw[ae] at h;obtain⟨ce,h1,rfl⟩:=h;exact Hu (bY n C.c _ _ h1).1
   |If e a b p=>
    have h:((cE n S e).bind λc=>(rQ n S a).bind λca=>(rQ n S b).map λcb=>St.ite c ca cb)=θ c:=h;rw[ah] at h;obtain⟨cc,h1,h⟩:=h;rw[ah] at h;obtain⟨ca,h2,h⟩:=h;rw[ae] at h;obtain⟨cb,h3,rfl⟩:=h;exact FZ (bY n C.c _ _ h1).2 (i2 _ _ h2) (i2 _ _ h3)
   |For tg ii b oe p=>
    have key:∀c,IK n S tg ii (rQ n S b) oe=θ c->PS X (.For tg ii b oe p) (tS X.K T c):=by
     intro c h;cases oe with
      |cons _ _=>cases h
      |nil=>
       have h:(if j4 ii then (xX S tg).bind λt=>(rQ n S b).bind λcb=>(match xH t cb with
        |some x=>(cE n S ii).map λc=>St.N9 x c cb
        |none=>(Ii S (cE n S) (isTup tg) ii).map λit=>St.Li t it cb) else η)=θ c:=h
       by_cases hs:j4 ii=ζ
       .rw[if_pos hs,ah] at h;obtain⟨t,h1,h⟩:=h;rw[ah] at h;obtain⟨cb,h3,h⟩:=h;cases hx:xH t cb with
        |some x=>
         rw[hx] at h;have h:(cE n S ii).map (λc=>St.N9 x c cb)=θ c:=h;rw[ae] at h;obtain⟨ci,h2,rfl⟩:=h;have ht:=zV hx;subst ht;cases hx
        |none=>
         rw[hx] at h;have h:(Ii S (cE n S) (isTup tg) ii).map (λit=>St.Li t it cb)=θ c:=h;rw[ae] at h;obtain⟨it,h2,rfl⟩:=h;exact HE C.own C.c.calm (ES C.c (bY n C.c) h2) (sH C.c h1) (i2 _ _ h3) (vm hs)
       .rw[if_neg hs] at h;cases h
    rcases zG h with q|⟨x,c',q,rfl⟩
    .exact key c q
    .exact El (key c' q)
   |While e b oe p=>cases oe with
    |cons _ _=>cases h
    |nil=>
     have h:((cE n S e).bind λc=>(rQ n S b).map λcb=>St.Oc c cb)=θ c:=h;rw[ah] at h;obtain⟨cc,h1,h⟩:=h;rw[ae] at h;obtain⟨cb,h3,rfl⟩:=h;exact GP C.own (bY n C.c _ _ h1).2 (i2 _ _ h3)
   |Try b hs oe fb p=>cases hs with
    |nil=>cases h
    |cons hd r=>cases r with
     |cons _ _=>cases h
     |nil=>cases oe with
      |cons _ _=>cases h
      |nil=>cases fb with
       |cons _ _=>cases h
       |nil=>
        have h:(rQ n S b).map (λcb=>St.ite (.cst (.bl ζ)) cb .nil)=θ c:=h;rw[ae] at h;obtain⟨cb,h3,rfl⟩:=h;exact Hy C.nx (i2 _ _ h3)
   |Pass p=>cases h;exact DM
   |Raise a b p=>cases h;exact CZ
   |Continue p=>cases h;exact HX
   |_=>cases h
  .cases l with
   |nil=>cases h;exact DY
   |cons st r=>
    unfold rQ at h;rw[ah] at h;obtain⟨cc,h1,h⟩:=h;rw[ae] at h;obtain⟨cb,h3,rfl⟩:=h;exact Af (i1 _ _ h1) (i2 _ _ h3)
end
structure Df where
 nm:Str
 st:Stmt
 ps:List Str
 N:List Str
 body:bJ
structure Pg where
 M5:List Df
 zx:List Str
 fT:List Str
 gl:Nat->D
 fuel:Nat
noncomputable def Pg.fns (p:Pg):List Fn:=p.M5.map λd=>⟨d.ps.length,d.N.length,d.body⟩
noncomputable def Pg.run (p:Pg):Nat->Nat->List D->Rs (D×Bool):=Pc.run p.fns p.gl p.fuel
noncomputable def Pg.sc (p:Pg)(d:Df):Sc:=⟨d.N,aI d.st,p.M5.map (·.nm),p.zx,p.fT⟩
noncomputable def Df.QS (p:Pg)(n:Nat)(d:Df):Bool :=
 decide ((aI d.st).kind=.function) && !(aI d.st).isCoroutine && !(aI d.st).isGenerator&&decide d.N.Nodup&&decide (d.N.take d.ps.length=d.ps)&&d.ps.all (λx=>lC (aI d.st) x)&&(aI d.st).names.all (λy=>decide (y.2≠.free))
structure Df.Ok (p:Pg)(d:Df):Prop where
 b:∃n,rQ n (p.sc d) (bB d.st)=θ d.body
 S:eZ d.N d.ps (aI d.st)
 bd:∀(kV doc pm:Value) (an:Option Addr) (Lo ct:Value) (us:List Value),us.length=d.ps.length->Η (jp d.nm d.nm (gF d.st) (bB d.st) (aI d.st) .none kV doc pm an Lo ct) ⟨us,[]⟩=pure (d.ps.zip us)
theorem mG {sc:Scope}(h:lC sc x=ζ):Loc sc x:=by
 unfold lC fJ at h;split at h
 .rename_i e;exact .inl e
 .rename_i e;exact .inr e
 .cases h
theorem uC {sc:Scope}(h:qb sc x=ζ):Cs sc x:=by
 unfold qb fJ at h;split at h
 .rename_i e;exact .inl e
 .rename_i e;exact .inr (.inl e)
 .rename_i e;exact .inr (.inr e)
 .cases h
theorem xO {sc:Scope}(h:uM sc x=ζ):sc.names.lookup x=θ .globalImplicit:=by
 unfold uM fJ at h;split at h
 .rename_i e;exact e
 .cases h
theorem len0 {P:List Value->Prop}(h:us.length=0)(f:P []):P us:=by
 cases us with
 |nil=>exact f
 |cons a r=>cases h
theorem qg {P:List Value->Prop}{us:List Value}(h:us.length=1)(f:∀a,P [a]):P us:=by
 cases us with
 |nil=>cases h
 |cons a r=>exact len0 (P:=λr=>P (a::r)) (jt h) (f a)
theorem jX {P:List Value->Prop}{us:List Value}(h:us.length=2)(f:∀a b,P [a,b]):P us:=by
 cases us with
 |nil=>cases h
 |cons a r=>exact qg (P:=λr=>P (a::r)) (jt h) (f a)
theorem sY {P:List Value->Prop}{us:List Value}(h:us.length=3)(f:∀a b c,P [a,b,c]):P us:=by
 cases us with
 |nil=>cases h
 |cons a r=>exact jX (P:=λr=>P (a::r)) (jt h) (f a)
theorem D2 {P:List Value->Prop}{us:List Value}(h:us.length=4)(f:∀a b c d,P [a,b,c,d]):P us:=by
 cases us with
 |nil=>cases h
 |cons a r=>exact sY (P:=λr=>P (a::r)) (jt h) (f a)
theorem JF {P:List Value->Prop}{us:List Value}(h:us.length=5)(f:∀a b c d e,P [a,b,c,d,e]):P us:=by
 cases us with
 |nil=>cases h
 |cons a r=>exact D2 (P:=λr=>P (a::r)) (jt h) (f a)
theorem Df.Lg {p:Pg}{d:Df}{n:Nat}(h:d.QS p n=ζ)(hb:rQ n (p.sc d) (bB d.st)=θ d.body)
  (bd:∀(kV doc pm:Value) (an:Option Addr) (Lo ct:Value) (us:List Value),us.length=d.ps.length->Η (jp d.nm d.nm (gF d.st) (bB d.st) (aI d.st) .none kV doc pm an Lo ct) ⟨us,[]⟩=pure (d.ps.zip us)):d.Ok p:=by
 unfold Df.QS at h;simp only[aj,decide_eq_true_eq,i3,cz] at h;obtain⟨⟨⟨⟨⟨⟨h1,h2⟩,h3⟩,h4⟩,h5⟩,h6⟩,h7⟩:=h;exact⟨⟨n,hb⟩,⟨h1,h2,h3,h4,h5,λx hx=>mG (h6 x hx),h7⟩,bd⟩
structure Pg.In (p:Pg)(K:Frag)(mg:Str->Option Value):Prop where
 fn:∀(i:Nat) (d:Df),p.M5[i]? = θ d->∃f fd,L2.uY K d.nm d.nm d.st f fd/\mg d.nm=θ (.ref f)
 gl:∀i x,idxOf p.zx x=θ i->∃v u,mg x=θ u/\RelV v u/\∀H,Rep K H (p.gl i) v []
 blt:∀x,p.fT.contains x=ζ->mg x=η
theorem nE {t:Tg}(h:(aF ds n)[i]? = θ (θ (d,t))):ds[i]? = θ d/\t=dJ d []:=by
 unfold aF at h;by_cases hi:i<ds.length
 .rw[Θ (by simpa using hi),π] at h;rw[τ hi] at h ⊢;simp only[bw,da,gm] at h;obtain⟨h1,h2⟩:=h;subst h1;exact⟨rfl,h2.symm⟩
 .rw[Μ (by simpa using i7 hi),Ω] at h;split at h<;>cases h
theorem aK.parts:∀{ds:List D}{vs:List V}{G:List Addr},aK K H ds vs G->∃F:Nat->List Addr,(∀i d,ds[i]? = θ d->∃v,vs[i]? = θ v/\Rep K H d v (F i))/\(∀i,ds[i]? = η->F i=[])/\∀i,∀a∈F i,a∈G
 |_,_,_,.nil=>⟨λ_=>[],λi d h=>(by simp at h),λ_ _=>rfl,λ_ _ h=>(nomatch h)⟩
 |_,_,_,.cons (d:=d) (v:=v) (ds:=ds) (vs:=vs) (G:=G1) (G':=G2) r s=>by
  obtain⟨F,h1,h2,h3⟩:=aK.parts s;refine⟨λi=>match i with|0=>G1|j+1=>F j,λi e h=>?_,λi h=>?_,λi a h=>?_⟩
  .cases i with
   |zero=>cases h;exact⟨v,rfl,r⟩
   |succ j=>exact h1 j e (by simpa using h)
  .cases i with
   |zero=>cases h
   |succ j=>exact h2 j (by simpa using h)
  .cases i with
   |zero=>exact a9 _ h
   |succ j=>exact aq _ (h3 j a h)
theorem entry {N:List Str}(hr:aK K H ds vs G)(hl:ds.length<=N.length):∃F,RE K (λa=>H a≠η) (aF ds N.length) (L2.start N vs) H F/\∀i,∀a∈F i,a∈G:=by
 obtain⟨F,h1,h2,h3⟩:=hr.parts;have flat:∀i d t,(aF ds N.length)[i]? = θ (θ (d,t))->bK t=ζ->F i=[]:=λi d t h o=>by
  obtain⟨e1,e2⟩:=nE h;obtain⟨v,_,rp⟩:=h1 i d e1;unfold dJ at e2;by_cases hf:d.flat=ζ
  .exact rp.flat hf
  .rw[if_neg hf] at e2;subst e2;cases o
 refine⟨F,⟨?_,λi d t h=>?_,λi h=>?_,λi d t h o=>?_,λi d h a ha=>?_,λa h=>h⟩,h3⟩
 .simp only[aF,L2.start,az,ai,bf,hr.len]
 .obtain⟨e1,e2⟩:=nE h;obtain⟨v,e3,rp⟩:=h1 i d e1;refine⟨v,?_,rp⟩;unfold L2.start;have hi:i<vs.length:=(ο.mp e3).1;rw[Θ (by simpa using hi),π,e3];rfl
 .cases e:ds[i]? with
  |none=>exact h2 i e
  |some d=>
   refine absurd ?_ (h d (dJ d []));unfold aF;have hi:i<ds.length:=(ο.mp e).1;rw[Θ (by simpa using hi),π,e];rfl
 .rw[flat i d t h o];exact⟨bj,λ_ h=>(nomatch h),λ_ h=>(nomatch h)⟩
 .rw[flat i d _ h rfl] at ha;cases ha
theorem rk {α:Type}{g:α->Str}:∀{l:List α}{x:Str}{i:Nat},idxOf (l.map g) x=θ i->∃a,l[i]? = θ a/\g a=x:=by
 intro l x i h;have:=cI h;rw[π,ae] at this;exact this
theorem pA (e:jV (λa=>H a≠η) H H'):aN H H':=λb u h=>(e.keep b (by rw[h];exact λz=>(by cases z))).trans h
section
variable {p:Pg}{P:Program}{w:Ν}{K:Frag}{mg:Str->Option Value}{base:Heap}
end
noncomputable def QW (K:Frag):Bool:=K.all λp=>match p.2.cls with
 |.type n=>!(n == "list")
 |_=>ζ
theorem lookup_mem:∀{K:Frag}{a:Addr}{o:Obj},K.lookup a=θ o->(a,o)∈K
 |[],_,_,h=>by cases h
 | (b,x)::r,a,o,h=>by
  rw[dh] at h;cases e:a==b with
  |true=>
   rw[e] at h;cases h;rw[beq_iff_eq] at e;rw[e];exact ag
  |false=>rw[e] at h;exact aa _ (lookup_mem h)
theorem GG {o:Obj}(h:QW K=ζ)(l:K.lookup a=θ o)(c:o.cls=.type "list"):False:=by
 unfold QW at h;rw[cz] at h;have:=h _ (lookup_mem l);rw[c] at this;simp at this
theorem qE:∀ns:List Int,aK K H (ns.map D.int) (ns.map V.int) []
 |[]=>.nil
 |n::r=>.cons (.int n) (qE r)
theorem HL {ns:List Int}{f:List D->Rs (D×Bool)}{fr:Bool}(hL:QW K=ζ)(hS:mL K H a (ns.map V.int))(hf:f [.lst (ns.map D.int)]=.ok (.bl ζ,fr)):DL K 1 f [.ref a] H (λv _=>v=.bl ζ) E:=by
 rcases hS with h|⟨o,its,n,h1,h2,_⟩
 .refine⟨[.lst (ns.map D.int)],[a] ++ [],rfl,.cons (.lst h (qE ns)) .nil,(.bl ζ,fr),hf,λv H' G' _ rp _ _=>?_⟩;exact rp.LI.1
 .exact (GG hL h1 h2).elim
theorem EG:xj w K:=trivial
def Xv (K:Frag)(d:Df):Prop:=∃(f:Addr) (oc:Value) (od:Option Addr) (kV dc pm:Value) (an:Option Addr) (cd ct:Value) (sl:Array (Option Value)),
 Da K bi d.nm=θ (θ (.ref f))/\K.lookup f=θ ⟨oc,od,.func (jp d.nm d.nm (gF d.st) (bB d.st) (aI d.st) .none kV dc pm an cd ct),sl⟩/\Ev K cd d.nm=ζ/\sw K (.ref f)=ζ
def qG (K:Frag)(x:Str)(d:D):Prop:=∃v u,Da K bi x=θ (θ u)/\RelV v u/\∀H,Rep K H d v []
noncomputable def yr {α:Type}(P:α->Prop):List α->Prop
 |[]=>True
 |a::r=>P a/\yr P r
theorem eV {α:Type}{P:α->Prop}:∀{l:List α},yr P l->∀a∈l,P a
 |[],_,a,h=>by cases h
 |b::r,⟨h1,h2⟩,a,h=>by
  rcases fe.mp h with rfl|h
  .exact h1
  .exact eV h2 a h
structure vN (p:Pg)(K:Frag):Prop where
 fn:yr (Xv K) p.M5
 gl:∀i x,idxOf p.zx x=θ i->qG K x (p.gl i)
 blt:yr (λx=>Da K bi x=θ η) p.fT
theorem vN.isin {p:Pg}{mg:Str->Option Value}(s:vN p K)(X:K.In h)(G:h.Ns bi mg):p.In K mg where
 fn:=λi d hd=>by
  obtain⟨f,oc,od,kV,dc,pm,an,cd,ct,sl,a,l,c,k⟩:=eV s.fn d (Α hd);exact⟨f,_,FJ (st:=d.st) l c k,Zx X G a⟩
 gl:=λi x hx=>by
  obtain⟨v,u,a,b,c⟩:=s.gl i x hx;exact⟨v,u,Zx X G a,b,c⟩
 blt:=λx hx=>PySem.W.mg_none_of X G (eV s.blt x (by simpa using hx))
end Pc
end
section
namespace Pc
open PySem
theorem aB {α β:Type}(a:α)(f:α->Rs β):(Rs.ok a).bind f=f a:=rfl
theorem aP {α:Type}(env:En)(a:α)(k:α->Fl):iY env (.ok a) k=k a:=rfl
theorem aD (e:En)(k:En->Fl):(Fl.nx e).andThen k=k e:=rfl
theorem mH (d:D)(b:Bool)(k:En->Fl):(Fl.rt d b).andThen k=.rt d b:=rfl
theorem aL {α:Type}(a:α):gQ (θ a)=.ok a:=rfl
theorem aS (op:li)(i j:Int):mR op (.int i) (.int j)=(Pc.binI op i j).map .int:=by cases op<;>rfl
theorem cU (i:Int)(R:List Nat):jC (.int i) R=.mv []:=rfl
theorem oR:∀l:List Int,D.Lh (l.map D.int)=ζ
 |[]=>rfl
 |_::r=>oR r
theorem tZ (n:Nat):∀a b:List Int,a.length=b.length->lJ (D.Lq (n+1)) (a.map D.int) (b.map D.int)=θ (a==b)
 |[],[],_=>rfl
 |x::a,y::b,h=>by
  show (θ (x==y)).bind (λc=>(lJ (D.Lq (n+1)) (a.map D.int) (b.map D.int)).map λd=>c&&d)=_;rw[tZ n a b (by simpa using h)];rfl
 |[],_::_,h=>by simp at h
 |_::_,[],h=>by simp at h
theorem wu (n:Nat)(a b:List Int):D.Lq (n+2) (.lst (a.map D.int)) (.lst (b.map D.int))=θ (a==b):=by
 show (if (a.map D.int).length=(b.map D.int).length then lJ (D.Lq (n+1)) (a.map D.int) (b.map D.int) else θ ε)=_;by_cases h:a.length=b.length
 .rw[if_pos (by simpa using h),tZ n a b h]
 .rw[if_neg (by simpa using h)];have:(a==b)=ε:=by
   rw[ja];rintro rfl;exact h rfl
  rw[this]
theorem oQ {t:nQ}{R:List Nat}{b:En->Fl}(J:Nat->En->Prop):∀(l:List D) (k:Nat) (env:En),J k env ->
  (∀(i:Nat) (d:D) (e:En),l[i]? = θ d->J (k+i) e->∃e1 e2,be R t d e=θ e1/\b e1=.nx e2/\J (k+i+1) e2)->∃e,bU t R b l env=.nx e/\J (k+l.length) e
 |[],k,env,h,_=>⟨env,rfl,h⟩
 |d::r,k,env,h,st=>by
  obtain⟨e1,e2,h1,h2,h3⟩:=st 0 d env rfl h;obtain⟨e,q1,q2⟩:=oQ J r (k+1) e2 h3 λi d' e hi hj=>by
   have:=st (i+1) d' e (by simpa using hi) (by rw[show k+(i+1)=k+1+i by omega];exact hj);rw[show k+(i+1)+1=k+1+i+1 by omega] at this;exact this
  refine⟨e,?_,by rw[cg,show k+(r.length+1)=k+1+r.length by omega];exact q2⟩;unfold bU;rw[h1];dsimp only;rw[h2];exact q1
end Pc
end
section
namespace Pc
open PySem PySem.Spec PyProof.Rows L2
variable {K:Frag}{oc:Value}{od:Option Addr}{sl:Array (Option Value)}
theorem aV {d:Df}{f:Addr}{kV dc pm:Value}{an:Option Addr}{cd ct:Value}
 (a:Da K bi d.nm=θ (θ (.ref f))) (l:K.lookup f=θ ⟨oc,od,.func (jp d.nm d.nm (gF d.st) (bB d.st) (aI d.st) .none kV dc pm an cd ct),sl⟩) (c:Ev K cd d.nm=ζ) (k:sw K (.ref f)=ζ):Xv K d :=
 ⟨f,oc,od,kV,dc,pm,an,cd,ct,sl,a,l,c,k⟩
variable {x:Str}
theorem gl_int {i:Int}{t:YR}(h:Da K bi x=θ (θ (.int i t))):qG K x (.int i):=⟨.int i,_,h,⟨t,rfl⟩,λ_=>.int i⟩
theorem zY {a:Addr}{es:Array DictEntry}{ep:Nat}{kvs:List (Key×Option Int)}(h:Da K bi x=θ (θ (.ref a)))
  (l:K.lookup a=θ ⟨oc,od,.dict es ep,sl⟩) (c:oc=.type "dict"/\od=η/\sl = #[]) (he:u5 es.toList kvs) (hn:(kvs.map (·.1)).Nodup):qG K x (.Mp kvs) :=
 ⟨.ref a,_,h,rfl,λH=>.Mp ⟨_,es,ep,l,c,rfl,he,hn⟩⟩
noncomputable def sy (K:Frag)(g:Nat->D):Nat->List Str->Prop
 |_,[]=>True
 |i,x::r=>qG K x (g i)/\sy K g (i+1) r
variable {g:Nat->D}
theorem uK:∀{l:List Str}{k i:Nat}{x:Str},sy K g k l->idxOf l x=θ i->qG K x (g (k+i))
 |y::r,k,i,x,⟨h1,h2⟩,e=>by
  unfold idxOf at e;by_cases hx:y=x
  .rw[if_pos hx] at e;cases e;subst hx;exact h1
  .rw[if_neg hx,ae] at e;obtain⟨j,hj,rfl⟩:=e;have:=uK h2 hj;rw[show k+1+j=k+(j+1) by omega] at this;exact this
theorem CL {l:List Str}(h:sy K g 0 l):∀i x,idxOf l x=θ i->qG K x (g i):=λi x e=>by
 have:=uK h e
 rwa [en] at this
end Pc
end
section
variable {a b c k:Nat}
namespace Fl64
noncomputable def dbl (a:Nat):Nat:=if 64<=2*a then (2*a)^^^67 else 2*a
noncomputable def jO:Nat->Nat->Nat->Nat->Nat
 |0,p,_,_=>p
 |n+1,p,d,l=>if l=0 then p else jO n (if l%2=1 then p^^^d else p) (dbl d) (l / 2)
noncomputable def tm (a b:Nat):Nat:=jO 6 0 a b
noncomputable def allB (n:Nat)(f:Nat->Bool):Bool:=match n with
 |0=>ζ
 |k+1=>f k&&allB k f
theorem aX:∀{n:Nat}{f:Nat->Bool},allB n f=ζ->∀i,i<n->f i=ζ
 |0,_,_,i,h=>absurd h (gi i)
 |k+1,f,h,i,hi=>by
  unfold allB at h;rw[aj] at h;rcases Nat.lt_succ_iff_lt_or_eq.mp hi with q|q
  .exact aX h.2 i q
  .subst q;exact h.1
theorem all2 {f:Nat->Nat->Bool}(h:allB 64 (λa=>allB 64 (f a))=ζ)(ha:a<64)(hb:b<64):f a b=ζ:=aX (aX h a ha) b hb
theorem bN (ha:a<64)(hb:b<64):tm a b<64:=by
 have:=all2 (f:=λa b=>decide (tm a b<64)) (by decide +kernel) ha hb;exact bt this
theorem eY (ha:a<64)(hb:b<64):tm a b=tm b a:=by
 have:=all2 (f:=λa b=>decide (tm a b=tm b a)) (by decide +kernel) ha hb;exact bt this
theorem lz (ha:a<64):tm a 1=a:=by
 have:=aX (n:=64) (f:=λa=>decide (tm a 1=a)) (by decide +kernel) a ha;exact bt this
theorem oW (ha:a<64):tm 1 a=a:=by rw[eY (by decide) ha,lz ha]
theorem iL (a:Nat):tm a 0=0:=rfl
theorem cQ (ha:a<64):tm 0 a=0:=by rw[eY (by decide) ha,iL]
theorem aZ (ha:a<64)(hb:b<64):a^^^b<64:=Nat.xor_lt_two_pow (n:=6) ha hb
theorem z8 (b c:Nat):(b^^^c) / 2=(b / 2)^^^(c / 2):=by
 have:=@Yh 1 b c;simpa[ie] using this
theorem Dr (b c:Nat):(b^^^c)%2=(b%2+c%2)%2:=by
 have:=@Y9 b c 1;rw[Å] at this;rw[this];rcases eh b with hb|hb<;>rcases eh c with hc|hc<;>simp[hb,hc]
theorem k4:∀(n p d l:Nat),jO n p d l=p^^^jO n 0 d l
 |0,p,_,_=>by simp[jO]
 |n+1,p,d,l=>by
  unfold jO;by_cases h:l=0
  .simp[h]
  .rw[if_neg h,if_neg h,k4 n,k4 n (if l%2=1 then 0^^^d else 0)];by_cases o:l%2=1
   .rw[if_pos o,if_pos o,cx,br]
   .rw[if_neg o,if_neg o,cx]
theorem mO (n d l:Nat):jO (n+1) 0 d l=(if l%2=1 then d else 0)^^^jO n 0 (dbl d) (l / 2):=by
 have z:∀n d,jO n 0 d 0=0:=λn d=>by cases n<;>simp[jO]
 conv=>lhs;unfold jO
 by_cases h:l=0
 .subst h;simp[z]
 .rw[if_neg h,k4];by_cases o:l%2=1
  .rw[if_pos o,if_pos o,cx]
  .rw[if_neg o,if_neg o]
theorem tQ:∀(n d b c:Nat),jO n 0 d (b^^^c)=jO n 0 d b^^^jO n 0 d c
 |0,_,_,_=>by simp[jO]
 |n+1,d,b,c=>by
  rw[mO,mO,mO,z8,tQ n,Dr];have e:(if (b%2+c%2)%2=1 then d else 0)=(if b%2=1 then d else 0)^^^(if c%2=1 then d else 0):=by
   rcases eh b with hb|hb<;>rcases eh c with hc|hc<;>simp[hb,hc]
  rw[e];generalize (if b%2=1 then d else 0)=x;generalize (if c%2=1 then d else 0)=y;generalize jO n 0 (dbl d) (b / 2)=u;generalize jO n 0 (dbl d) (c / 2)=v;rw[br,br,<-br y,XT y u,br u y v]
theorem kq (a b c:Nat):tm a (b^^^c)=tm a b^^^tm a c:=tQ 6 a b c
theorem ki (ha:a<64)(hb:b<64)(hc:c<64):tm (a^^^b) c=tm a c^^^tm b c:=by
 rw[eY (aZ ha hb) hc,kq,eY hc ha,eY hc hb]
noncomputable def hW (c k:Nat):Nat:=if c / 2 ^ k%2=1 then 2 ^ k else 0
theorem Ap (hc:c<64):c=hW c 0^^^(hW c 1^^^(hW c 2^^^(hW c 3^^^(hW c 4^^^hW c 5)))):=by
 have:=aX (n:=64) (f:=λc=>decide (c=hW c 0^^^(hW c 1^^^(hW c 2^^^(hW c 3^^^(hW c 4^^^hW c 5)))))) (by decide +kernel) c hc;exact bt this
noncomputable def asB (a b:Nat):Bool:=allB 6 λk=>decide (tm (tm a b) (2 ^ k)=tm a (tm b (2 ^ k)))
theorem Du (ha:a<64)(hb:b<64)(hk:k<6):tm (tm a b) (2 ^ k)=tm a (tm b (2 ^ k)):=by
 have:=all2 (f:=asB) (by decide +kernel) ha hb;exact bt (aX this k hk)
theorem m4 (ha:a<64)(hb:b<64)(hk:k<6):tm (tm a b) (hW c k)=tm a (tm b (hW c k)):=by
 unfold hW;by_cases h:c / 2 ^ k%2=1
 .rw[if_pos h,Du ha hb hk]
 .rw[if_neg h,iL,iL,iL]
theorem dY (ha:a<64)(hb:b<64)(hc:c<64):tm (tm a b) c=tm a (tm b c):=by
 rw[Ap hc];simp only[kq];rw[m4 ha hb (by decide),m4 ha hb (by decide),m4 ha hb (by decide),m4 ha hb (by decide),m4 ha hb (by decide),m4 ha hb (by decide)]
end Fl64
end
section
namespace Pc
open PySem
theorem uw:∀(n a b:Nat),a<2 ^ n->(a^^^b)+(a &&& b)=a ||| b
 |0,a,b,h=>by
  have:a=0:=by simpa using h
  subst this;simp
 |n+1,a,b,h=>by
  have ih:=uw n (a / 2) (b / 2) (by rw[jv] at h;omega);have x1:(a^^^b) / 2=(a / 2)^^^(b / 2):=by have:=@Yh 1 a b;simpa[ie] using this
  have x2:(a &&& b) / 2=(a / 2) &&& (b / 2):=by have:=@Nat.shiftRight_and_distrib 1 a b;simpa[ie] using this
  have x3:(a ||| b) / 2=(a / 2) ||| (b / 2):=by have:=@Nat.shiftRight_or_distrib 1 a b;simpa[ie] using this
  have y1:=@Y9 a b 1;have y2:=@Nat.and_mod_two_pow a b 1;have y3:=@Nat.or_mod_two_pow a b 1;rw[Å] at y1 y2 y3;have z:(a%2^^^b%2)+(a%2 &&& b%2)=a%2 ||| b%2:=by
   rcases eh a with ha|ha<;>rcases eh b with hb|hb<;>rw[ha,hb]<;>rfl
  have d1:=X8 (a^^^b) 2;have d2:=X8 (a &&& b) 2;have d3:=X8 (a ||| b) 2;rw[x1,y1] at d1;rw[x2,y2] at d2;rw[x3,y3] at d3;omega
theorem uS (a b:Nat):XZ (a:Int) (b:Int)=((a &&& b:Nat):Int):=by
 unfold XZ;rw[cm (jc a),cm (jc b)];rfl
theorem yN (a b:Nat):Zy (a:Int) (b:Int)=((a ||| b:Nat):Int):=by
 unfold Zy XZ Builtin.bitNot;rw[bh (by omega),bh (by omega)];have e:∀c:Nat,(-(-(c:Int)-1)-1).toNat=c:=λc=>by omega
 show -(-((((-(-(a:Int)-1)-1).toNat ||| (-(-(b:Int)-1)-1).toNat:Nat):Int))-1)-1=_;rw[e,e];omega
theorem gG (a b:Nat):Ρ (a:Int) (b:Int)=((a^^^b:Nat):Int):=by
 unfold Ρ;rw[uS,yN,<-uw a a b (Nat.lt_two_pow_self)];omega
noncomputable def md (g f:Nat):bJ:=(.cons (.ite (.cmp .Eq (.bin .Mod KQ Ku) Kv) (.cons (.asg (.nm 2) (.bin .BitXor KR KS) ε)
  .nil) .nil)
  (.cons (.asg (.nm 3) (.bin .Mult Ku KS) ε)
  (.cons (.ite (.cmp .GtE KS (.MM g)) (.cons (.asg (.nm 3) (.bin .BitXor KS (.MM f)) ε)
  .nil) .nil)
  (.cons (.asg (.nm 4) (.bin .FloorDiv KQ Ku) ε)
  .nil))))
noncomputable def vE (g f:Nat):bJ:=(.cons (.asg (.nm 2) Kw ε)
  (.cons (.asg (.nm 3) KU ε)
  (.cons (.asg (.nm 4) KW ε)
  (.cons (.Oc (.cmp .Gt KQ Kw) (md g f))
  (.cons (.ret KR)
  .nil)))))
noncomputable abbrev sI (i:Int):Slot:=θ (.int i,.own)
noncomputable abbrev sN (i:Nat):Slot:=θ (.int (i:Int),.own)
theorem FL:small 2=ζ:=by decide
variable {T:Tb}{f g:Nat}
theorem uW (hg:T.gl g=.int 64)(hf:T.gl f=.int 67)(A B p d l:Int) :
  aE T (md g f) [sI A,sI B,sI p,sI d,sI l]=.nx [sI A,sI B,sI (if l%2=1 then Ρ p d else p),sI (if 64<=2*d then Ρ (2*d) 67 else 2*d),sI (l / 2)]:=by
 have e1:(l%2==1)=decide (l%2=1):=rfl;by_cases h1:l%2=1<;>by_cases h2:64<=2*d <;>
  simp[e1,md,aE,bC,ev,aB,aP,aL,aS,Pc.binI,mE,D.Lq,truth,D.flat,cU,mW,put,Tg.drop,aD,hg,hf,h1,h2,FL]
theorem j8 (T:Tb)(A B p d l:Int):((ev T (.cmp .Gt KQ Kw) [sI A,sI B,sI p,sI d,sI l]).bind λp=>gQ (truth p.1))=.ok (decide (0<l)):=by
 simp[ev,aB,aL,mE,truth,D.flat]
theorem rF {T:Tb}(hg:T.gl g=.int 64)(hf:T.gl f=.int 67)(A B:Int):∀(n fuel p d l:Nat),l<2 ^ n->n<fuel ->
  ∃d' l':Int,ka (λenv=>(ev T (.cmp .Gt KQ Kw) env).bind λp=>gQ (truth p.1)) (aE T (md g f)) fuel [sI A,sI B,sN p,sN d,sN l]=.nx [sI A,sI B,sN (Fl64.jO n p d l),sI d',sI l']
 |n,0,p,d,l,_,Qp=>absurd Qp (gi _)
 |0,fuel+1,p,d,l,hl,_=>by
  have:l=0:=by simpa using hl
  subst this;refine⟨d,0,?_⟩;rw[ka,j8];rfl
 |n+1,fuel+1,p,d,l,hl,hn=>by
  rw[ka,j8,aP];by_cases h0:l=0
  .subst h0;refine⟨d,0,?_⟩;rfl
  .have hp:decide ((0:Int)<(l:Int))=ζ:=by rw[c9];omega
   rw[if_pos hp,uW hg hf];have e1:(if (l:Int)%2=1 then Ρ (p:Int) (d:Int) else (p:Int))=((if l%2=1 then p^^^d else p:Nat):Int):=by
    rw[gG];by_cases h:l%2=1
    .rw[if_pos h,if_pos (by omega)]
    .rw[if_neg h,if_neg (by omega)]
   have e2:(if 64<=2*(d:Int) then Ρ (2*(d:Int)) 67 else 2*(d:Int))=((Fl64.dbl d:Nat):Int):=by
    unfold Fl64.dbl;by_cases h:64<=2*d
    .rw[if_pos h,if_pos (by omega)];exact gG (2*d) 67
    .rw[if_neg h,if_neg (by omega)];simp
   have e3:(l:Int) / 2=((l / 2:Nat):Int):=by omega
   rw[e1,e2,e3];obtain⟨d',l',h⟩:=rF hg hf A B n fuel (if l%2=1 then p^^^d else p) (Fl64.dbl d) (l / 2) (by rw[jv] at hl;omega) (by omega);refine⟨d',l',?_⟩;dsimp only;rw[h]
   conv=>rhs;unfold Fl64.jO
   rw[if_neg h0]
noncomputable def ret (f:Fl):Rs (D×Bool):=match f with
 |.rt d fr=>.ok (d,fr)
 |.nx _=>.ok (.Lj,ζ)
 |.xc e _=>.exc e
 |_=>.bad
variable {i n:Nat}
theorem bE {fns:List Fn}{gl:Nat->D}{fuel:Nat}{F:Fn}{ds:List D}(h:fns[i]? = θ F)(hl:ds.length=F.ps):Pc.run fns gl fuel (n+1) i ds=ret (aE ⟨Pc.run fns gl fuel n,gl,fuel⟩ F.body (aF ds F.slots)):=by
 unfold Pc.run;rw[h];dsimp only;rw[if_pos hl];rfl
theorem BZ {T:Tb}(hg:T.gl g=.int 64)(hf:T.gl f=.int 67)(hfu:7<=T.fuel)(a b:Nat)(hb:b<64):ret (aE T (vE g f) (aF [.int a,.int b] 5))=.ok (.int (Fl64.tm a b:Nat),ζ):=by
 have Lu:aF [.int a,.int b] 5=[sN a,sN b,η,η,η]:=rfl;rw[Lu];unfold vE;have h1:bC T (.asg (.nm 2) Kw ε) [sN a,sN b,η,η,η]=.nx [sN a,sN b,sI 0,η,η]:=rfl;have h2:bC T (.asg (.nm 3) KU ε) [sN a,sN b,sI 0,η,η]=.nx [sN a,sN b,sI 0,sN a,η]:=rfl;have h3:bC T (.asg (.nm 4) KW ε) [sN a,sN b,sI 0,sN a,η]=.nx [sN a,sN b,sI 0,sN a,sN b]:=rfl;rw[aE,h1,aD,aE,h2,aD,aE,h3,aD,aE];obtain⟨d',l',h⟩:=rF (T:=T) hg hf a b 6 T.fuel 0 a b hb (by omega);have h4:bC T (.Oc (.cmp .Gt KQ Kw) (md g f)) [sN a,sN b,sI 0,sN a,sN b]=.nx [sN a,sN b,sN (Fl64.tm a b),sI d',sI l']:=by
  rw[bC];exact h
 rw[h4,aD];show ret (aE T (.cons (.ret KR) .nil) [sN a,sN b,sI ((Fl64.tm a b:Nat):Int),sI d',sI l'])=_;generalize ((Fl64.tm a b:Nat):Int)=x;rfl
theorem BO {a m:Int}(h0:0<=a)(h1:a<m):∃n:Nat,a=(n:Int)/\(n:Int)<m:=⟨a.toNat,by omega,by omega⟩
noncomputable abbrev sS (S:List D):Slot:=θ (.lst S,.sh [])
theorem pL {x:Int}(h0:0<=x)(h1:x<2147483648):small x=ζ:=cm ⟨by omega,by omega⟩
theorem hZ {n k:Nat}(h:k<n):kQ n (k:Int)=θ k:=by
 unfold kQ;rw[if_pos (by omega),if_pos (by omega),bo]
theorem qk:∀(n:Nat) (a:Int) (i:Nat) (d:D),(cN a 1 n)[i]? = θ d->i<n/\d=.int (a+i)
 |0,a,i,d,h=>by simp[cN] at h
 |n+1,a,0,d,h=>by simp[cN] at h;exact⟨by omega,by rw[<-h];simp⟩
 |n+1,a,i+1,d,h=>by
  rw[cN,KB] at h;obtain⟨h1,h2⟩:=qk n (a+1) i d h;refine⟨by omega,?_⟩;rw[h2];congr 1;omega
theorem By (env:En):lock [] env=env:=by
 unfold lock;have:∀(l:En) (k:Nat),(l.mapIdx λi (s:Slot)=>match s with
  |some (d,.own)=>if ([]:List Nat).contains i then θ (d,.lk) else θ (d,.own)
  |s=>s)=l:=λl k=>by
  rw[Za];intro i;cases h:l[i]? with
  |none=>rfl
  |some s=>
   cases s with
   |none=>rfl
   |some p=>obtain⟨d,t⟩:=p;cases t<;>rfl
 exact this env 0
theorem fin (T:Tb)(e:En):ret (aE T (.cons (.ret (.cst (.bl ζ))) .nil) e)=.ok (.bl ζ,ζ):=rfl
theorem vt (e0 env:En):unlock [] e0 env=env:=by
 unfold unlock;rw[Za];intro i;cases h:env[i]? with
 |none=>rfl
 |some s=>
  cases s with
  |none=>rfl
  |some p=>
   obtain⟨d,t⟩:=p;cases t with
   |lk=>
    simp only[bw];split<;>rfl
   |own=>rfl
   |sh R=>rfl
variable {env:En}{it:tX}{l:List D}{t:nQ}
theorem cP {b:bJ}{e:En}(hit:fU T it env=.ok (l,[]))(h:bU t [] (aE T b) l env=.nx e):bC T (.Li t it b) env=.nx e:=by
 rw[bC,hit,aP];dsimp only;rw[By,h];dsimp only;rw[vt]
theorem oz {f:D->Rs (Option (D×Rt))}{g:D->D×Rt}:∀{l:List D},(∀d∈l,f d=.ok (θ (g d)))->fE f l=.ok (l.map g)
 |[],_=>rfl
 |d::l,h=>by
  simp only[av,fE];rw[h d ag,oz λj hj=>h j (aa _ hj)];rfl
variable {e:Ex}
theorem l9 {own:Nat}{pick:List Nat}{R:List Nat}{g:D->D×Rt}(hit:fU T it env=.ok (l,R))(hl:l.length<=lim)(hg:∀d∈l,bM (be [] t d (aO env own pick)) (nT T .none) (ev T e)=.ok (θ (g d)))(hf:∀d∈l,((g d).1.flat || gC (g d).2)=ζ) :
  ev T (.comp own pick t it .none e) env=.ok (.lst (l.map λd=>(g d).1),.mv []):=by
 rw[ev,hit,aB,oz hg,aB];dsimp only;rw[if_pos hl,if_pos]
 .rw[aw];rfl
 .rw[XH,cz];exact hf
theorem cB (h:D.Lh l=ζ)(R:List Nat):jC (.lst l) R=.mv []:=by
 unfold jC;rw[if_pos];exact h
variable {d:D}
theorem fY (h:ev T e env=.ok (d,.mv [])):ret (aE T (.cons (.ret e) .nil) env)=.ok (d,ζ):=by
 rw[aE,bC,h,aP];rfl
theorem cY (h:n<=1000):n<=lim:=cu h (by decide)
theorem oa (T:Tb)(env:En)(e:Ex)(j:Int)(r:Rt)(he:ev T e env=.ok (.int j,r))(h1:me j=ζ):fU T (.Lm e) env=.ok (cN 0 1 j.toNat,[]):=by
 rw[fU,he,aB];show (if me j=ζ then Rs.ok (cN 0 1 j.toNat,[]) else .bad)=_;rw[if_pos h1]
theorem qq {n:Nat}(h:n<=1000):me (n:Int)=ζ:=by
 unfold me;exact cm ⟨XS (by decide) (jc n),Int.lt_of_le_of_lt (Int.ofNat_le.mpr h) (by decide)⟩
def cH (s:Slot):Prop:=s=η\/(∃d,s=θ (d,.own))\/(∃d,s=θ (d,.sh []))\/∃d,s=θ (d,.lk)
def Tame (env:En):Prop:=∀s∈env,cH s
theorem aH:cH η:=.inl rfl
theorem aC (d:D):cH (θ (d,.own)):=.inr (.inl ⟨d,rfl⟩)
theorem aM (d:D):cH (θ (d,.sh [])):=.inr (.inr (.inl ⟨d,rfl⟩))
theorem iK (d:D):cH (θ (d,.lk)):=.inr (.inr (.inr ⟨d,rfl⟩))
theorem Tame.nil:Tame []:=λ_ h=>(nomatch h)
theorem Tame.cons {s:Slot}{e:En}(h:cH s)(t:Tame e):Tame (s::e):=λx hx=>by
 rcases fe.mp hx with rfl|hx
 .exact h
 .exact t x hx
theorem Tame.set {e:En}{s:Slot}(t:Tame e)(h:cH s)(i:Nat):Tame (e.set i s):=λx hx=>by
 rcases jf hx with q|q
 .exact t x q
 .rw[q];exact h
theorem bT (h:Tame env)(i:Nat)(d:D)(t:Tg):put env i d t=env.set i (θ (d,t)):=by
 unfold put;have:env.map (λ(s:Slot)=>s.map λ(p:D×Tg)=>(p.1,p.2.drop i))=env:=by
  conv=>rhs;rw[<-ÿ env]
  refine fu λs hs=>?_
  rcases h s hs with rfl|⟨d,rfl⟩|⟨d,rfl⟩|⟨d,rfl⟩<;>rfl
 rw[this]
theorem yF (h:Tame env)(R:List Nat):kill R env=env.mapIdx λi s=>if R.contains i then η else s:=by
 unfold kill;apply zn;intro i;rw[Τ,Τ];cases q:env[i]? with
 |none=>rfl
 |some s=>
  rcases h s (Α q) with rfl|⟨d,rfl⟩|⟨d,rfl⟩|⟨d,rfl⟩
  .simp
  .simp[kO]
  .simp[kO]
  .simp[kO]
theorem fM (h:Tame env)(x:Nat)(s:Slot):(kill [x] env).set x s=env.set x s:=by
 rw[yF h];apply zn;intro i;by_cases hi:i=x
 .subst hi;by_cases hl:i<env.length
  .rw[ξ (by simpa using hl),ξ hl]
  .rw[nw (by simp;omega),nw (by simp;omega)]
 .rw[μ (cv hi),μ (cv hi),Τ];cases q:env[i]? with
  |none=>rfl
  |some s=>simp[hi]
variable {R R':Rt}{a b:Ex}{d':D}{x:Nat}{xs:List D}
section
variable {T:Tb}{env:En}
theorem bI {i:Nat}{d:D}(ht:Tame env)(hi:i<env.length)(h:ev T e env=.ok (d,.mv [])):bC T (.asg (.nm i) e ε) env=.nx (env.set i (θ (d,.own))):=by
 rw[bC,h,aP];show (if i<env.length then Fl.nx (put env i d .own) else .bad)=_;rw[if_pos hi,bT ht]
theorem gH {i:Nat}{d:D}(ht:Tame env)(hi:i<env.length):be [] (.nm i) d env=θ (env.set i (θ (d,dJ d []))):=by
 show (if i<env.length then θ (put env i d (dJ d [])) else η)=_;rw[if_pos hi,bT ht]
theorem bP (h:env[i]? = θ (θ (d,.own)))(hf:d.flat=ε):ev T (.var i) env=.ok (d,.mv [i]):=by
 rw[ev,h];dsimp only;rw[hf];rfl
theorem aJ {t:Tg}(h:env[i]? = θ (θ (d,t)))(hf:d.flat=ζ):ev T (.var i) env=.ok (d,.mv []):=by
 rw[ev,h];dsimp only;rw[if_pos hf]
theorem wI {t:Tg}(h:env[i]? = θ (θ (d,t))):∃R,ev T (.var i) env=.ok (d,R):=by
 rw[ev,h];exact⟨_,rfl⟩
theorem sX (xs:List D)(d:D):yy .append xs [d]=θ (xs ++ [d]):=rfl
theorem zL (xs ys:List D):yy .extend xs [.lst ys]=if D.Lh ys then θ (xs++ys) else η:=rfl
theorem sF {x:Nat}(ht:Tame env)(hx:env[x]? = θ (θ (.lst xs,.own)))(h:ev T e env=.ok (d,.mv []))(hl:xs.length+1<=lim):bC T (.mut x .none .append (.cons e .nil)) env=.nx (env.set x (θ (.lst (xs ++ [d]),.own))):=by
 have ho:ownAt env x=θ (.lst xs):=by unfold ownAt;rw[hx]
 have hs:bL T (.cons e .nil) env=.ok [(d,.mv [])]:=by
  rw[bL,h,aB];rfl
 rw[bC,ho];simp only[jW,aP,D.LL,hs,av,jw,sX,bF,Rt.roots,dz,jm,bc,i0,a8,if_false,sj.Lz,dU,eW,bw];have:(xs ++ [d]).length<=lim:=by rw[az];exact hl
 simp only[bj,decide_true,bV,jb,je,ik,this,if_true,D.LO,g8];rw[fM ht]
theorem lV {x:Nat}{k:Ex}{l:Int}{m:Nat}(ht:Tame env)(hx:env[x]? = θ (θ (.lst xs,.own)))(hk:ev T k env=.ok (.int l,R'))(hm:Pc.kQ xs.length l=θ m)(h:ev T e env=.ok (d,.mv []))(hl:xs.length<=lim) :
  bC T (.Lv x .none k e) env=.nx (env.set x (θ (.lst (xs.set m d),.own))):=by
 have ho:ownAt env x=θ (.lst xs):=by unfold ownAt;rw[hx]
 have hll:(xs.set m d).length<=lim:=by rw[ak];exact hl
 rw[bC,ho];simp only[h,aP,jW,D.LL,hk,hm,dU,eW,bw,bc,bj,decide_true,bV,jb,i0,je,ik,hll,if_true,D.LO,g8];rw[fM ht]
theorem AY {j:Nat}{x y:D}(ht:Tame env)(hi:i<env.length)(hj:j<env.length)(h:ev T e env=.ok (.tup [x,y],.mv [])):bC T (.asg (.tp [i,j]) e ε) env=.nx ((env.set i (θ (x,.own))).set j (θ (y,.own))):=by
 rw[bC,h,aP];show yU (bindM (λ_=>Tg.own) [i,j] [x,y] env)=_;simp only[bindM,hi,if_true];rw[bT ht,if_pos (by rw[ak];exact hj),bT (ht.set (aC x) i)];rfl
theorem ite_ff {c:Ex}{a:bJ}(h:ev T c env=.ok (.bl ε,R)):bC T (.ite c a .nil) env=.nx env:=by
 rw[bC,h,aP];rfl
theorem Bg (h:ev T a env=.ok (.bl ε,R))(h':ev T b env=.ok (.bl ε,R')):ev T (.or a b) env=.ok (.bl ε,R'):=by
 rw[ev,h,aB,h']
theorem EI (h:ev T a env=.ok (.bl ζ,R)):ev T (.not a) env=.ok (.bl ε,.mv []):=by
 rw[ev,h,aB];rfl
theorem BV (h:ev T a env=.ok (d,R))(h':ev T b env=.ok (d,R'))(he:D.Lq 40 d d=θ ζ):ev T (.cmp .NotEq a b) env=.ok (.bl ε,.mv []):=by
 rw[ev,h,aB,h',aB];show (gQ ((D.Lq 40 d d).map (!·))).bind _=_;rw[he];rfl
theorem tL (hx:env[x]? = θ (θ (d,.own))):lock [x] env=env.set x (θ (d,.lk)):=by
 unfold lock;apply zn;intro i;rw[Τ];by_cases hi:i=x
 .subst hi;have hl:i<env.length:=(ο.mp hx).1;rw[ξ hl,hx];simp
 .rw[μ (cv hi)];cases q:env[i]? with
  |none=>rfl
  |some s=>
   cases s with
   |none=>rfl
   |some p=>
    obtain⟨d,t⟩:=p;cases t with
    |own=>simp[hi]
    |lk=>rfl
    |sh R=>rfl
theorem vX {e:En}(hx:env[x]? = θ (θ (d,.own)))(he:e[x]? = θ (θ (d',.lk))):unlock [x] env e=e.set x (θ (d',.own)):=by
 unfold unlock;apply zn;intro i;rw[Τ];by_cases hi:i=x
 .subst hi;have hl:i<e.length:=(ο.mp he).1;rw[ξ hl,he];simp[hx]
 .rw[μ (cv hi)];cases q:e[i]? with
  |none=>rfl
  |some s=>
   cases s with
   |none=>rfl
   |some p=>
    obtain⟨d,t⟩:=p;cases t with
    |own=>rfl
    |lk=>
     simp only[bw];split
     .simp[hi]
     .rfl
    |sh R=>rfl
theorem rW {b:bJ}{e:En}{x:Nat}(hx:env[x]? = θ (θ (d,.own)))(hit:fU T it env=.ok (l,[x]))(h:bU t [x] (aE T b) l (env.set x (θ (d,.lk)))=.nx e)(he:e[x]? = θ (θ (d',.lk))):bC T (.Li t it b) env=.nx (e.set x (θ (d',.own))):=by
 rw[bC,hit,aP];dsimp only;rw[tL hx,h];dsimp only;rw[vX hx he]
theorem fX {i j:Nat}{x y:D}{R:List Nat}(ht:Tame env)(hi:i<env.length)(hj:j<env.length)(fx:x.flat=ζ)(fy:y.flat=ζ):be R (.tp [i,j]) (.tup [x,y]) env=θ ((env.set i (θ (x,.own))).set j (θ (y,.own))):=by
 show bindM (λd=>dJ d R) [i,j] [x,y] env=_;have tx:dJ x R=.own:=by unfold dJ;rw[if_pos fx]
 have ty:dJ y R=.own:=by unfold dJ;rw[if_pos fy]
 simp only[bindM,hi,if_true,tx,ty];rw[bT ht,if_pos (by rw[ak];exact hj),bT (ht.set (aC x) i)]
end
end Pc
end
section
namespace Pc
end Pc
namespace Pc.Sm
open PySem Pc
theorem ya (p:D×Rt):XI (λx:D×Rt=>x.1) [p]=[p.1]:=rfl
theorem Sy (p q:D×Rt):XI (λx:D×Rt=>x.1) [p,q]=[p.1,q.1]:=rfl
variable {R1:Rt}{T:Tb}{d1 r:D}{e1:Ex}{env:En}{f:Nat}
theorem kC (h1:ev T e1 env=.ok (d1,R1))(h:T.cl f [d1]=.ok (r,ζ)):ev T (.call f (.cons e1 .nil)) env=.ok (r,.mv []):=by
 have:bL T (.cons e1 .nil) env=.ok [(d1,R1)]:=by
  rw[bL,h1,aB];rfl
 rw[ev,this,aB,ya,h,aB];rfl
theorem cJ {e2:Ex}{d2:D}{R2:Rt}(h1:ev T e1 env=.ok (d1,R1))(h2:ev T e2 env=.ok (d2,R2))(h:T.cl f [d1,d2]=.ok (r,ζ)):ev T (.call f (.cons e1 (.cons e2 .nil))) env=.ok (r,.mv []):=by
 have:bL T (.cons e1 (.cons e2 .nil)) env=.ok [(d1,R1),(d2,R2)]:=by
  rw[bL,h1,aB,bL,h2,aB];rfl
 rw[ev,this,aB,Sy,h,aB];rfl
theorem sum_ints:∀(l:List Int) (a:Int),vH a (l.map D.int)=θ (a+l.sum)
 |[],a=>by simp[vH]
 |x::r,a=>by
  rw[av,vH,sum_ints r,Ym];congr 1;omega
end Pc.Sm
end
section
variable {a b l m:List Nat}{f g p x:Nat}
namespace Fl64
def Gr (l:List Nat):Prop:=∀g∈l,g<64
theorem Gr.nil:Gr []:=λ_ h=>(nomatch h)
theorem Gr.cons {g:Nat}{l:List Nat}(h:g<64)(t:Gr l):Gr (g::l):=λx hx=>by
 rcases fe.mp hx with rfl|hx
 .exact h
 .exact t x hx
theorem Gr.append (a:Gr l)(b:Gr m):Gr (l++m):=λx hx=>(il.mp hx).elim (a x) (b x)
noncomputable def iW (x w:Nat)(l:List Nat):Nat:=l.foldl (λw g=>tm w x^^^g) w
noncomputable abbrev dP (x:Nat)(l:List Nat):Nat:=iW x 0 l
theorem lY (x w g:Nat)(l:List Nat):iW x w (g::l)=iW x (tm w x^^^g) l:=rfl
theorem vb (x w:Nat)(l m:List Nat):iW x w (l++m)=iW x (iW x w l) m:=by unfold iW;rw[List.foldl_append]
theorem hU {w:Nat}(hx:x<64)(hw:w<64):∀{l:List Nat},Gr l->iW x w l<64:=by
 intro l
 induction l generalizing w with
 |nil=>exact λ_=>hw
 |cons g r ih=>exact λh=>ih (aZ (bN hw hx) (h g ag)) λz hz=>h z (aa _ hz)
noncomputable def pw (x:Nat):Nat->Nat
 |0=>1
 |n+1=>tm (pw x n) x
theorem bR (hx:x<64):∀n,pw x n<64
 |0=>by show 1<64;decide
 |n+1=>bN (bR hx n) hx
theorem jF {w:Nat}(hx:x<64)(hw:w<64)(h:Gr l):iW x w l=tm w (pw x l.length)^^^dP x l:=by
 induction l generalizing w with
 |nil=>simp[iW,pw,lz hw]
 |cons g r ih=>
  have Ly:=h g ag;have hr:Gr r:=λz hz=>h z (aa _ hz)
  have PJ:=bR hx r.length;rw[lY,ih (aZ (bN hw hx) Ly) hr];show _=tm w (pw x (r.length+1))^^^iW x (tm 0 x^^^g) r;rw[cQ hx,cx,ih Ly hr,ki (bN hw hx) Ly PJ,dY hw hx PJ,eY hx PJ,br];rfl
noncomputable def eQ (a b:List Nat):List Nat:=List.zipWith (· ^^^ ·) a b
theorem z5 (h:a.length=b.length):(eQ a b).length=a.length:=by simp[eQ,h]
theorem wN:∀{a b:List Nat},Gr a->Gr b->Gr (eQ a b)
 |[],_,_,_=>Gr.nil
 |_::_,[],_,_=>by simpa[eQ] using Gr.nil
 |x::a,y::b,ha,hb=>by
  show Gr ((x^^^y)::eQ a b);exact .cons (aZ (ha x ag) (hb y ag)) (wN (λz hz=>ha z (aa _ hz)) λz hz=>hb z (aa _ hz))
theorem IG (a b c d:Nat):(a^^^b)^^^(c^^^d)=(a^^^c)^^^(b^^^d):=by
 rw[br,br,<-br b,XT b c,br c]
theorem wZ (hx:x<64):∀{a b:List Nat},a.length=b.length->Gr a->Gr b->∀{u v:Nat},u<64->v<64->iW x (u^^^v) (eQ a b)=iW x u a^^^iW x v b
 |[],[],_,_,_,_,_,_,_=>rfl
 |p::a,q::b,hl,ha,hb,u,v,hu,hv=>by
  have PJ:=ha p ag;have q64:=hb q ag;show iW x (tm (u^^^v) x^^^(p^^^q)) (eQ a b)=iW x (tm u x^^^p) a^^^iW x (tm v x^^^q) b;rw[ki hu hv hx,IG];exact wZ hx (by simpa using hl) (λz hz=>ha z (aa _ hz)) (λz hz=>hb z (aa _ hz)) (aZ (bN hu hx) PJ) (aZ (bN hv hx) q64)
 |[],_::_,h,_,_,_,_,_,_=>by simp at h
 |_::_,[],h,_,_,_,_,_,_=>by simp at h
theorem wH (hx:x<64)(h:a.length=b.length)(ha:Gr a)(hb:Gr b):dP x (eQ a b)=dP x a^^^dP x b:=wZ (u:=0) (v:=0) hx h ha hb (by decide) (by decide)
theorem mY (x:Nat)(hx:x<64):∀n,dP x (ν n 0)=0
 |0=>rfl
 |n+1=>by
  show iW x (tm 0 x^^^0) (ν n 0)=0;rw[cQ hx];exact mY x hx n
theorem gK (n:Nat):Gr (ν n 0):=λg hg=>by rw[Yo hg];decide
theorem om (hx:x<64)(n:Nat)(l:List Nat):dP x (ν n 0++l)=dP x l:=by
 show iW x 0 _=_;rw[vb];show iW x (dP x (ν n 0)) l=_;rw[mY x hx]
noncomputable def mulR (f:Nat)(l:List Nat):List Nat:=l.map λg=>tm f g
theorem lM (hf:f<64)(h:Gr l):Gr (mulR f l):=λg hg=>by
 obtain⟨y,hy,rfl⟩:=χ.mp hg;exact bN hf (h y hy)
theorem CM (hx:x<64)(hf:f<64)(h:Gr l):∀{w:Nat},w<64->iW x (tm f w) (mulR f l)=tm f (iW x w l):=by
 induction l with
 |nil=>exact λ_=>rfl
 |cons g r ih=>
  intro w hw;have Ly:=h g ag;show iW x (tm (tm f w) x^^^tm f g) (mulR f r)=tm f (iW x (tm w x^^^g) r);rw[dY hf hw hx,<-kq,ih (λz hz=>h z (aa _ hz)) (aZ (bN hw hx) Ly)]
theorem xt (hx:x<64)(hf:f<64)(h:Gr l):dP x (mulR f l)=tm f (dP x l):=by
 have:=CM hx hf h (w:=0) (by decide);rw[iL] at this;exact this
theorem fC {a b:Nat}(ha:a<64)(hb:b<64)(h:tm a b=0):a=0\/b=0:=by
 have:=all2 (f:=λa b=>decide (tm a b=0->a=0\/b=0)) (by decide +kernel) ha hb;exact bt this h
theorem cX {a b:Nat}(h:a^^^b=0):a=b:=by
 have:(a^^^b)^^^b=0^^^b:=by rw[h]
 rwa [br,gj,gq,cx] at this
noncomputable def Ac (a w:Nat):List Nat->List Nat
 |[]=>[]
 |g::r=>w::Ac a (tm w a^^^g) r
theorem xC (a:Nat):∀(w:Nat) (l:List Nat),(Ac a w l).length=l.length
 |_,[]=>rfl
 |w,g::r=>by rw[Ac,cg,xC,cg]
theorem vz {a:Nat}(ha:a<64):∀{w:Nat}{l:List Nat},w<64->Gr l->Gr (Ac a w l)
 |_,[],_,_=>Gr.nil
 |w,g::r,hw,h=>.cons hw (vz ha (aZ (bN hw ha) (h g ag)) λz hz=>h z (aa _ hz))
theorem tH {a b c:Nat}(ha:a<64)(hb:b<64)(hc:c<64):tm (tm a b) c=tm (tm a c) b:=by rw[dY ha hb hc,eY hb hc,dY ha hc hb]
theorem xl {a:Nat}(hx:x<64)(ha:a<64):∀{l:List Nat}{u w:Nat},Gr l->u<64->w<64->iW x (tm u (x^^^a)^^^w) l=tm (iW x u (Ac a w l)) (x^^^a)^^^iW a w l
 |[],u,w,_,_,_=>rfl
 |g::r,u,w,h,hu,hw=>by
  have Ly:=h g ag;have xa:=aZ hx ha;have ux:=bN hu hx;rw[Ac,lY,lY,lY];have e:tm (tm u (x^^^a)^^^w) x^^^g=tm (tm u x^^^w) (x^^^a)^^^(tm w a^^^g):=by
   rw[ki (bN hu xa) hw hx,ki ux hw xa,tH hu xa hx,kq w x a];generalize tm (tm u x) (x^^^a)=p;generalize tm w x=q;generalize tm w a=s;rw[br,br,br,<-br s s,gj,cx]
  rw[e];exact xl hx ha (λz hz=>h z (aa _ hz)) (aZ ux hw) (aZ (bN hw ha) Ly)
theorem C0 {a:Nat}(hx:x<64)(ha:a<64){r:List Nat}(h:Gr (g::r)):dP x (g::r)=tm (dP x (Ac a g r)) (x^^^a)^^^dP a (g::r):=by
 have Ly:=h g ag;have hr:Gr r:=λz hz=>h z (aa _ hz)
 have:=xl hx ha (u:=0) (w:=g) hr (by decide) Ly;rw[cQ (aZ hx ha),cx] at this;show iW x (tm 0 x^^^g) r=tm (iW x 0 (Ac a g r)) (x^^^a)^^^iW a (tm 0 a^^^g) r;rw[cQ hx,cQ ha,cx];exact this
theorem uh {a:Nat}(ha:a<64):∀{g:Nat}{r:List Nat},Gr (g::r)->(∀z∈Ac a g r,z=0)->dP a (g::r)=0->∀z∈g::r,z=0
 |g,[],h,_,hw,z,hz=>by
  have:dP a [g]=g:=by show tm 0 a^^^g=g;rw[cQ ha,cx]
  rw[this] at hw;have:=gu.mp hz;rw[this,hw]
 |g,g'::r,h,hq,hw,z,hz=>by
  have g0:g=0:=hq g (by rw[Ac];exact ag);subst g0;rcases fe.mp hz with rfl|hz
  .rfl
  have e:tm 0 a^^^g'=g':=by rw[cQ ha,cx]
  refine uh ha (λz hz=>h z (aa _ hz)) (λz hz=>hq z ?_) ?_ z hz
  .rw[Ac,e];exact aa _ hz
  .have:dP a (0::g'::r)=dP a (g'::r):=om ha 1 (g'::r);rw[<-this];exact hw
theorem pB:∀{xs l:List Nat},xs.Nodup->Gr xs->Gr l->l.length<=xs.length->(∀x∈xs,dP x l=0)->∀z∈l,z=0
 |_,[],_,_,_,_,_,z,hz=>(nomatch hz)
 |[],g::r,_,_,_,hl,_,_,_=>by simp at hl
 |a::xs,g::r,hn,hx,hl,hle,hw,z,hz=>by
  have NN:=hx a ag;have Ly:=hl g ag;have hr:Gr r:=λz hz=>hl z (aa _ hz)
  have LZ:=jy.mp hn;have wa:=hw a ag;refine uh NN hl (pB LZ.2 (λz hz=>hx z (aa _ hz)) (vz NN Ly hr) ?_ λx OT=>?_) wa z hz
  .rw[xC];simpa using hle
  .have NO:=hx x (aa _ OT);have wx:=hw x (aa _ OT);rw[C0 NO NN hl,wa,gq] at wx;rcases fC (hU NO (by decide) (vz NN Ly hr)) (aZ NO NN) wx with q|q
   .exact q
   .have:=cX q;subst this;exact absurd OT LZ.1
theorem sD (hx:x<64)(m:Nat):∀n,pw x (m+n)=tm (pw x m) (pw x n)
 |0=>by show pw x m=tm (pw x m) 1;rw[lz (bR hx m)]
 |n+1=>by
  show tm (pw x (m+n)) x=tm (pw x m) (tm (pw x n) x);rw[sD hx m n,dY (bR hx m) (bR hx n) hx]
theorem Ge (hx:x<64):pw x 1=x:=oW hx
theorem BR (hx:x<64):∀n,pw (tm x x) n=pw x (2*n)
 |0=>rfl
 |n+1=>by
  show tm (pw (tm x x) n) (tm x x)=pw x (2*n+2);rw[BR hx n,sD hx (2*n) 2];congr 1;show tm x x=tm (tm 1 x) x;rw[oW hx]
noncomputable def JL:Nat->Nat->Nat->Nat->Nat
 |0,p,_,_=>p
 |n+1,p,s,l=>if l=0 then p else JL n (if l%2=1 then tm p s else p) (tm s s) (l / 2)
theorem uV:∀(n p s l:Nat),l<2 ^ n->p<64->s<64->JL n p s l=tm p (pw s l)
 |0,p,s,l,hl,hp,_=>by
  have:l=0:=by simpa using hl
  subst this;show p=tm p 1;rw[lz hp]
 |n+1,p,s,l,hl,hp,hs=>by
  unfold JL;by_cases h:l=0
  .subst h;rw[if_pos rfl];show p=tm p 1;rw[lz hp]
  .rw[if_neg h];have ss:=bN hs hs;by_cases o:l%2=1
   .rw[if_pos o,uV n _ _ _ (by rw[jv] at hl;omega) (bN hp hs) ss,BR hs,dY hp hs (bR hs _)];congr 1;have e:l=1+2*(l / 2):=by omega
    conv=>rhs;rw[e,sD hs,Ge hs]
   .rw[if_neg o,uV n _ _ _ (by rw[jv] at hl;omega) hp ss,BR hs];have e:l=2*(l / 2):=by omega
    rw[<-e]
noncomputable def aW (c:Nat):List Nat:=(rc 1 c).map (pw 2)
theorem fD (c:Nat):Gr (aW c):=λg hg=>by
 obtain⟨k,_,rfl⟩:=χ.mp hg;exact bR (by decide) k
theorem fI (c:Nat):(aW c).length=c:=by simp[aW]
theorem xx (hx:x<64):∀{l:List Nat}{p g:Nat},Gr l->g<64->p<l.length->∀{w:Nat},w<64->iW x w (l.set p (l.getD p 0^^^g))=iW x w l^^^tm g (pw x (l.length-1-p))
 |[],p,g,_,_,hp,_,_=>by simp at hp
 |a::l,0,g,hl,hg,_,w,hw=>by
  have NN:=hl a ag;have hr:Gr l:=λz hz=>hl z (aa _ hz)
  show iW x (tm w x^^^(a^^^g)) l=iW x (tm w x^^^a) l^^^tm g (pw x (l.length+1-1-0));rw[<-br,jF hx (aZ (aZ (bN hw hx) NN) hg) hr,jF hx (aZ (bN hw hx) NN) hr,ki (aZ (bN hw hx) NN) hg (bR hx _)];rw[br,br,XT (tm g _)];rfl
 |a::l,p+1,g,hl,hg,hp,w,hw=>by
  have NN:=hl a ag;have hr:Gr l:=λz hz=>hl z (aa _ hz)
  show iW x (tm w x^^^a) (l.set p (l.getD p 0^^^g))=iW x (tm w x^^^a) l^^^tm g (pw x (l.length+1-1-(p+1)));rw[xx hx hr hg (by simpa using hp) (aZ (bN hw hx) NN)];congr 3;omega
theorem dN (h:Gr l)(p:Nat):l.getD p 0<64:=by
 rw[ι];cases q:l[p]? with
 |none=>decide
 |some g=>exact h g (Α q)
theorem rP (h:Gr l)(hg:g<64):Gr (l.set p (l.getD p 0^^^g)):=λz hz=>by
 rcases jf hz with q|q
 .exact h z q
 .rw[q];exact aZ (dN h p) hg
noncomputable def dX (l:List Nat)(p:Nat):List Nat->List Nat
 |[]=>l
 |g::r=>dX (l.set p (l.getD p 0^^^g)) (p+1) r
theorem cW:∀(m:List Nat) (l:List Nat) (p:Nat),(dX l p m).length=l.length
 |[],_,_=>rfl
 |g::r,l,p=>by rw[dX,cW r,ak]
theorem jI:∀{m l:List Nat}{p:Nat},Gr l->Gr m->Gr (dX l p m)
 |[],_,_,h,_=>h
 |g::r,l,p,h,hm=>by
  rw[dX];exact jI (rP h (hm g ag)) λz hz=>hm z (aa _ hz)
theorem ni (hx:x<64):∀{m l:List Nat}{p:Nat},Gr l->Gr m->p+m.length<=l.length->dP x (dX l p m)=dP x l^^^tm (dP x m) (pw x (l.length-p-m.length))
 |[],l,p,_,_,_=>by
  show dP x l=dP x l^^^tm 0 _;rw[cQ (bR hx _),gq]
 |g::r,l,p,h,hm,hp=>by
  have Ly:=hm g ag;have hr:Gr r:=λz hz=>hm z (aa _ hz)
  have OX:p+(r.length+1)<=l.length:=by simpa using hp
  rw[dX,ni hx (rP h Ly) hr (by rw[ak];omega),ak];show iW x 0 (l.set p (l.getD p 0^^^g))^^^_=_;rw[xx hx h Ly (by omega) (by decide),br];congr 1;have e1:dP x (g::r)=tm g (pw x r.length)^^^dP x r:=by
   show iW x (tm 0 x^^^g) r=_;rw[cQ hx,cx,jF hx Ly hr]
  have e2:l.length-1-p=r.length+(l.length-p-(r.length+1)):=by omega
  have e3:l.length-(p+1)-r.length=l.length-p-(r.length+1):=by omega
  rw[cg,e1,e2,sD hx,e3,ki (bN Ly (bR hx _)) (hU hx (by decide) hr) (bR hx _),dY Ly (bR hx _) (bR hx _)]
theorem iE:∀{m l:List Nat}{p i:Nat},i<p->(dX l p m).getD i 0=l.getD i 0
 |[],_,_,_,_=>rfl
 |g::r,l,p,i,hi=>by
  rw[dX,iE (by omega),ι,μ (by omega),ι]
theorem sW (hp:p<l.length):(dX l p (g::m)).getD p 0=l.getD p 0^^^g:=by
 rw[dX,iE (by omega),ι,ξ hp];rfl
noncomputable def fN (l:List Nat)(k:Nat):List Nat->List Nat->List Nat
 |[],_=>l
 |g::a,b=>fN (dX l k (mulR g b)) (k+1) a b
theorem my (f:Nat)(l:List Nat):(mulR f l).length=l.length:=by simp[mulR]
theorem oT:∀(a b l:List Nat) (k:Nat),(fN l k a b).length=l.length
 |[],_,_,_=>rfl
 |g::a,b,l,k=>by rw[fN,oT a,cW]
theorem qK:∀{a b l:List Nat}{k:Nat},Gr a->Gr b->Gr l->Gr (fN l k a b)
 |[],_,_,_,_,_,h=>h
 |g::a,b,l,k,ha,hb,h=>by
  rw[fN];exact qK (λz hz=>ha z (aa _ hz)) hb (jI h (lM (ha g ag) hb))
theorem pz (hx:x<64):∀{a b l:List Nat}{k:Nat},Gr a->Gr b->Gr l->0<b.length->k+a.length+b.length=l.length+1->dP x (fN l k a b)=dP x l^^^tm (dP x a) (dP x b)
 |[],b,l,k,_,hb,_,_,_=>by
  show dP x l=dP x l^^^tm 0 _;rw[cQ (hU hx (by decide) hb),gq]
 |g::a,b,l,k,ha,hb,h,h0,hk=>by
  have Ly:=ha g ag;have Nb:Gr a:=λz hz=>ha z (aa _ hz)
  have MJ:k+(a.length+1)+b.length=l.length+1:=by simpa using hk
  have wb:=hU hx (w:=0) (by decide) hb;have wa:=hU hx (w:=0) (by decide) Nb;have mg:=lM Ly hb;rw[fN,pz hx Nb hb (jI h mg) h0 (by rw[cW];omega),ni hx h mg (by rw[my];omega),xt hx Ly hb,my,br];congr 1;have e1:dP x (g::a)=tm g (pw x a.length)^^^dP x a:=by
   show iW x (tm 0 x^^^g) a=_;rw[cQ hx,cx,jF hx Ly Nb]
  have e2:l.length-k-b.length=a.length:=by omega
  rw[e1,e2,ki (bN Ly (bR hx _)) wa wb,tH Ly wb (bR hx _)]
noncomputable def eM (a b:List Nat):List Nat:=fN (ν (a.length+b.length-1) 0) 0 a b
theorem gR (a b:List Nat):(eM a b).length=a.length+b.length-1:=by rw[eM,oT,bf]
theorem kl (ha:Gr a)(hb:Gr b):Gr (eM a b):=qK ha hb (gK _)
theorem qN (hx:x<64)(ha:Gr a)(hb:Gr b)(h0:0<b.length):dP x (eM a b)=tm (dP x a) (dP x b):=by
 rw[eM,pz hx ha hb (gK _) h0 (by rw[bf];omega),mY x hx,cx]
theorem lW:∀{a b l:List Nat}{k i:Nat},i<k->(fN l k a b).getD i 0=l.getD i 0
 |[],_,_,_,_,_=>rfl
 |g::a,b,l,k,i,hi=>by rw[fN,lW (by omega),iE hi]
theorem vL {g':Nat}:(eM (g::a) (g'::b)).getD 0 0=tm g g':=by
 have hl:0<(ν ((g::a).length+(g'::b).length-1) 0).length:=by simp;omega
 rw[eM,fN,lW (by decide)];show (dX _ 0 (tm g g'::mulR g b)).getD 0 0=_;rw[sW hl];have:(ν ((g::a).length+(g'::b).length-1) 0).getD 0 0=0:=by
  rw[ι,Ω];split<;>rfl
 rw[this,cx]
noncomputable def fS (r:List Nat):List Nat->List Nat
 |[]=>r
 |n::ns=>fS (eM r [1,n]) ns
theorem fR:∀{ns r:List Nat},Gr ns->Gr r->0<r.length->r.getD 0 0=1->(fS r ns).length=r.length+ns.length/\Gr (fS r ns)/\(fS r ns).getD 0 0=1/\(∀x,x<64->dP x r=0->dP x (fS r ns)=0)/\∀x∈ns,dP x (fS r ns)=0
 |[],r,_,hr,_,h1=>⟨rfl,hr,h1,λ_ _ h=>h,λ_ h=>(nomatch h)⟩
 |n::ns,r,hn,hr,h0,h1=>by
  have N2:=hn n ag;have hb:Gr [1,n]:=.cons (by decide) (.cons N2 .nil);have hp:=kl hr hb;have hd:(eM r [1,n]).getD 0 0=1:=by
   match r,h0,h1 with
   |g::r',_,h1=>
    have:g=1:=h1;subst this;exact vL
  obtain⟨a1,a2,a3,a4,a5⟩:=fR (ns:=ns) (r:=eM r [1,n]) (λz hz=>hn z (aa _ hz)) hp (by rw[gR];simp) hd;rw[fS];refine⟨by rw[a1,gR];simp;omega,a2,a3,λx hx hw=>a4 x hx ?_,λx OT=>?_⟩
  .rw[qN hx hr hb (by simp),hw,cQ (hU hx (by decide) hb)]
  .rcases fe.mp OT with rfl|OT
   .refine a4 x N2 ?_;have:dP x [1,x]=0:=by
     show tm (tm 0 x^^^1) x^^^x=0;rw[cQ N2,cx,oW N2,gj]
    rw[qN N2 hr hb (by simp),this,iL]
   .exact a5 x OT
noncomputable def iI (D:List Nat):Nat->Nat->List Nat->List Nat
 |0,_,l=>l
 |m+1,k,l=>iI D m (k+1) (dX l k (mulR (l.getD k 0) D))
theorem mU {D:List Nat}{c:Nat}(hD:Gr D)(Qu:D.length=c+1)(Rh:D.getD 0 0=1):∀(m k:Nat) {l:List Nat},Gr l->k+m+c=l.length->(∀i,i<k->l.getD i 0=0) ->
  (iI D m k l).length=l.length/\Gr (iI D m k l)/\(∀i,i<k+m->(iI D m k l).getD i 0=0)/\∀x,x<64->dP x D=0->dP x (iI D m k l)=dP x l
 |0,k,l,hl,_,hz=>⟨rfl,hl,hz,λ_ _ _=>rfl⟩
 |m+1,k,l,hl,hk,hz=>by
  have Pt:=dN hl k;have mg:=lM Pt hD;have hz':∀i,i<k+1->(dX l k (mulR (l.getD k 0) D)).getD i 0=0:=λi hi=>by
   by_cases h:i<k
   .rw[iE h];exact hz i h
   .have:i=k:=by omega
    subst this
    match D,Rh,Qu with
    |g::D',Rh,_=>
     have:g=1:=Rh;subst this;show (dX l i (tm (l.getD i 0) 1::mulR (l.getD i 0) D')).getD i 0=0;rw[sW (by omega),lz Pt,gj]
  obtain⟨a1,a2,a3,a4⟩:=mU hD Qu Rh m (k+1) (jI hl mg) (by rw[cW];omega) hz';rw[iI];refine⟨by rw[a1,cW],a2,λi hi=>a3 i (by omega),λx hx hw=>?_⟩;rw[a4 x hx hw,ni hx hl mg (by rw[my,Qu];omega),xt hx Pt hD,hw,iL,cQ (bR hx _),gq]
theorem AU {l:List Nat}(h:∀i,i<l.length->l.getD i 0=0):l=ν l.length 0:=by
 apply cj
 .simp
 .intro i hi _;have:=h i hi;rw[ι,τ hi] at this;rw[List.getElem_replicate];exact this
theorem uD {a b a' b':List Nat}(h:a.length=a'.length):eQ (a++b) (a'++b')=eQ a a'++eQ b b':=List.zipWith_append h
theorem wF:∀d:List Nat,eQ d (ν d.length 0)=d
 |[]=>rfl
 |g::r=>by
  show (g^^^0)::eQ r (ν r.length 0)=g::r;rw[gq,wF r]
theorem wL:∀{n:Nat}{q:List Nat},q.length=n->eQ (ν n 0) q=q
 |0,[],_=>rfl
 |n+1,g::r,h=>by
  show (0^^^g)::eQ (ν n 0) r=g::r;rw[cx,wL (by simpa using h)]
 |0,_::_,h=>by simp at h
 |_+1,[],h=>by simp at h
noncomputable def ve (d:List Nat)(c:Nat):List Nat:=(iI (fS [1] (aW c)) d.length 0 (d++ν c 0)).drop d.length
def vc (l:List Nat)(c:Nat):Prop:=∀x∈aW c,dP x l=0
noncomputable instance (l:List Nat) (c:Nat):Decidable (vc l c):=by unfold vc;infer_instance
theorem xr {d:List Nat}(hd:Gr d)(c:Nat):(ve d c).length=c/\Gr (ve d c)/\vc (d++ve d c) c:=by
 obtain⟨n1,n2,n3,_,n5⟩:=fR (ns:=aW c) (r:=[1]) (fD c) (.cons (by decide) .nil) (by decide) rfl;rw[fI] at n1;have n1:(fS [1] (aW c)).length=c+1:=by rw[n1];simp;omega
 have hg:Gr (d++ν c 0):=hd.append (gK c);obtain⟨a1,a2,a3,a4⟩:=mU (c:=c) n2 n1 n3 d.length 0 hg (by simp) (λi hi=>absurd hi (gi i));rw[az,bf] at a1;have hl:(ve d c).length=c:=by rw[ve,gn,a1];omega
 have Na:Gr (ve d c):=λz hz=>a2 z (Ps hz)
 refine⟨hl,Na,λx hx=>?_⟩;have NO:=fD c x hx;have w0:=a4 x NO (n5 x hx);have e:iI (fS [1] (aW c)) d.length 0 (d++ν c 0)=ν d.length 0++ve d c:=by
  conv=>lhs;rw[<-YL d.length (iI (fS [1] (aW c)) d.length 0 (d++ν c 0))]
  congr 1;have Ot:((iI (fS [1] (aW c)) d.length 0 (d++ν c 0)).take d.length).length=d.length:=by rw[dk,a1];omega
  have:=AU (l:=(iI (fS [1] (aW c)) d.length 0 (d++ν c 0)).take d.length) (λi hi=>by
   rw[Ot] at hi;have:=a3 i (by omega);rw[ι] at this ⊢;rw[UV,if_pos hi];exact this)
  rw[Ot] at this;exact this
 rw[e,om NO] at w0;have e2:d++ve d c=eQ (d++ν c 0) (ν d.length 0++ve d c):=by
  have:=uD (a:=d) (b:=ν c 0) (a':=ν d.length 0) (b':=ve d c) (by simp);rw[this,wF,wL hl]
 rw[e2,wH NO (by simp[hl]) hg ((gK _).append Na),om NO,w0,gj]
theorem Co (hx:x<64)(h:x≠0):∀n,pw x n≠0
 |0=>by show 1≠0;decide
 |n+1=>λe=>(fC (bR hx n) hx e).elim (Co hx h n) h
end Fl64
end
section
namespace Pc.Gr
open PySem Pc Pc.Sm
noncomputable abbrev gD (gs:List Nat):List D:=gs.map λ(g:Nat)=>D.int (g:Int)
noncomputable abbrev gI (gs:List Nat):List Int:=gs.map λ(g:Nat)=>(g:Int)
theorem sP (gs:List Nat):gD gs=(gI gs).map D.int:=by rw[aw];rfl
theorem eE (gs:List Nat):D.Lh (gD gs)=ζ:=by rw[sP];exact oR _
theorem eC (a b:List Nat):gD (a++b)=gD a++gD b:=bq ..
theorem aY (a:List Nat):(gD a).length=a.length:=ai ..
noncomputable abbrev sG (gs:List Nat):Slot:=θ (.lst (gD gs),.sh [])
noncomputable abbrev oG (gs:List Nat):Slot:=θ (.lst (gD gs),.own)
variable {gs:List Nat}{i:Nat}
theorem A6 (h:i<gs.length):(gD gs)[i]? = θ (.int ((gs.getD i 0:Nat):Int)):=by
 rw[π,ι,τ h];rfl
theorem mX (h:i<gs.length):EN (.lst (gD gs)) (.int (i:Int))=θ (.int ((gs.getD i 0:Nat):Int)):=by
 show (Pc.kQ (gD gs).length (i:Int)).bind (λj=>(gD gs)[j]?)=_;rw[hZ (by rw[aY];exact h)];exact A6 h
theorem oE (gs:List Nat)(i g:Nat):(gD gs).set i (.int (g:Int))=gD (gs.set i g):=by rw[gD,gD,List.map_set]
def iV (T:Tb)(t:Nat):Prop:=∀a b:Nat,b<64->T.cl t [.int (a:Int),.int (b:Int)]=.ok (.int ((Fl64.tm a b:Nat):Int),ζ)
noncomputable def qv (t:Nat):bJ:=(.cons (.ite (.cmp .Eq (.bin .Mod KQ Ku) Kv) (.cons (.asg (.nm 2) (.call t (La KR KS)) ε)
  .nil) .nil)
  (.cons (.asg (.nm 3) (.call t (La KS KS)) ε)
  (.cons (.asg (.nm 4) (.bin .FloorDiv KQ Ku) ε)
  .nil)))
noncomputable def HZ (t:Nat):bJ:=(.cons (.asg (.nm 2) Kv ε)
  (.cons (.asg (.nm 3) KU ε)
  (.cons (.asg (.nm 4) KW ε)
  (.cons (.Oc (.cmp .Gt KQ Kw) (qv t))
  (.cons (.ret KR)
  .nil)))))
variable {T:Tb}{t:Nat}
theorem pow_step (A K p s l x y:Int)(hx:l%2=1->T.cl t [.int p,.int s]=.ok (.int x,ζ))(LM:l%2≠1->x=p)(hy:T.cl t [.int s,.int s]=.ok (.int y,ζ)):aE T (qv t) [sI A,sI K,sI p,sI s,sI l]=.nx [sI A,sI K,sI x,sI y,sI (l / 2)]:=by
 have e1:(l%2==1)=decide (l%2=1):=rfl;by_cases h1:l%2=1
 .have hx:=hx h1;simp[e1,qv,aE,bC,ev,bL,aB,aP,aL,aS,Pc.binI,mE,D.Lq,truth,D.flat,cU,mW,put,Tg.drop,aD,h1,hx,hy]
 .have:=LM h1;subst this;simp[e1,qv,aE,bC,ev,bL,aB,aP,aL,aS,Pc.binI,mE,D.Lq,truth,D.flat,cU,mW,put,Tg.drop,aD,h1,hy]
theorem wX {T:Tb}(ht:iV T t)(A K:Int):∀(n fuel p s l:Nat),l<2 ^ n->n<fuel->s<64 ->
  ∃s' l':Int,ka (λenv=>(ev T (.cmp .Gt KQ Kw) env).bind λp=>gQ (truth p.1)) (aE T (qv t)) fuel [sI A,sI K,sN p,sN s,sN l]=.nx [sI A,sI K,sN (Fl64.JL n p s l),sI s',sI l']
 |n,0,p,s,l,_,Qp,_=>absurd Qp (gi _)
 |0,fuel+1,p,s,l,hl,_,_=>by
  have:l=0:=by simpa using hl
  subst this;refine⟨s,0,?_⟩;rw[ka,j8];rfl
 |n+1,fuel+1,p,s,l,hl,hn,hs=>by
  rw[ka,j8,aP];by_cases h0:l=0
  .subst h0;refine⟨s,0,?_⟩;rfl
  .have hp:decide ((0:Int)<(l:Int))=ζ:=by rw[c9];omega
   rw[if_pos hp,pow_step A K p s l ((if l%2=1 then Fl64.tm p s else p:Nat):Int) ((Fl64.tm s s:Nat):Int) (λh=>by rw[if_pos (by omega)];exact ht p s hs) (λh=>by rw[if_neg (by omega)]) (ht s s hs)];have e3:(l:Int) / 2=((l / 2:Nat):Int):=by omega
   rw[e3];obtain⟨s',l',h⟩:=wX ht A K n fuel (if l%2=1 then Fl64.tm p s else p) (Fl64.tm s s) (l / 2) (by rw[jv] at hl;omega) (by omega) (Fl64.bN hs hs);refine⟨s',l',?_⟩;dsimp only;rw[h]
   conv=>rhs;unfold Fl64.JL
   rw[if_neg h0]
theorem HG (ht:iV T t)(hfu:41<=T.fuel)(a k:Nat)(ha:a<64)(hk:k<2 ^ 40):Pc.ret (aE T (HZ t) (aF [.int (a:Int),.int (k:Int)] 5))=.ok (.int ((Fl64.pw a k:Nat):Int),ζ):=by
 have Lu:aF [.int (a:Int),.int (k:Int)] 5=[sN a,sN k,η,η,η]:=rfl;rw[Lu];unfold HZ;have h1:bC T (.asg (.nm 2) Kv ε) [sN a,sN k,η,η,η]=.nx [sN a,sN k,sN 1,η,η]:=rfl;have h2:bC T (.asg (.nm 3) KU ε) [sN a,sN k,sN 1,η,η]=.nx [sN a,sN k,sN 1,sN a,η]:=rfl;have h3:bC T (.asg (.nm 4) KW ε) [sN a,sN k,sN 1,sN a,η]=.nx [sN a,sN k,sN 1,sN a,sN k]:=rfl;rw[aE,h1,aD,aE,h2,aD,aE,h3,aD,aE];obtain⟨d',l',h⟩:=wX (T:=T) ht a k 40 T.fuel 1 a k hk (by omega) ha;rw[Fl64.uV 40 1 a k hk (by decide) ha,Fl64.oW (Fl64.bR ha k)] at h;have h4:bC T (.Oc (.cmp .Gt KQ Kw) (qv t)) [sN a,sN k,sN 1,sN a,sN k]=.nx [sN a,sN k,sN (Fl64.pw a k),sI d',sI l']:=by
  rw[bC];exact h
 rw[h4,aD];show Pc.ret (aE T (.cons (.ret KR) .nil) [sN a,sN k,sI ((Fl64.pw a k:Nat):Int),sI d',sI l'])=_;generalize ((Fl64.pw a k:Nat):Int)=x;rfl
noncomputable def xV (t:Nat):bJ:=(.cons (.asg (.nm 2) (.bin .BitXor (.call t (La KR KW)) KS) ε)
  .nil)
noncomputable def Gh (t:Nat):bJ:=(.cons (.asg (.nm 2) Kw ε)
  (.cons (.Li (.nm 3) (.seq KU) (xV t))
  (.cons (.ret KR)
  .nil)))
theorem Ic (x w g y:Int)(d:D)(h:T.cl t [.int w,.int x]=.ok (.int y,ζ)):aE T (xV t) [θ (d,.sh []),sI x,sI w,sI g]=.nx [θ (d,.sh []),sI x,sI (Ρ y g),sI g]:=by
 simp[xV,aE,bC,ev,bL,aB,aP,aL,aS,Pc.binI,D.flat,cU,mW,put,Tg.drop,aD,h]
theorem Ad (ht:iV T t)(d:D)(x:Nat)(hx:x<64):∀(gs:List Nat) (w:Nat) (o:Slot),∃o',bU (.nm 3) [] (aE T (xV t)) (gD gs) [θ (d,.sh []),sN x,sN w,o]=.nx [θ (d,.sh []),sN x,sN (Fl64.iW x w gs),o']
 |[],w,o=>⟨o,rfl⟩
 |g::r,w,o=>by
  obtain⟨o',h⟩:=Ad ht d x hx r (Fl64.tm w x^^^g) (sN g);refine⟨o',?_⟩;rw[gD,av,bU];have hb:be [] (.nm 3) (.int (g:Int)) [θ (d,.sh []),sN x,sN w,o]=θ [θ (d,.sh []),sN x,sN w,sN g]:=by
   simp[be,put,Tg.drop,dJ,D.flat]
  rw[hb];dsimp only;rw[Ic x w g ((Fl64.tm w x:Nat):Int) d (ht w x hx),gG];exact h
theorem Ih (ht:iV T t)(gs:List Nat)(x:Nat)(hx:x<64):Pc.ret (aE T (Gh t) (aF [.lst (gD gs),.int (x:Int)] 4))=.ok (.int ((Fl64.dP x gs:Nat):Int),ζ):=by
 have Lu:aF [.lst (gD gs),.int (x:Int)] 4=[sG gs,sN x,η,η]:=rfl;rw[Lu];unfold Gh;have h1:bC T (.asg (.nm 2) Kw ε) [sG gs,sN x,η,η]=.nx [sG gs,sN x,sN 0,η]:=rfl;obtain⟨o',h⟩:=Ad ht (.lst (gD gs)) x hx gs 0 η;have hit:fU T (.seq KU) [sG gs,sN x,sN 0,η]=.ok (gD gs,[]):=rfl;have h2:=cP hit h;rw[aE,h1,aD,aE,h2,aD];show _=Rs.ok (D.int ((Fl64.iW x 0 gs:Nat):Int),ζ);generalize Fl64.iW x 0 gs=y;simp[aE,bC,ev,aP,D.flat,mH,Pc.ret,bV]
noncomputable abbrev Ct (k:Nat)(gs:List Nat):List D:=(gs.zipIdx k).map λ(q:Nat×Nat)=>D.tup [.int (q.2:Int),.int (q.1:Int)]
theorem Av (gs:List Nat):((gD gs).zipIdx.map λ(q:D×Nat)=>D.tup [.int q.2,q.1])=Ct 0 gs:=by
 rw[gD,List.zipIdx_map,aw];rfl
theorem lO (k g:Nat)(gs:List Nat):Ct k (g::gs)=.tup [.int (k:Int),.int (g:Int)]::Ct (k+1) gs:=by
 rw[Ct,List.zipIdx_cons,av]
noncomputable def uH (t x p i j f:Nat):bJ:=(.cons (.Lv x .none (.bin .Add (.var p) (.var i)) (.bin .BitXor (.ix (.var x) (.bin .Add (.var p) (.var i))) (.call t (La (.var f) (.var j)))))
  .nil)
variable {env:En}{l:List Nat}
theorem BJ {x p j f:Nat}(ht:iV T t)(tm:Tame env){P S F G:Nat}(hx:env[x]? = θ (oG l))(hp:env[p]? = θ (sN P))(hi:env[i]? = θ (sN S))(hj:env[j]? = θ (sN G))(hf:env[f]? = θ (sN F))(hG:G<64)(hl:P+S<l.length)(hlen:l.length<=1000) :
  aE T (uH t x p i j f) env=.nx (env.set x (oG (l.set (P+S) (l.getD (P+S) 0^^^Fl64.tm F G)))):=by
 have vp:ev T (.var p) env=.ok (.int (P:Int),.mv []):=aJ hp rfl;have vi:ev T (.var i) env=.ok (.int (S:Int),.mv []):=aJ hi rfl;have vj:ev T (.var j) env=.ok (.int (G:Int),.mv []):=aJ hj rfl;have vf:ev T (.var f) env=.ok (.int (F:Int),.mv []):=aJ hf rfl;have vx:ev T (.var x) env=.ok (.lst (gD l),.mv [x]):=bP hx rfl;have e1:ev T (.bin .Add (.var p) (.var i)) env=.ok (.int ((P+S:Nat):Int),.mv []):=by
  rw[ev,vp,aB,vi,aB,aS];show (gQ (θ (D.int ((P:Int)+(S:Int))))).bind _=_;rw[show (P:Int)+(S:Int)=((P+S:Nat):Int) by omega];rfl
 have e2:ev T (.ix (.var x) (.bin .Add (.var p) (.var i))) env=.ok (.int ((l.getD (P+S) 0:Nat):Int),.mv []):=by
  rw[ev,vx,aB,e1,aB,mX hl,aL,aB];rfl
 have e3:=cJ vf vj (ht F G hG);have e4:ev T (.bin .BitXor (.ix (.var x) (.bin .Add (.var p) (.var i))) (.call t (La (.var f) (.var j)))) env=.ok (.int ((l.getD (P+S) 0^^^Fl64.tm F G:Nat):Int),.mv []):=by
  rw[ev,e2,aB,e3,aB,aS];show (gQ (θ (D.int (Ρ ((l.getD (P+S) 0:Nat):Int) ((Fl64.tm F G:Nat):Int))))).bind _=_;rw[gG];rfl
 have:=lV (T:=T) tm hx e1 (hZ (by rw[aY];exact hl)) e4 (by rw[aY];exact cY hlen);unfold uH;rw[aE,this,aD,oE];rfl
theorem pj {T:Tb}{x p i j f:Nat}{R:List Nat}(ht:iV T t){P F:Nat}(Wt:x≠i)(Ws:x≠j)(Rc:i≠j)(Wx:p≠i)(Ww:p≠j)(OV:p≠x)(WH:f≠i)(WG:f≠j)(WE:f≠x):∀(m:List Nat) (k:Nat) (l:List Nat) (env:En),Tame env->i<env.length->j<env.length->env[x]? = θ (oG l)->env[p]? = θ (sN P)->env[f]? = θ (sN F)->Fl64.Gr m->P+k+m.length<=l.length->l.length<=1000 ->
  ∃e:En,bU (.tp [i,j]) R (aE T (uH t x p i j f)) (Ct k m) env=.nx e/\Tame e/\e.length=env.length/\e[x]? = θ (oG (Fl64.dX l (P+k) (Fl64.mulR F m)))/\∀y,y≠x->y≠i->y≠j->e[y]? = env[y]?
 |[],k,l,env,te,_,_,hx,_,_,_,_,_=>⟨env,rfl,te,rfl,hx,λ_ _ _ _=>rfl⟩
 |g::m,k,l,env,te,hi,hj,hx,hp,hf,hm,hl,hlen=>by
  have O1:P+k+(m.length+1)<=l.length:=by simpa using hl
  have NS:x<env.length:=(ο.mp hx).1;have hb:=fX (R:=R) (x:=.int (k:Int)) (y:=.int (g:Int)) te hi hj rfl rfl;have LX:Tame ((env.set i (θ (.int (k:Int),.own))).set j (θ (.int (g:Int),.own))):=(te.set (aC _) i).set (aC _) j;have q1:((env.set i (θ (.int (k:Int),.own))).set j (θ (.int (g:Int),.own)))[x]? = θ (oG l):=by
   rw[μ (cv Ws),μ (cv Wt)];exact hx
  have q2:((env.set i (θ (.int (k:Int),.own))).set j (θ (.int (g:Int),.own)))[p]? = θ (sN P):=by
   rw[μ (cv Ww),μ (cv Wx)];exact hp
  have q3:((env.set i (θ (.int (k:Int),.own))).set j (θ (.int (g:Int),.own)))[i]? = θ (sN k):=by
   rw[μ (cv Rc),ξ hi]
  have q4:((env.set i (θ (.int (k:Int),.own))).set j (θ (.int (g:Int),.own)))[j]? = θ (sN g):=ξ (by rw[ak];exact hj);have q5:((env.set i (θ (.int (k:Int),.own))).set j (θ (.int (g:Int),.own)))[f]? = θ (sN F):=by
   rw[μ (cv WG),μ (cv WH)];exact hf
  have st:=BJ ht LX q1 q2 q3 q4 q5 (hm g ag) (by omega) hlen;generalize hE:(env.set i (θ (.int (k:Int),.own))).set j (θ (.int (g:Int),.own))=E1 at *;have Rg:E1.length=env.length:=by rw[<-hE];simp
  have Nm:Tame (E1.set x (oG (l.set (P+k) (l.getD (P+k) 0^^^Fl64.tm F g)))):=LX.set (aC _) x;obtain⟨e,r1,r2,r3,r4,r5⟩:=pj ht (R:=R) (P:=P) (F:=F) Wt Ws Rc Wx Ww OV WH WG WE m (k+1) (l.set (P+k) (l.getD (P+k) 0^^^Fl64.tm F g)) (E1.set x (oG (l.set (P+k) (l.getD (P+k) 0^^^Fl64.tm F g)))) Nm (by simp[Rg];exact hi) (by simp[Rg];exact hj)
   (ξ (by rw[Rg];exact NS)) (by rw[μ (cv OV)];exact q2) (by rw[μ (cv WE)];exact q5) (λz hz=>hm z (aa _ hz)) (by rw[ak];omega) (by rw[ak];exact hlen)
  refine⟨e,?_,r2,by rw[r3,ak,Rg],?_,λy y1 y2 y3=>?_⟩
  .rw[lO,bU,hb];dsimp only;rw[st];exact r1
  .rw[r4];rfl
  .rw[r5 y y1 y2 y3,μ (cv y1),<-hE,μ (cv y3),μ (cv y2)]
noncomputable def zJ (t:Nat):bJ:=(.cons (.Li (.tp [5,6]) (.enum KW) (uH t 2 3 5 6 4))
  .nil)
noncomputable def UO (t:Nat):bJ:=(.cons (.asg (.nm 2) (.bin .Mult (.lst (K9 Kw)) (.bin .Sub (.bin .Add (Ld KU) (Ld KW)) Kv)) ε)
  (.cons (.Li (.tp [3,4]) (.enum KU) (zJ t))
  (.cons (.ret KR)
  .nil)))
theorem xm (T:Tb){env:En}{i:Nat}{gs:List Nat}(h:env[i]? = θ (sG gs)):fU T (.enum (.var i)) env=.ok (Ct 0 gs,[]):=by
 have hv:ev T (.var i) env=.ok (.lst (gD gs),.sh []):=by
  rw[ev,h];rfl
 rw[fU,hv,aB];show (Rs.ok (gD gs)).bind _=_;rw[aB,Av];rfl
variable {b:List Nat}
theorem xM (ht:iV T t)(hb:Fl64.Gr b)(O4:0<b.length):∀(a:List Nat) (k:Nat) (l:List Nat) (env:En),Tame env->env.length=7->env[1]? = θ (sG b)->env[2]? = θ (oG l)->Fl64.Gr a->k+a.length+b.length=l.length+1->l.length<=1000 ->
  ∃e:En,bU (.tp [3,4]) [] (aE T (zJ t)) (Ct k a) env=.nx e/\Tame e/\e.length=7/\e[2]? = θ (oG (Fl64.fN l k a b))
 |[],k,l,env,te,hl,_,h2,_,_,_=>⟨env,rfl,te,hl,h2⟩
 |g::a,k,l,env,te,hl,h1,h2,ha,hk,hlen=>by
  have MJ:k+(a.length+1)+b.length=l.length+1:=by simpa using hk
  have bp:=fX (R:=[]) (x:=.int (k:Int)) (y:=.int (g:Int)) (i:=3) (j:=4) te (by omega) (by omega) rfl rfl;have LX:Tame ((env.set 3 (θ (.int (k:Int),.own))).set 4 (θ (.int (g:Int),.own))):=(te.set (aC _) 3).set (aC _) 4;have q1:((env.set 3 (θ (.int (k:Int),.own))).set 4 (θ (.int (g:Int),.own)))[1]? = θ (sG b):=by
   rw[μ (by decide),μ (by decide)];exact h1
  have q2:((env.set 3 (θ (.int (k:Int),.own))).set 4 (θ (.int (g:Int),.own)))[2]? = θ (oG l):=by
   rw[μ (by decide),μ (by decide)];exact h2
  have q3:((env.set 3 (θ (.int (k:Int),.own))).set 4 (θ (.int (g:Int),.own)))[3]? = θ (sN k):=by
   rw[μ (by decide),ξ (by omega)]
  have q4:((env.set 3 (θ (.int (k:Int),.own))).set 4 (θ (.int (g:Int),.own)))[4]? = θ (sN g):=ξ (by rw[ak];omega);have ql:((env.set 3 (θ (.int (k:Int),.own))).set 4 (θ (.int (g:Int),.own))).length=7:=by simp[hl]
  generalize (env.set 3 (θ (.int (k:Int),.own))).set 4 (θ (.int (g:Int),.own))=E1 at *;obtain⟨e1,r1,r2,r3,r4,r5⟩:=pj (T:=T) (x:=2) (p:=3) (i:=5) (j:=6) (f:=4) (R:=[]) ht (P:=k) (F:=g) (by decide) (by decide) (by decide) (by decide) (by decide) (by decide) (by decide) (by decide) (by decide) b 0 l E1 LX (by omega) (by omega) q2 q3 q4 hb (by omega) hlen;have st:aE T (zJ t) E1=.nx e1:=by
   unfold zJ;rw[aE,cP (xm T q1) r1,aD];rfl
  obtain⟨e,s1,s2,s3,s4⟩:=xM ht hb O4 a (k+1) (Fl64.dX l (k+0) (Fl64.mulR g b)) e1 r2 (by omega) (by rw[r5 1 (by decide) (by decide) (by decide)];exact q1) r4 (λz hz=>ha z (aa _ hz)) (by rw[Fl64.cW];omega) (by rw[Fl64.cW];exact hlen);refine⟨e,?_,s2,s3,s4⟩;rw[lO,bU,bp];dsimp only;rw[st];exact s1
theorem ub:∀n:Nat,(ν n [D.int 0]).flatten=gD (ν n 0)
 |0=>rfl
 |n+1=>by
  rw[dq,dz,ub n,dq];rfl
theorem mS (n:Nat)(hn:n<=1000):mR .Mult (.lst [.int 0]) (.int (n:Int))=θ (.lst (gD (ν n 0))):=by
 have h : -(2 ^ 63:Int)<=(n:Int)/\(n:Int)<2 ^ 63:=⟨by omega,by omega⟩;have hf:D.Lh [D.int 0]=ζ:=rfl;simp only[mR];rw[if_pos h,if_pos hf,bo,ub];unfold ck;rw[if_pos (cY (by simp;omega))]
theorem wG (gs:List Nat):kS .len [.lst (gD gs)]=θ (.int (gs.length:Int)):=by
 show θ (D.int ((gD gs).length:Int))=_;rw[aY]
theorem iO {T:Tb}{env:En}{i:Nat}{gs:List Nat}{t:Tg}(h:env[i]? = θ (θ (.lst (gD gs),t))):ev T (Ld (.var i)) env=.ok (.int (gs.length:Int),.mv []):=by
 obtain⟨R,hv⟩:=wI (T:=T) h;have h1:bL T (K9 (.var i)) env=.ok [(.lst (gD gs),R)]:=by
  rw[bL,hv,aB];rfl
 rw[ev,h1,aB,ya,wG,aL,aB,cU]
theorem II (ht:iV T t){a:List Nat}(ha:Fl64.Gr a)(hb:Fl64.Gr b)(O4:0<b.length)(hl:a.length+b.length<=1000):Pc.ret (aE T (UO t) (aF [.lst (gD a),.lst (gD b)] 7))=.ok (.lst (gD (Fl64.eM a b)),ζ):=by
 have Lu:aF [.lst (gD a),.lst (gD b)] 7=[sG a,sG b,η,η,η,η,η]:=rfl;rw[Lu];have t0:Tame [sG a,sG b,η,η,η,η,η]:=.cons (aM _) (.cons (aM _) (.cons aH (.cons aH (.cons aH (.cons aH (.cons aH .nil))))));have e1:ev T (.bin .Sub (.bin .Add (Ld KU) (Ld KW)) Kv) [sG a,sG b,η,η,η,η,η]=.ok (.int ((a.length+b.length-1:Nat):Int),.mv []):=by
  have l0:=iO (T:=T) (env:=[sG a,sG b,η,η,η,η,η]) (i:=0) (gs:=a) (t:=.sh []) rfl;have l1:=iO (T:=T) (env:=[sG a,sG b,η,η,η,η,η]) (i:=1) (gs:=b) (t:=.sh []) rfl;have e:((a.length+b.length-1:Nat):Int)=(a.length:Int)+(b.length:Int)-1:=by omega
  rw[e];generalize (a.length:Int)=A at l0;generalize (b.length:Int)=B at l1;have q:ev T (.bin .Add (Ld KU) (Ld KW)) [sG a,sG b,η,η,η,η,η]=.ok (.int (A+B),.mv []):=by
   rw[ev,l0,aB,l1,aB];rfl
  rw[ev,q,aB];rfl
 have e2:ev T (.bin .Mult (.lst (K9 Kw)) (.bin .Sub (.bin .Add (Ld KU) (Ld KW)) Kv)) [sG a,sG b,η,η,η,η,η]=.ok (.lst (gD (ν (a.length+b.length-1) 0)),.mv []):=by
  have q:ev T (.lst (K9 Kw)) [sG a,sG b,η,η,η,η,η]=.ok (.lst [.int 0],.mv []):=rfl;rw[ev,q,aB,e1,aB,mS _ (by omega),aL,aB,cB (eE _)]
 have g1:=bI (T:=T) (i:=2) t0 (by simp) e2;obtain⟨e,r1,r2,r3,r4⟩:=xM ht hb O4 a 0 (ν (a.length+b.length-1) 0) [sG a,sG b,oG (ν (a.length+b.length-1) 0),η,η,η,η] (.cons (aM _) (.cons (aM _) (.cons (aC _) (.cons aH (.cons aH (.cons aH (.cons aH .nil))))))) rfl rfl rfl ha (by rw[bf];omega) (by rw[bf];omega);have g2:=cP (xm T (env:=[sG a,sG b,oG (ν (a.length+b.length-1) 0),η,η,η,η]) (i:=0) rfl) r1;unfold UO;rw[aE,g1,aD,aE];show Pc.ret ((bC T (.Li (.tp [3,4]) (.enum KU) (zJ t)) [sG a,sG b,oG (ν (a.length+b.length-1) 0),η,η,η,η]).andThen _)=_;rw[g2,aD];have hv:ev T KR e=.ok (.lst (gD (Fl64.eM a b)),.mv [2]):=bP r4 rfl;rw[aE,bC,hv,aP];have ho:bV e [2]=ζ:=by
  simp[bV,r4]
 show Pc.ret ((Fl.rt (.lst (gD (Fl64.eM a b))) (bV e [2])).andThen _)=_;rw[ho];rfl
def zR (T:Tb)(rp:Nat):Prop:=∀a b:List Nat,Fl64.Gr a->Fl64.Gr b->0<b.length->a.length+b.length<=1000->T.cl rp [.lst (gD a),.lst (gD b)]=.ok (.lst (gD (Fl64.eM a b)),ζ)
noncomputable def wd (rp:Nat):bJ:=(.cons (.asg (.nm 1) (.call rp (La KW (.lst (La Kv KR)))) ε)
  .nil)
noncomputable def UP (rp:Nat):bJ:=(.cons (.asg (.nm 1) (.lst (K9 Kv)) ε)
  (.cons (.Li (.nm 2) (.seq KU) (wd rp))
  (.cons (.ret KW)
  .nil)))
variable {rp:Nat}
theorem xw (h:zR T rp)(N:List Nat):∀(ns r:List Nat) (o:Slot),cH o->Fl64.Gr ns->Fl64.Gr r->0<r.length->r.length+ns.length+2<=1000->∃o',cH o'/\bU (.nm 2) [] (aE T (wd rp)) (gD ns) [sG N,oG r,o]=.nx [sG N,oG (Fl64.fS r ns),o']
 |[],r,o,ho,_,_,_,_=>⟨o,ho,rfl⟩
 |n::ns,r,o,ho,hn,hr,h0,hl=>by
  have N2:=hn n ag;have hb:Fl64.Gr [1,n]:=.cons (by decide) (.cons N2 .nil);have O1:r.length+(ns.length+1)+2<=1000:=by simpa using hl
  have pl:(Fl64.eM r [1,n]).length=r.length+1:=by rw[Fl64.gR];simp
  obtain⟨o',M9,q⟩:=xw h N ns (Fl64.eM r [1,n]) (sN n) (aC _) (λz hz=>hn z (aa _ hz)) (Fl64.kl hr hb) (by omega) (by omega);refine⟨o',M9,?_⟩;have bd:=gH (i:=2) (d:=.int (n:Int)) (env:=[sG N,oG r,o]) (.cons (aM _) (.cons (aC _) (.cons ho .nil))) (by simp);have v1:ev T KW [sG N,oG r,sN n]=.ok (.lst (gD r),.mv [1]):=bP rfl rfl;have e2:ev T (.lst (La Kv KR)) [sG N,oG r,sN n]=.ok (.lst (gD [1,n]),.mv []):=by
   show ev T (.lst (La Kv KR)) [sG N,oG r,sI (n:Int)]=.ok (.lst [.int 1,.int (n:Int)],.mv []);generalize (n:Int)=K;rfl
  have g:=bI (T:=T) (i:=1) (env:=[sG N,oG r,sN n]) (.cons (aM _) (.cons (aC _) (.cons (aC _) .nil))) (by simp) (cJ v1 e2 (h r [1,n] hr hb (by simp) (by simp;omega)));have st:aE T (wd rp) [sG N,oG r,sN n]=.nx [sG N,oG (Fl64.eM r [1,n]),sN n]:=by
   unfold wd;rw[aE,g,aD];rfl
  rw[gD,av,bU,bd];show (match aE T (wd rp) [sG N,oG r,sN n] with
   |.nx e=>bU (.nm 2) [] (aE T (wd rp)) (gD ns) e
   |.ct e=>bU (.nm 2) [] (aE T (wd rp)) (gD ns) e
   |.bk e=>.nx e
   |x=>x)=_
  rw[st];exact q
theorem IL (h:zR T rp){ns:List Nat}(hn:Fl64.Gr ns)(hl:ns.length<=900):Pc.ret (aE T (UP rp) (aF [.lst (gD ns)] 3))=.ok (.lst (gD (Fl64.fS [1] ns)),ζ):=by
 have Lu:aF [.lst (gD ns)] 3=[sG ns,η,η]:=rfl;rw[Lu];have g1:bC T (.asg (.nm 1) (.lst (K9 Kv)) ε) [sG ns,η,η]=.nx [sG ns,oG [1],η]:=rfl;obtain⟨o',_,q⟩:=xw h ns ns [1] η aH hn (.cons (by decide) .nil) (by decide) (by simp;omega);have hit:fU T (.seq KU) [sG ns,oG [1],η]=.ok (gD ns,[]):=rfl;have g2:=cP hit q;have hv:ev T KW [sG ns,oG (Fl64.fS [1] ns),o']=.ok (.lst (gD (Fl64.fS [1] ns)),.mv [1]):=bP rfl rfl;unfold UP;rw[aE,g1,aD,aE,g2,aD,aE,bC,hv,aP];rfl
def Di (T:Tb)(pw:Nat):Prop:=∀a k:Nat,a<64->k<2 ^ 40->T.cl pw [.int (a:Int),.int (k:Int)]=.ok (.int ((Fl64.pw a k:Nat):Int),ζ)
noncomputable def Xm (pw:Nat):bJ:=(.cons (.ret (.comp 1 [] (.nm 0) (.M0 Kv (.bin .Add KU Kv)) .none (.call pw (La Ku KU))))
  .nil)
theorem fP:∀(m a:Nat),cN (a:Int) 1 m=(rc a m).map λ(k:Nat)=>D.int (k:Int)
 |0,a=>rfl
 |m+1,a=>by
  rw[cN,List.range'_succ,av,<-fP m (a+1)];congr 2
theorem IP {pw:Nat}(h:Di T pw)(c:Nat)(hc:c<=900):Pc.ret (aE T (Xm pw) (aF [.int (c:Int)] 1))=.ok (.lst (gD (Fl64.aW c)),ζ):=by
 have Lu:aF [.int (c:Int)] 1=[sI (c:Int)]:=rfl;rw[Lu];refine fY ?_;have hit:fU T (.M0 Kv (.bin .Add KU Kv)) [sI (c:Int)]=.ok ((rc 1 c).map (λ(k:Nat)=>D.int (k:Int)),[]):=by
  have ho:me ((c:Int)+1)=ζ:=by
   have:=qq (n:=c+1) (by omega);rw[show ((c+1:Nat):Int)=(c:Int)+1 by omega] at this;exact this
  have e:((c:Int)+1-1).toNat=c:=by omega
  have q:∀C:Int,me (C+1)=ζ->fU T (.M0 Kv (.bin .Add KU Kv)) [sI C]=.ok (cN 1 1 (C+1-1).toNat,[]):=λC hC=>by
   have v:ev T (.bin .Add KU Kv) [sI C]=.ok (.int (C+1),.mv []):=rfl;have v1:ev T Kv [sI C]=.ok (.int 1,.mv []):=rfl;rw[fU,v1,aB,v,aB];show (if me 1&&me (C+1) then Rs.ok (cN 1 1 (C+1-1).toNat,[]) else .bad)=_;rw[hC];rfl
  rw[q _ ho,e];have:=fP c 1;rw[show ((1:Nat):Int)=1 from rfl] at this;rw[this]
 rw[l9 (g:=λd=>match d with|.int k=>(.int ((Fl64.pw 2 k.toNat:Nat):Int),.mv [])|_=>(.Lj,.mv [])) hit (by rw[ai,Zb];exact cY (by omega)) (λd hd=>?_) (λd hd=>?_)]
 .unfold Fl64.aW;rw[gD,aw,aw];congr 2
 .obtain⟨k,hk,rfl⟩:=χ.mp hd;have hk:k<=c:=by
   have:=Zq.mp hk;omega
  have hb:be [] (.nm 0) (.int (k:Int)) (aO [sI (c:Int)] 1 [])=θ [sN k]:=rfl;rw[hb];have v0:ev T KU [sN k]=.ok (.int (k:Int),.mv []):=aJ rfl rfl;have v2:ev T Ku [sN k]=.ok (.int ((2:Nat):Int),.mv []):=rfl;have he:=cJ v2 v0 (h 2 k (by decide) (by omega));simp only[bM,nT,aB,if_true,he,bo]
 .obtain⟨k,hk,rfl⟩:=χ.mp hd;rfl
def zE (T:Tb)(cn:Nat):Prop:=∀c:Nat,c<=900->T.cl cn [.int (c:Int)]=.ok (.lst (gD (Fl64.aW c)),ζ)
def vK (T:Tb)(wa:Nat):Prop:=∀(gs:List Nat) (x:Nat),x<64->T.cl wa [.lst (gD gs),.int (x:Int)]=.ok (.int ((Fl64.dP x gs:Nat):Int),ζ)
noncomputable def Rl (cn wa:Nat):Ex:=.comp 1 [0] (.nm 0) (.seq (.call cn (K9 KW))) .none (.cmp .Eq (.call wa (La KW KU)) Kw)
noncomputable def Xl (cn wa:Nat):bJ:=(.cons (.ret (.blt .all (.cons (Rl cn wa) .nil)))
  .nil)
theorem tY:∀(bs:List Bool),(bs.map D.bl).all D.Ma=ζ/\allB (bs.map D.bl)=θ (bs.all id)
 |[]=>⟨rfl,rfl⟩
 |b::r=>by
  obtain⟨h1,h2⟩:=tY r;refine⟨by simp[D.Ma],?_⟩;cases b
  .rfl
  .show allB (r.map D.bl)=_;rw[h2];simp
variable {cn:Nat}
theorem Kg {wa:Nat}(TB:zE T cn)(hwa:vK T wa)(gs:List Nat)(c:Nat)(hc:c<=900):Pc.ret (aE T (Xl cn wa) (aF [.lst (gD gs),.int (c:Int)] 2))=.ok (.bl (decide (Fl64.vc gs c)),ζ):=by
 have Lu:aF [.lst (gD gs),.int (c:Int)] 2=[sG gs,sN c]:=rfl;rw[Lu];have v1:ev T KW [sG gs,sN c]=.ok (.int (c:Int),.mv []):=aJ rfl rfl;have hit:fU T (.seq (.call cn (K9 KW))) [sG gs,sN c]=.ok (gD (Fl64.aW c),[]):=by
  rw[fU,kC v1 (TB c hc),aB];rfl
 have he:ev T (Rl cn wa) [sG gs,sN c]=.ok (.lst (((Fl64.aW c).map λx=>decide (Fl64.dP x gs=0)).map D.bl),.mv []):=by
  unfold Rl;rw[l9 (g:=λd=>match d with|.int k=>(.bl (decide (Fl64.dP k.toNat gs=0)),.mv [])|_=>(.Lj,.mv [])) hit (by rw[aY,Fl64.fI];exact cY (by omega)) (λd hd=>?_) (λd hd=>?_)]
  .rw[gD,aw,aw];congr 2
  .obtain⟨x,hx,rfl⟩:=χ.mp hd;have NO:=Fl64.fD c x hx;have hb:be [] (.nm 0) (.int (x:Int)) (aO [sG gs,sN c] 1 [0])=θ [sN x,sG gs]:=rfl;rw[hb];have w0:ev T KU [sN x,sG gs]=.ok (.int (x:Int),.mv []):=aJ rfl rfl;have w1:ev T KW [sN x,sG gs]=.ok (.lst (gD gs),.sh []):=rfl;have e1:=cJ w1 w0 (hwa gs x NO);have e2:ev T (.cmp .Eq (.call wa (La KW KU)) Kw) [sN x,sG gs]=.ok (.bl (decide (Fl64.dP x gs=0)),.mv []):=by
    have v:ev T Kw [sN x,sG gs]=.ok (.int 0,.mv []):=rfl;rw[ev,e1,aB,v,aB];show (gQ (θ (((Fl64.dP x gs:Nat):Int)==0))).bind _=_;have:(((Fl64.dP x gs:Nat):Int)==0)=decide (Fl64.dP x gs=0):=by
     rw[fk,beq_iff_eq,c9];omega
    rw[this];rfl
   simp only[bM,nT,aB,if_true,e2,bo]
  .obtain⟨x,hx,rfl⟩:=χ.mp hd;rfl
 refine fY ?_;have h1:bL T (.cons (Rl cn wa) .nil) [sG gs,sN c]=.ok [(.lst (((Fl64.aW c).map λx=>decide (Fl64.dP x gs=0)).map D.bl),.mv [])]:=by
  rw[bL,he,aB];rfl
 obtain⟨a1,a2⟩:=tY ((Fl64.aW c).map λx=>decide (Fl64.dP x gs=0));have hb:kS .all [.lst (((Fl64.aW c).map λx=>decide (Fl64.dP x gs=0)).map D.bl)]=θ (.bl (decide (Fl64.vc gs c))):=by
  show (if (((Fl64.aW c).map λx=>decide (Fl64.dP x gs=0)).map D.bl).all D.Ma then (allB (((Fl64.aW c).map λx=>decide (Fl64.dP x gs=0)).map D.bl)).map D.bl else η)=_;rw[if_pos a1,a2];have:(((Fl64.aW c).map λx=>decide (Fl64.dP x gs=0)).all id)=decide (Fl64.vc gs c):=by
   rw[fk,cz,c9];simp[Fl64.vc]
  rw[this];rfl
 rw[ev,h1,aB,ya,hb,aL,aB];rfl
def D9 (T:Tb)(rn:Nat):Prop:=∀ns:List Nat,Fl64.Gr ns->ns.length<=900->T.cl rn [.lst (gD ns)]=.ok (.lst (gD (Fl64.fS [1] ns)),ζ)
noncomputable def C8 (t:Nat):bJ:=(.cons (.asg (.nm 5) (.ix KS KQ) ε)
  (.cons (.Li (.tp [6,7]) (.enum KR) (uH t 3 4 6 7 5))
  .nil))
noncomputable def U5 (t rn cn:Nat):bJ:=(.cons (.asg (.nm 2) (.call rn (K9 (.call cn (K9 KW)))) ε)
  (.cons (.asg (.nm 3) (.bin .Add (.blt .list (K9 KU)) (.bin .Mult (.lst (K9 Kw)) KW)) ε)
  (.cons (.Li (.nm 4) (.Lm (Ld KU)) (C8 t))
  (.cons (.ret (.sl KS (.some (Ld KU)) .none))
  .nil))))
theorem HS (T:Tb)(h:env[i]? = θ (oG gs)):fU T (.enum (.var i)) env=.ok (Ct 0 gs,[i]):=by
 have hv:ev T (.var i) env=.ok (.lst (gD gs),.mv [i]):=bP h rfl;rw[fU,hv,aB];show (Rs.ok (gD gs)).bind _=_;rw[aB,Av];rfl
structure CE (d:List Nat)(c:Nat)(D l:List Nat)(e:En):Prop where
 te:Tame e
 len:e.length=8
 h0:e[0]? = θ (sG d)
 h2:e[2]? = θ (oG D)
 h3:e[3]? = θ (oG l)
variable {d:List Nat}
theorem Ec (ht:iV T t){c k:Nat}{D:List Nat}(hD:Fl64.Gr D)(hl:l.length<=1000)(hk:k+D.length<=l.length)(hD0:0<D.length){e:En}(h:CE d c D l e) :
  ∃e1 e2,be [] (.nm 4) (.int (k:Int)) e=θ e1/\aE T (C8 t) e1=.nx e2/\CE d c D (Fl64.dX l k (Fl64.mulR (l.getD k 0) D)) e2:=by
 obtain⟨te,len,h0,h2,h3⟩:=h;have hb:be [] (.nm 4) (.int (k:Int)) e=θ (e.set 4 (sN k)):=gH te (by omega);have LX:Tame (e.set 4 (sN k)):=te.set (aC _) 4;have l1:(e.set 4 (sN k)).length=8:=by rw[ak];exact len
 have a0:(e.set 4 (sN k))[0]? = θ (sG d):=by rw[μ (by decide)];exact h0
 have a2:(e.set 4 (sN k))[2]? = θ (oG D):=by rw[μ (by decide)];exact h2
 have a3:(e.set 4 (sN k))[3]? = θ (oG l):=by rw[μ (by decide)];exact h3
 have a4:(e.set 4 (sN k))[4]? = θ (sN k):=ξ (by omega);refine⟨e.set 4 (sN k),?_⟩;rw[hb];generalize e.set 4 (sN k)=E at *;have v3:ev T KS E=.ok (.lst (gD l),.mv [3]):=bP a3 rfl;have v4:ev T KQ E=.ok (.int (k:Int),.mv []):=aJ a4 rfl;have ex:ev T (.ix KS KQ) E=.ok (.int ((l.getD k 0:Nat):Int),.mv []):=by
  rw[ev,v3,aB,v4,aB,mX (by omega),aL,aB];rfl
 have g1:=bI (T:=T) (i:=5) LX (by omega) ex;have Nm:Tame (E.set 5 (sN (l.getD k 0))):=LX.set (aC _) 5;have l2:(E.set 5 (sN (l.getD k 0))).length=8:=by rw[ak];exact l1
 have b0:(E.set 5 (sN (l.getD k 0)))[0]? = θ (sG d):=by rw[μ (by decide)];exact a0
 have b2:(E.set 5 (sN (l.getD k 0)))[2]? = θ (oG D):=by rw[μ (by decide)];exact a2
 have b3:(E.set 5 (sN (l.getD k 0)))[3]? = θ (oG l):=by rw[μ (by decide)];exact a3
 have b4:(E.set 5 (sN (l.getD k 0)))[4]? = θ (sN k):=by rw[μ (by decide)];exact a4
 have b5:(E.set 5 (sN (l.getD k 0)))[5]? = θ (sN (l.getD k 0)):=ξ (by omega);generalize E.set 5 (sN (l.getD k 0))=F at *;have Ry:Tame (F.set 2 (θ (.lst (gD D),.lk))):=Nm.set (iK _) 2;obtain⟨e2,r1,r2,r3,r4,r5⟩:=pj (T:=T) (x:=3) (p:=4) (i:=6) (j:=7) (f:=5) (R:=[2]) ht (P:=k) (F:=l.getD k 0) (by decide) (by decide) (by decide) (by decide) (by decide) (by decide) (by decide) (by decide) (by decide) D 0 l (F.set 2 (θ (.lst (gD D),.lk))) Ry (by rw[ak];omega) (by rw[ak];omega)
  (by rw[μ (by decide)];exact b3) (by rw[μ (by decide)];exact b4) (by rw[μ (by decide)];exact b5) hD (by omega) hl
 have c2:e2[2]? = θ (θ (.lst (gD D),.lk)):=by
  rw[r5 2 (by decide) (by decide) (by decide)];exact ξ (by omega)
 have g2:=rW b2 (HS T b2) r1 c2;have l3:e2.length=8:=by rw[r3,ak];exact l2
 refine⟨e2.set 2 (oG D),rfl,?_,⟨r2.set (aC _) 2,by rw[ak];exact l3,?_,ξ (by omega),?_⟩⟩
 .unfold C8;rw[aE,g1,aD,aE,g2,aD];rfl
 .rw[μ (by decide),r5 0 (by decide) (by decide) (by decide),μ (by decide)];exact b0
 .rw[μ (by decide),r4];rfl
theorem xI {T:Tb}{t:Nat}(ht:iV T t){d:List Nat}{c:Nat}{D:List Nat}(hD:Fl64.Gr D)(Qu:D.length=c+1):∀(m k:Nat) (l:List Nat) (e:En),CE d c D l e->k+m+c=l.length->l.length<=1000->∃e',bU (.nm 4) [] (aE T (C8 t)) (cN (k:Int) 1 m) e=.nx e'/\CE d c D (Fl64.iI D m k l) e'
 |0,k,l,e,h,_,_=>⟨e,rfl,h⟩
 |m+1,k,l,e,h,hk,hl=>by
  obtain⟨e1,e2,q1,q2,q3⟩:=Ec ht (k:=k) hD hl (by omega) (by omega) h;obtain⟨e',r1,r2⟩:=xI ht hD Qu m (k+1) _ e2 q3 (by rw[Fl64.cW];omega) (by rw[Fl64.cW];exact hl);refine⟨e',?_,r2⟩;rw[cN,bU,q1];have e0:(k:Int)+1=((k+1:Nat):Int):=by omega
  dsimp only;rw[q2,e0];exact r1
theorem Ek (l:List Nat)(n:Nat)(h:n<=l.length):Ga (.lst (gD l)) (θ (n:Int)) η=θ (.lst (gD (l.drop n))):=by
 have:cut (gD l) (θ (n:Int)) η=(gD l).drop n:=by
  unfold cut kZ;simp only;rw[if_neg (by omega),bo,aY,X9 h,iz];rw[gn,aY];exact au _
 show θ (D.lst (cut (gD l) (θ (n:Int)) η))=_;rw[this];show θ (D.lst (List.drop n (l.map λ(g:Nat)=>D.int (g:Int))))=θ (D.lst ((l.drop n).map λ(g:Nat)=>D.int (g:Int)));rw[Z9]
theorem Kj {rn:Nat}(ht:iV T t)(Qc:D9 T rn)(TB:zE T cn)(hd:Fl64.Gr d)(c:Nat)(hl:d.length+c<=900):Pc.ret (aE T (U5 t rn cn) (aF [.lst (gD d),.int (c:Int)] 8))=.ok (.lst (gD (Fl64.ve d c)),ζ):=by
 have Lu:aF [.lst (gD d),.int (c:Int)] 8=[sG d,sN c,η,η,η,η,η,η]:=rfl;rw[Lu];have t0:∀o2 o3,cH o2->cH o3->Tame [sG d,sN c,o2,o3,η,η,η,η]:=λo2 o3 h2 h3=>.cons (aM _) (.cons (aC _) (.cons h2 (.cons h3 (.cons aH (.cons aH (.cons aH (.cons aH .nil)))))))
 obtain⟨n1,n2,n3,_,n5⟩:=Fl64.fR (ns:=Fl64.aW c) (r:=[1]) (Fl64.fD c) (.cons (by decide) .nil) (by decide) rfl;rw[Fl64.fI] at n1;have n1:(Fl64.fS [1] (Fl64.aW c)).length=c+1:=by rw[n1];simp;omega
 have v1:ev T KW [sG d,sN c,η,η,η,η,η,η]=.ok (.int (c:Int),.mv []):=aJ rfl rfl;have g1:=bI (T:=T) (i:=2) (t0 η η aH aH) (by simp) (kC (kC v1 (TB c (by omega))) (Qc (Fl64.aW c) (Fl64.fD c) (by rw[Fl64.fI];omega)));have g1:bC T (.asg (.nm 2) (.call rn (K9 (.call cn (K9 KW)))) ε) [sG d,sN c,η,η,η,η,η,η]=.nx [sG d,sN c,oG (Fl64.fS [1] (Fl64.aW c)),η,η,η,η,η]:=g1;unfold Fl64.ve;generalize Fl64.fS [1] (Fl64.aW c)=D at *;have e1:ev T (.bin .Mult (.lst (K9 Kw)) KW) [sG d,sN c,oG D,η,η,η,η,η]=.ok (.lst (gD (ν c 0)),.mv []):=by
  have q:ev T (.lst (K9 Kw)) [sG d,sN c,oG D,η,η,η,η,η]=.ok (.lst [.int 0],.mv []):=rfl;have v:ev T KW [sG d,sN c,oG D,η,η,η,η,η]=.ok (.int (c:Int),.mv []):=aJ rfl rfl;rw[ev,q,aB,v,aB,mS _ (by omega),aL,aB,cB (eE _)]
 have e2:ev T (.blt .list (K9 KU)) [sG d,sN c,oG D,η,η,η,η,η]=.ok (.lst (gD d),.mv []):=by
  have h1:bL T (K9 KU) [sG d,sN c,oG D,η,η,η,η,η]=.ok [(.lst (gD d),.sh [])]:=rfl;rw[ev,h1,aB];show (Rs.ok (Pc.D.lst (gD d))).bind _=_;rw[aB,cB (eE _)]
 have e3:ev T (.bin .Add (.blt .list (K9 KU)) (.bin .Mult (.lst (K9 Kw)) KW)) [sG d,sN c,oG D,η,η,η,η,η]=.ok (.lst (gD (d++ν c 0)),.mv []):=by
  have hb:mR .Add (.lst (gD d)) (.lst (gD (ν c 0)))=θ (.lst (gD (d++ν c 0))):=by
   show ck ((gD d).length+(gD (ν c 0)).length) (.lst (gD d++gD (ν c 0)))=_;unfold ck;rw[if_pos (by rw[aY,aY,bf];exact cY (by omega)),eC]
  rw[ev,e2,aB,e1,aB,hb,aL,aB,cB (eE _)]
 have g2:bC T (.asg (.nm 3) (.bin .Add (.blt .list (K9 KU)) (.bin .Mult (.lst (K9 Kw)) KW)) ε) [sG d,sN c,oG D,η,η,η,η,η]=.nx [sG d,sN c,oG D,oG (d++ν c 0),η,η,η,η]:=bI (t0 _ _ (aC _) aH) (by simp) e3;obtain⟨e,r1,r2⟩:=xI (T:=T) (t:=t) ht (d:=d) (c:=c) n2 n1 d.length 0 (d++ν c 0) [sG d,sN c,oG D,oG (d++ν c 0),η,η,η,η] ⟨t0 _ _ (aC _) (aC _),rfl,rfl,rfl,rfl⟩ (by simp) (by simp;omega);have hit:fU T (.Lm (Ld KU)) [sG d,sN c,oG D,oG (d++ν c 0),η,η,η,η]=.ok (cN ((0:Nat):Int) 1 d.length,[]):=by
  have:=oa T _ _ _ _ (iO (T:=T) (env:=[sG d,sN c,oG D,oG (d++ν c 0),η,η,η,η]) (i:=0) (gs:=d) (t:=.sh []) rfl) (qq (by omega));rw[bo] at this;exact this
 have g3:=cP hit r1;obtain⟨te,len,h0,h2,h3⟩:=r2;have LU:(Fl64.iI D d.length 0 (d++ν c 0)).length=d.length+c:=by
  have:=(Fl64.mU (c:=c) n2 n1 n3 d.length 0 (hd.append (Fl64.gK c)) (by simp) (λi hi=>absurd hi (gi i))).1;rw[this];simp
 unfold U5;rw[aE,g1,aD,aE,g2,aD,aE,g3,aD];refine fY ?_;have v3:ev T KS e=.ok (.lst (gD (Fl64.iI D d.length 0 (d++ν c 0))),.mv [3]):=bP h3 rfl;have v0:jW T (.some (Ld KU)) e=.ok (θ (d.length:Int)):=by
  rw[jW,iO h0,aB]
 have vn:jW T .none e=.ok η:=by rw[jW]
 rw[ev,v3,aB,v0,aB,vn,aB,Ek _ _ (by omega),aL,aB,cB (eE _)]
end Pc.Gr
end
section
namespace Fl64
end Fl64
namespace Pc.Lw
open PySem Pc Pc.Sm Pc.Gr
noncomputable def Xi:bJ:=(.cons (.ret (.and (.blt (.MU "int") (K9 KU)) (.not (.blt (.MU "bool") (K9 KU)))))
  .nil)
variable {T:Tb}
theorem Kt (x:Int):Pc.ret (aE T Xi (aF [.int x] 1))=.ok (.bl ζ,ζ):=rfl
noncomputable def UY:bJ:=(.cons (.ite (.cmp .Lt KW (Ld KU)) (.cons (.ret (.ix KU KW))
  .nil) .nil)
  (.cons (.ret (.bin .Mult (KP 1000003) (.bin .Add KW Kv)))
  .nil))
theorem E2 (ns:List Int):kS .len [.lst (ns.map D.int)]=θ (.int (ns.length:Int)):=by
 show θ (D.int ((ns.map D.int).length:Int))=_;rw[ai]
theorem Jp {ns:List Int}{k:Nat}(h:k<ns.length):EN (.lst (ns.map D.int)) (.int (k:Int))=θ (.int ns[k]):=by
 show (Pc.kQ (ns.map D.int).length (k:Int)).bind (λj=>(ns.map D.int)[j]?)=_;rw[hZ (by rw[ai];exact h)];simp[h]
theorem Ko {T:Tb}(ns:List Int)(k:Nat):∃v:Int,Pc.ret (aE T UY (aF [.lst (ns.map D.int),.int (k:Int)] 2))=.ok (.int v,ζ):=by
 have Lu:aF [.lst (ns.map D.int),.int (k:Int)] 2=[sS (ns.map D.int),sI (k:Int)]:=rfl;rw[Lu];have el:ev T (Ld KU) [sS (ns.map D.int),sI (k:Int)]=.ok (.int (ns.length:Int),.mv []):=by
  have h1:bL T (K9 KU) [sS (ns.map D.int),sI (k:Int)]=.ok [(.lst (ns.map D.int),.sh [])]:=rfl;rw[ev,h1,aB,ya,E2,aL,aB,cU]
 have v1:ev T KW [sS (ns.map D.int),sI (k:Int)]=.ok (.int (k:Int),.mv []):=aJ rfl rfl;have ec:ev T (.cmp .Lt KW (Ld KU)) [sS (ns.map D.int),sI (k:Int)]=.ok (.bl (decide ((k:Int)<(ns.length:Int))),.mv []):=by
  rw[ev,v1,aB,el,aB];rfl
 unfold UY;rw[aE,bC,ec,aP];by_cases h:k<ns.length
 .rw[cm (show (k:Int)<(ns.length:Int) by omega)];have e:ev T (.ix KU KW) [sS (ns.map D.int),sI (k:Int)]=.ok (.int ns[k],.mv []):=by
   have v0:ev T KU [sS (ns.map D.int),sI (k:Int)]=.ok (.lst (ns.map D.int),.sh []):=rfl;rw[ev,v0,aB,v1,aB,Jp h,aL,aB];rfl
  refine⟨ns[k],?_⟩;show Pc.ret ((aE T (.cons (.ret (.ix KU KW)) .nil) [sS (ns.map D.int),sI (k:Int)]).andThen _)=_;rw[aE,bC,e,aP];rfl
 .rw[bh (show ¬ (k:Int)<(ns.length:Int) by omega)];refine⟨1000003*((k:Int)+1),?_⟩;show Pc.ret ((Fl.nx [sS (ns.map D.int),sI (k:Int)]).andThen _)=_;rw[aD];refine fY ?_;have s1:small 1000003=ζ:=by decide
  generalize (k:Int)=K;simp[ev,aB,D.flat,aS,Pc.binI,aL,cU,s1]
noncomputable def UR:bJ:=(.cons (.asg (.nm 2) (.bin .Mod (.bin .Mult (.bin .Add (.bin .Add (.bin .Mod KU Kx) (.bin .Mult (KP 7919) KW)) Kv) (KP 48271)) Kx) ε)
  (.cons (.ret (.bin .FloorDiv (.bin .Mod (.bin .Mult KR (.bin .Add (.bin .Mod KR (KP 1009)) Kv)) (KP 2147483629)) Ky))
  .nil))
theorem Jm {T:Tb}(c k:Int):∃v:Int,0<=v/\Pc.ret (aE T UR (aF [.int c,.int k] 3))=.ok (.int v,ζ):=by
 have Lu:aF [.int c,.int k] 3=[sI c,sI k,η]:=rfl;rw[Lu];have s1:small 7919=ζ:=by decide
 have s2:small 48271=ζ:=by decide
 have g1:bC T (.asg (.nm 2) (.bin .Mod (.bin .Mult (.bin .Add (.bin .Add (.bin .Mod KU Kx) (.bin .Mult (KP 7919) KW)) Kv) (KP 48271)) Kx) ε) [sI c,sI k,η]=.nx [sI c,sI k,sI ((c%2147483647+7919*k+1)*48271%2147483647)]:=by
  simp[bC,ev,aB,aP,aL,aS,Pc.binI,D.flat,cU,mW,put,Tg.drop,s1,s2]
 have so:small ((c%2147483647+7919*k+1)*48271%2147483647)=ζ:=pL (by omega) (by omega);generalize (c%2147483647+7919*k+1)*48271%2147483647=o at g1 so;refine⟨o*(o%1009+1)%2147483629 / 3,by omega,?_⟩;unfold UR;rw[aE,g1,aD];refine fY ?_;simp[ev,aB,D.flat,aS,Pc.binI,aL,cU,so]
def Au (T:Tb)(mx:Nat):Prop:=∀c k:Int,∃v:Int,0<=v/\T.cl mx [.int c,.int k]=.ok (.int v,ζ)
noncomputable def Rk:Ex:=.comp 1 [] (.nm 0) (.Lm KW) .none (.bin .Mod (.bin .Mult Kz KU) KA)
noncomputable def CA (mx:Nat):bJ:=(.cons (.Lv 3 .none (.bin .Mod KR KW) (.bin .BitXor (.ix KS (.bin .Mod KR KW)) (.bin .Mod (.bin .FloorDiv (.call mx (La (.ix KU KR) KR)) KC) KA)))
  .nil)
noncomputable def UN (mx:Nat):bJ:=(.cons (.asg (.nm 3) Rk ε)
  (.cons (.Li (.nm 2) (.Lm (Ld KU)) (CA mx))
  (.cons (.ret KS)
  .nil)))
variable {gs:List Nat}{mx:Nat}
theorem CQ (Tc:Au T mx)(ns:List Int)(n:Nat)(hn:0<n)(LZ:n<=1000)(k:Nat)(hk:k<ns.length)(hg:Fl64.Gr gs)(Tp:gs.length=n)(o:Slot)(ho:cH o) :
  ∃Qv,Fl64.Gr Qv/\Qv.length=n/\be [] (.nm 2) (.int (k:Int)) [sS (ns.map D.int),sN n,o,oG gs]=θ [sS (ns.map D.int),sN n,sN k,oG gs]/\aE T (CA mx) [sS (ns.map D.int),sN n,sN k,oG gs]=.nx [sS (ns.map D.int),sN n,sN k,oG Qv]:=by
 have hb:=gH (i:=2) (d:=.int (k:Int)) (env:=[sS (ns.map D.int),sN n,o,oG gs]) (.cons (aM _) (.cons (aC _) (.cons ho (.cons (aC _) .nil)))) (by simp);have te:Tame [sS (ns.map D.int),sN n,sN k,oG gs]:=.cons (aM _) (.cons (aC _) (.cons (aC _) (.cons (aC _) .nil)));obtain⟨v,hv,hm⟩:=Tc ns[k] k;have v0:ev T KU [sS (ns.map D.int),sN n,sN k,oG gs]=.ok (.lst (ns.map D.int),.sh []):=rfl;have v1:ev T KW [sS (ns.map D.int),sN n,sN k,oG gs]=.ok (.int (n:Int),.mv []):=aJ rfl rfl;have v2:ev T KR [sS (ns.map D.int),sN n,sN k,oG gs]=.ok (.int (k:Int),.mv []):=aJ rfl rfl;have v3:ev T KS [sS (ns.map D.int),sN n,sN k,oG gs]=.ok (.lst (gD gs),.mv [3]):=bP rfl rfl;have e1:ev T (.bin .Mod KR KW) [sS (ns.map D.int),sN n,sN k,oG gs]=.ok (.int ((k%n:Nat):Int),.mv []):=by
  rw[ev,v2,aB,v1,aB,aS];have:Pc.binI .Mod (k:Int) (n:Int)=θ ((k%n:Nat):Int):=by
   show (if 0<(n:Int) then θ ((k:Int)%(n:Int)) else η)=_;rw[if_pos (by omega)];simp
  rw[this];rfl
 have LB:k%n<gs.length:=by rw[Tp];exact ip _ hn
 have e2:ev T (.ix KS (.bin .Mod KR KW)) [sS (ns.map D.int),sN n,sN k,oG gs]=.ok (.int ((gs.getD (k%n) 0:Nat):Int),.mv []):=by
  rw[ev,v3,aB,e1,aB,mX LB,aL,aB];rfl
 have e3:ev T (.ix KU KR) [sS (ns.map D.int),sN n,sN k,oG gs]=.ok (.int ns[k],.mv []):=by
  rw[ev,v0,aB,v2,aB,Jp hk,aL,aB];rfl
 have e4:=cJ e3 v2 hm;obtain⟨w,hw,hw'⟩:=BO (a:=v / 97%64) (m:=64) (by omega) (by omega);have e5:ev T (.bin .Mod (.bin .FloorDiv (.call mx (La (.ix KU KR) KR)) KC) KA) [sS (ns.map D.int),sN n,sN k,oG gs]=.ok (.int (w:Int),.mv []):=by
  have q:ev T (.bin .FloorDiv (.call mx (La (.ix KU KR) KR)) KC) [sS (ns.map D.int),sN n,sN k,oG gs]=.ok (.int (v / 97),.mv []):=by
   rw[ev,e4,aB];rfl
  rw[ev,q,aB,<-hw];rfl
 have e6:ev T (.bin .BitXor (.ix KS (.bin .Mod KR KW)) (.bin .Mod (.bin .FloorDiv (.call mx (La (.ix KU KR) KR)) KC) KA)) [sS (ns.map D.int),sN n,sN k,oG gs]=.ok (.int ((gs.getD (k%n) 0^^^w:Nat):Int),.mv []):=by
  rw[ev,e2,aB,e5,aB,aS];show (gQ (θ (D.int (Ρ ((gs.getD (k%n) 0:Nat):Int) (w:Int))))).bind _=_;rw[gG];rfl
 have st:=lV (T:=T) (x:=3) te rfl e1 (hZ (by rw[aY];exact LB)) e6 (by rw[aY,Tp];exact cY LZ);refine⟨gs.set (k%n) (gs.getD (k%n) 0^^^w),Fl64.rP hg (by omega),by rw[ak];exact Tp,hb,?_⟩;unfold CA;rw[aE,st,aD,oE];rfl
theorem IU (Tc:Au T mx)(ns:List Int)(hl:ns.length<=63)(n:Nat)(hn:0<n)(LZ:n<=1000):∃gs,Fl64.Gr gs/\gs.length=n/\Pc.ret (aE T (UN mx) (aF [.lst (ns.map D.int),.int (n:Int)] 4))=.ok (.lst (gD gs),ζ):=by
 have Lu:aF [.lst (ns.map D.int),.int (n:Int)] 4=[sS (ns.map D.int),sN n,η,η]:=rfl;rw[Lu];have v1:ev T KW [sS (ns.map D.int),sN n,η,η]=.ok (.int (n:Int),.mv []):=aJ rfl rfl;have hit:fU T (.Lm KW) [sS (ns.map D.int),sN n,η,η]=.ok ((rc 0 n).map (λ(k:Nat)=>D.int (k:Int)),[]):=by
  have:=oa T _ _ _ _ v1 (qq LZ);rw[bo] at this;rw[this,<-fP n 0];rfl
 have he:ev T Rk [sS (ns.map D.int),sN n,η,η]=.ok (.lst (gD ((rc 0 n).map λk=>7*k%64)),.mv []):=by
  unfold Rk;rw[l9 (g:=λd=>match d with|.int k=>(.int ((7*k.toNat%64:Nat):Int),.mv [])|_=>(.Lj,.mv [])) hit (by rw[ai,Zb];exact cY LZ) (λd hd=>?_) (λd hd=>?_)]
  .rw[gD,aw,aw];congr 2
  .obtain⟨k,hk,rfl⟩:=χ.mp hd;have hb:be [] (.nm 0) (.int (k:Int)) (aO [sS (ns.map D.int),sN n,η,η] 1 [])=θ [sN k]:=rfl;rw[hb];have e:ev T (.bin .Mod (.bin .Mult Kz KU) KA) [sN k]=.ok (.int ((7*k%64:Nat):Int),.mv []):=by
    have s7:small 7=ζ:=by decide
    have q:((7*k%64:Nat):Int)=7*(k:Int)%64:=by omega
    rw[q];show ev T (.bin .Mod (.bin .Mult Kz KU) KA) [sI (k:Int)]=_;generalize (k:Int)=K;simp[ev,aB,D.flat,aS,Pc.binI,aL,cU,s7]
   simp only[bM,nT,aB,if_true,e,bo]
  .obtain⟨k,hk,rfl⟩:=χ.mp hd;rfl
 have g1:bC T (.asg (.nm 3) Rk ε) [sS (ns.map D.int),sN n,η,η]=.nx [sS (ns.map D.int),sN n,η,oG ((rc 0 n).map λk=>7*k%64)]:=bI (.cons (aM _) (.cons (aC _) (.cons aH (.cons aH .nil)))) (by simp) he;have hg0:Fl64.Gr ((rc 0 n).map λk=>7*k%64):=λz hz=>by
  obtain⟨k,_,rfl⟩:=χ.mp hz;exact ip _ (by decide)
 obtain⟨e,q1,q2⟩:=oQ (t:=.nm 2) (R:=[]) (b:=aE T (CA mx)) (λ_ e=>∃gs o,Fl64.Gr gs/\gs.length=n/\cH o/\e=[sS (ns.map D.int),sN n,o,oG gs]) (cN 0 1 ns.length) 0 [sS (ns.map D.int),sN n,η,oG ((rc 0 n).map λk=>7*k%64)] ⟨_,η,hg0,by simp,aH,rfl⟩ (λi d e hi hj=>by
  obtain⟨gs,o,a1,a2,a3,rfl⟩:=hj;obtain⟨i1,rfl⟩:=qk _ _ _ _ hi;rw[XR];obtain⟨Qv,b1,b2,b3,b4⟩:=CQ Tc ns n hn LZ i i1 a1 a2 o a3;exact⟨_,_,b3,b4,Qv,_,b1,b2,aC _,rfl⟩)
 obtain⟨gs,o,a1,a2,a3,rfl⟩:=q2;have hlen:fU T (.Lm (Ld KU)) [sS (ns.map D.int),sN n,η,oG ((rc 0 n).map λk=>7*k%64)]=.ok (cN 0 1 ns.length,[]):=by
  have el:ev T (Ld KU) [sS (ns.map D.int),sN n,η,oG ((rc 0 n).map λk=>7*k%64)]=.ok (.int (ns.length:Int),.mv []):=by
   have h1:bL T (K9 KU) [sS (ns.map D.int),sN n,η,oG ((rc 0 n).map λk=>7*k%64)]=.ok [(.lst (ns.map D.int),.sh [])]:=rfl;rw[ev,h1,aB,ya,E2,aL,aB,cU]
  have:=oa T _ _ _ _ el (qq (by omega));rw[bo] at this;exact this
 have g2:=cP hlen q1;have v3:ev T KS [sS (ns.map D.int),sN n,o,oG gs]=.ok (.lst (gD gs),.mv [3]):=bP rfl rfl;refine⟨gs,a1,a2,?_⟩;unfold UN;rw[aE,g1,aD,aE,g2,aD,aE,bC,v3,aP];rfl
def Gz (T:Tb)(ce:Nat):Prop:=∀(ns:List Int) (k:Nat),∃v:Int,T.cl ce [.lst (ns.map D.int),.int (k:Int)]=.ok (.int v,ζ)
noncomputable def FH (wh:Nat):bJ:=(.cons (.ite (.or (.not (.call wh (K9 KR))) (.or (.cmp .Lt KR Kw) (.cmp .Gt KR KD))) (.cons (.ret (.cst (.bl ε)))
  .nil) .nil)
  .nil)
noncomputable def UT (wh:Nat):bJ:=(.cons (.ite (.or (.not (.blt (.MU "list") (K9 KU))) (.cmp .NotEq (Ld KU) KW)) (.cons (.ret (.cst (.bl ε)))
  .nil) .nil)
  (.cons (.Li (.nm 2) (.seq KU) (FH wh))
  (.cons (.ret (.cst (.bl ζ)))
  .nil)))
def IZ (T:Tb)(wh:Nat):Prop:=∀x:Int,T.cl wh [.int x]=.ok (.bl ζ,ζ)
theorem JY {wh:Nat}(hwh:IZ T wh)(hg:Fl64.Gr gs)(n:Nat)(hn:gs.length=n):Pc.ret (aE T (UT wh) (aF [.lst (gD gs),.int (n:Int)] 3))=.ok (.bl ζ,ζ):=by
 have Lu:aF [.lst (gD gs),.int (n:Int)] 3=[sG gs,sN n,η]:=rfl;rw[Lu];have e0:ev T (.blt (.MU "list") (K9 KU)) [sG gs,sN n,η]=.ok (.bl ζ,.mv []):=rfl;have el:=iO (T:=T) (env:=[sG gs,sN n,η]) (i:=0) (gs:=gs) (t:=.sh []) rfl;rw[hn] at el;have v1:ev T KW [sG gs,sN n,η]=.ok (.int (n:Int),.mv []):=aJ rfl rfl;have g1:=ite_ff (T:=T) (a:=(.cons (.ret (.cst (.bl ε))) .nil)) (Bg (EI e0) (BV el v1 (by simp[D.Lq])));obtain⟨e,q1,_⟩:=oQ (t:=.nm 2) (R:=[]) (b:=aE T (FH wh)) (λ_ e=>∃o,cH o/\e=[sG gs,sN n,o]) (gD gs) 0 [sG gs,sN n,η] ⟨η,aH,rfl⟩ (λi d e hi hj=>by
  obtain⟨o,ho,rfl⟩:=hj;rw[π,ae] at hi;obtain⟨g,hgi,rfl⟩:=hi;have Ly:=hg g (Α hgi);refine⟨[sG gs,sN n,sN g],[sG gs,sN n,sN g],gH (.cons (aM _) (.cons (aC _) (.cons ho .nil))) (by simp),?_,_,aC _,rfl⟩;have v2:ev T KR [sG gs,sN n,sN g]=.ok (.int (g:Int),.mv []):=aJ rfl rfl;have c1:ev T (.cmp .Lt KR Kw) [sG gs,sN n,sN g]=.ok (.bl ε,.mv []):=by
   have v:ev T Kw [sG gs,sN n,sN g]=.ok (.int 0,.mv []):=rfl;rw[ev,v2,aB,v,aB];show (gQ (θ (decide ((g:Int)<0)))).bind _=_;rw[bh (by omega)];rfl
  have c2:ev T (.cmp .Gt KR KD) [sG gs,sN n,sN g]=.ok (.bl ε,.mv []):=by
   have v:ev T KD [sG gs,sN n,sN g]=.ok (.int 63,.mv []):=rfl;rw[ev,v2,aB,v,aB];show (gQ (θ (decide ((63:Int)<(g:Int))))).bind _=_;rw[bh (by omega)];rfl
  unfold FH;rw[aE,ite_ff (Bg (EI (kC v2 (hwh _))) (Bg c1 c2)),aD];rfl)
 have hit:fU T (.seq KU) [sG gs,sN n,η]=.ok (gD gs,[]):=rfl;have g2:=cP hit q1;unfold UT;rw[aE,g1,aD,aE,g2,aD];exact fin _ _
end Pc.Lw
end
section
variable {x:Nat}
namespace Fl64
noncomputable def sm:List (Nat×Nat)->Nat->Nat
 |[],_=>0
 |p::r,j=>tm p.1 (pw p.2 j)^^^sm r j
def Pr (l:List (Nat×Nat)):Prop:=∀p∈l,p.1<64/\p.2<64
noncomputable def Hw (x:Nat)(l:List (Nat×Nat)):List (Nat×Nat):=l.map λp=>(tm p.1 (p.2^^^x),p.2)
theorem GH (hx:x<64){l:List (Nat×Nat)}(h:Pr l):Pr (Hw x l):=λp hp=>by
 obtain⟨q,hq,rfl⟩:=χ.mp hp;exact⟨bN (h q hq).1 (aZ (h q hq).2 hx),(h q hq).2⟩
theorem B7 {e y P:Nat}(he:e<64)(hy:y<64)(hx:x<64)(hP:P<64):tm (tm e (y^^^x)) P=tm e (tm P y)^^^tm x (tm e P):=by
 rw[dY he (aZ hy hx) hP,eY (aZ hy hx) hP,kq,kq];rw[eY hx (bN he hP),dY he hP hx]
theorem Ax (hx:x<64):∀{l:List (Nat×Nat)},Pr l->∀j,sm (Hw x l) j=sm l (j+1)^^^tm x (sm l j)
 |[],_,j=>by show 0=0^^^tm x 0;rw[iL];rfl
 |p::r,h,j=>by
  have ih:=Ax hx (l:=r) (λq hq=>h q (aa _ hq)) j;obtain⟨he,hy⟩:=h p ag;show tm (tm p.1 (p.2^^^x)) (pw p.2 j)^^^sm (Hw x r) j=(tm p.1 (tm (pw p.2 j) p.2)^^^sm r (j+1))^^^tm x (tm p.1 (pw p.2 j)^^^sm r j);rw[ih,B7 he hy hx (bR hy j),kq,IG]
theorem Bu:∀(n:Nat) {l:List (Nat×Nat)},l.length=n->Pr l->(∀p∈l,p.2≠0)->(l.map (·.2)).Nodup->∀a,(∀j,a<=j->j<a+n->sm l j=0)->∀p∈l,p.1=0
 |0,l,hl,_,_,_,_,_=>by
  have:l=[]:=Yv.mp hl;subst this;exact λ_ h=>(nomatch h)
 |n+1,[],hl,_,_,_,_,_=>by simp at hl
 |n+1,q::r,hl,hp,h0,nd,a,hs=>by
  have hq:=hp q ag;have hr:Pr r:=λz hz=>hp z (aa _ hz)
  rw[av,jy] at nd;have ih:=Bu n (l:=Hw q.2 r) (by simpa[Hw] using hl) (GH hq.2 hr) (λz hz=>by
    obtain⟨y,hy,rfl⟩:=χ.mp hz;exact h0 y (aa _ hy)) (by
    have:(Hw q.2 r).map (·.2)=r.map (·.2):=by simp[Hw]
    rw[this];exact nd.2) a (λj h1 h2=>by
    rw[Ax hq.2 hr];have e1:=hs j h1 (by omega);have e2:=hs (j+1) (by omega) (by omega);have e1':tm q.1 (pw q.2 j)=sm r j:=cX e1;have e2':tm q.1 (tm (pw q.2 j) q.2)=sm r (j+1):=cX e2;rw[<-e1',<-e2',eY hq.2 (bN hq.1 (bR hq.2 j)),dY hq.1 (bR hq.2 j) hq.2,gj])
  have er:∀p∈r,p.1=0:=λp S6=>by
   have Wv:=hr p S6;have:=ih (tm p.1 (p.2^^^q.2),p.2) (χ.mpr ⟨p,S6,rfl⟩);rcases fC Wv.1 (aZ Wv.2 hq.2) this with z|z
   .exact z
   .exact absurd (χ.mpr ⟨p,S6,cX z⟩) nd.1
  have sz:∀{l:List (Nat×Nat)},Pr l->(∀p∈l,p.1=0)->sm l a=0:=by
   intro l
   induction l with
   |nil=>intro _ _;rfl
   |cons p l ihl=>
    intro h1 h2;show tm p.1 (pw p.2 a)^^^sm l a=0;rw[ihl (λz hz=>h1 z (aa _ hz)) (λz hz=>h2 z (aa _ hz)),h2 p ag,cQ (bR (h1 p ag).2 a)];rfl
  have e:=hs a (au _) (by omega);have e:tm q.1 (pw q.2 a)^^^sm r a=0:=e;rw[sz hr er,gq] at e;intro p S7;rcases fe.mp S7 with rfl|z
  .rcases fC hq.1 (bR hq.2 a) e with z|z
   .exact z
   .exact absurd z (Co hq.2 (h0 p ag) a)
  .exact er p z
theorem zg:((υ 63).map (pw 2)).Nodup:=by decide +kernel
theorem xE {i j:Nat}(hi:i<63)(hj:j<i):pw 2 i≠pw 2 j:=by
 have:=Yi.mp zg j i (by simp;omega) (by simp;omega) hj;simpa using λe=>this (by simpa using e.symm)
end Fl64
end
section
namespace Pc.Lw
open PySem Pc Pc.Sm Pc.Gr
end Pc.Lw
end
section
namespace Pc.Nw
open PySem Pc Pc.Sm Pc.Lw Pc.Gr
variable {R:Rt}{e:Ex}{env:En}
theorem Dl {T:Tb}{x:Nat}{a b:Int}{t:Tg}(ht:Tame env)(hx:env[x]? = θ (θ (.int a,t)))(h:ev T e env=.ok (.int b,R)):bC T (.aug x .Add e) env=.nx (env.set x (θ (.int (a+b),.own))):=by
 have hi:intAt env x=θ a:=by unfold intAt;rw[hx]
 have hl:x<env.length:=by
  obtain⟨h1,_⟩:=ο.mp hx;exact h1
 rw[bC,hi];dsimp only;rw[h,aP];show mW (.nm x) ε env (.int (a+b),.mv [])=_;unfold mW;dsimp only;rw[if_pos hl,bT ht]
section
variable {T:Tb}{env:En}
theorem eX:aE T .nil env=.nx env:=by rw[aE]
theorem mF {s:St}{e:En}(h:bC T s env=.nx e):aE T (.cons s .nil) env=.nx e:=by
 rw[aE,h,aD,aE]
end
section
variable {T:Tb}{env:En}
end
theorem BB {T:Tb}{x:Nat}{v:Ex}{ks:List (Int×MV)}{n:Int}{dv:D}{m:MV}{R':Rt}(ht:Tame env)(hx:env[x]? = θ (θ (.Lx ks,.own)))(hl:ks.length<lim)(h:ev T e env=.ok (.int n,R))(hv:ev T v env=.ok (dv,R'))(hm:DZ dv=θ m):bC T (.MG x e v) env=.nx (env.set x (θ (.Lx (rY ks n m),.own))):=by
 rw[bC];have:ownAt env x=θ (.Lx ks):=by unfold ownAt;rw[hx]
 rw[this];dsimp only;rw[hv,aP,h,aP];have hp:CO (.Lx ks) (.int n) dv=θ (.Lx (rY ks n m)):=by
  show (if ks.length<lim then (DZ dv).map λm=>D.Lx (rY ks n m) else η)=_;rw[if_pos hl,hm];rfl
 rw[hp];dsimp only[Option.map];rw[fM ht]
end Pc.Nw
end
section
end
section
namespace Md
open Fl64
structure F where
 v:Nat
 h:v<64
theorem F.ext {a b:F}(h:a.v=b.v):a=b:=by cases a;cases b;cases h;rfl
noncomputable instance:Add F:=⟨λa b=>⟨a.v^^^b.v,aZ a.h b.h⟩⟩
noncomputable instance:Mul F:=⟨λa b=>⟨tm a.v b.v,bN a.h b.h⟩⟩
noncomputable instance:OfNat F 0:=⟨⟨0,by decide⟩⟩
noncomputable instance:OfNat F 1:=⟨⟨1,by decide⟩⟩
theorem JU (a b:F):(a+b).v=a.v^^^b.v:=rfl
theorem JN (a b:F):(a*b).v=tm a.v b.v:=rfl
theorem add_comm (a b:F):a+b=b+a:=F.ext (XT ..)
theorem add_assoc (a b c:F):a+b+c=a+(b+c):=F.ext (br ..)
theorem mul_comm (a b:F):a*b=b*a:=F.ext (eY a.h b.h)
theorem mul_assoc (a b c:F):a*b*c=a*(b*c):=F.ext (dY a.h b.h c.h)
theorem add_zero (a:F):a+0=a:=F.ext (gq _)
theorem zero_add (a:F):0+a=a:=F.ext (cx _)
theorem pI (a:F):a+a=0:=F.ext (gj _)
theorem mul_one (a:F):a*1=a:=F.ext (lz a.h)
theorem one_mul (a:F):1*a=a:=F.ext (oW a.h)
theorem mul_zero (a:F):a*0=0:=rfl
theorem zero_mul (a:F):0*a=0:=F.ext (cQ a.h)
theorem mul_add (a b c:F):a*(b+c)=a*b+a*c:=F.ext (kq a.v b.v c.v)
theorem add_mul (a b c:F):(a+b)*c=a*c+b*c:=F.ext (ki a.h b.h c.h)
theorem kY {a b:F}(ha:a≠0)(hb:b≠0):a*b≠0:=λe=>by
 rcases fC a.h b.h (fm F.v e) with h|h
 .exact ha (F.ext h)
 .exact hb (F.ext h)
theorem yn {a b:F}(h:a+b=0):a=b:=F.ext (cX (fm F.v h))
noncomputable instance:ZS (α:=F) (· + ·):=⟨add_assoc⟩
noncomputable instance:ZT (α:=F) (· + ·):=⟨add_comm⟩
noncomputable instance:ZS (α:=F) (· * ·):=⟨mul_assoc⟩
noncomputable instance:ZT (α:=F) (· * ·):=⟨mul_comm⟩
noncomputable instance:DecidableEq F:=λa b=>if h:a.v=b.v then .isTrue (F.ext h) else .isFalse λe=>h (fm F.v e)
noncomputable def sum:Nat->(Nat->F)->F
 |0,_=>0
 |n+1,f=>sum n f+f n
theorem aR:∀{n:Nat}{f g:Nat->F},(∀i,i<n->f i=g i)->sum n f=sum n g
 |0,_,_,_=>rfl
 |n+1,f,g,h=>by rw[sum,sum,aR λi hi=>h i (by omega),h n (by omega)]
theorem dR:∀{n:Nat}{f:Nat->F},(∀i,i<n->f i=0)->sum n f=0
 |0,_,_=>rfl
 |n+1,f,h=>by rw[sum,dR λi hi=>h i (by omega),h n (by omega),add_zero]
theorem sum_add:∀(n:Nat) (f g:Nat->F),sum n (λi=>f i+g i)=sum n f+sum n g
 |0,_,_=>(add_zero 0).symm
 |n+1,f,g=>by rw[sum,sum,sum,sum_add n];ac_rfl
theorem iG (a:F):∀(n:Nat) (f:Nat->F),a*sum n f=sum n λi=>a*f i
 |0,_=>rfl
 |n+1,f=>by rw[sum,sum,mul_add,iG a n]
theorem xh (n:Nat)(f:Nat->F)(a:F):sum n f*a=sum n λi=>f i*a:=by
 rw[mul_comm,iG];exact aR λi _=>mul_comm ..
theorem uf (m:Nat):∀(n:Nat) (f:Nat->Nat->F),sum m (λi=>sum n (f i))=sum n λj=>sum m λi=>f i j
 |0,f=>dR λ_ _=>rfl
 |n+1,f=>by
  rw[sum,<-uf m n f,<-sum_add];rfl
variable {f:Nat->F}
theorem gT {n:Nat}:∀{m:Nat},n<=m->(∀i,n<=i->i<m->f i=0)->sum m f=sum n f
 |0,h,_=>by rw[Æ.mp h]
 |m+1,h,z=>by
  by_cases e:n=m+1
  .rw[e]
  .rw[sum,z m (by omega) (by omega),add_zero];exact gT (by omega) λi a b=>z i a (by omega)
theorem dH:∀(n:Nat) (f:Nat->F),sum (n+1) f=f 0+sum n λi=>f (i+1)
 |0,f=>by show 0+f 0=f 0+0;rw[zero_add,add_zero]
 |n+1,f=>by rw[sum,dH n,sum,add_assoc]
variable {k n:Nat}
theorem CH (hk:k<n)(z:∀i,i<n->i≠k->f i=0):sum n f=f k:=by
 rw[gT (n:=k+1) (by omega) λi a b=>z i b (by omega),sum,dR λi h=>z i (by omega) (by omega),zero_add]
noncomputable def at' (g:Nat->F)(n k:Nat):F:=if k<=n then g (n-k) else 0
noncomputable def conv (f g:Nat->F)(n:Nat):F:=sum (n+1) λj=>f j*g (n-j)
theorem Dj (f g:Nat->F){n M:Nat}(h:n<M):conv f g n=sum M λj=>f j*at' g n j:=by
 rw[gT (n:=n+1) (by omega) λi a b=>by rw[at',if_neg (by omega),mul_zero]];exact aR λi hi=>by rw[at',if_pos (by omega)]
theorem tf (f g t:Nat->F)(n:Nat):conv f (conv g t) n=sum (n+1) λj=>sum (n+1) λi=>f j*(g i*(if i+j<=n then t (n-(i+j)) else 0)):=by
 refine aR λj hj=>?_
 rw[Dj g t (n:=n-j) (M:=n+1) (by omega),iG];refine aR λi hi=>?_
 unfold at';by_cases h:i+j<=n
 .rw[if_pos h,if_pos (by omega)];congr 2;congr 1;omega
 .rw[if_neg h,if_neg (by omega)]
theorem yz (f g t:Nat->F)(n:Nat):conv f (conv g t) n=conv g (conv f t) n:=by
 rw[tf,tf,uf];refine aR λi hi=>aR λj hj=>?_
 rw[XO i j];generalize (if j+i<=n then t (n-(j+i)) else 0)=y
 ac_rfl
theorem xf:∀(n:Nat) (f:Nat->F),sum n f=sum n λi=>f (n-1-i)
 |0,_=>rfl
 |n+1,f=>by
  rw[dH n (λi=>f (n+1-1-i)),sum,xf n f,add_comm];congr 1;exact aR λi hi=>by congr 1;omega
theorem eI (f g:Nat->F)(n:Nat):conv f g n=conv g f n:=by
 unfold conv;rw[xf];refine aR λi hi=>?_
 rw[mul_comm];congr 1<;>congr 1<;>omega
theorem jT {f' g g':Nat->F}(h1:∀j,j<=n->f j=f' j)(h2:∀j,j<=n->g j=g' j):conv f g n=conv f' g' n :=
 aR λj hj=>by rw[h1 j (by omega),h2 (n-j) (by omega)]
theorem iZ (f g t:Nat->F)(n:Nat):conv (λj=>f j+g j) t n=conv f t n+conv g t n:=by
 unfold conv;rw[<-sum_add];exact aR λj _=>add_mul ..
theorem jE (a:F)(f t:Nat->F)(n:Nat):conv (λj=>a*f j) t n=a*conv f t n:=by
 unfold conv;rw[iG];exact aR λj _=>mul_assoc ..
noncomputable def sh (f:Nat->F):Nat->F
 |0=>0
 |n+1=>f n
theorem kK (f t:Nat->F)(n:Nat):conv (sh f) t (n+1)=conv f t n:=by
 unfold conv;rw[dH];show 0*_+_=_;rw[zero_mul,zero_add];exact aR λi hi=>by show f i*_=_;congr 2;omega
theorem ot (f t:Nat->F):conv (sh f) t 0=0:=by
 show 0+sh f 0*_=0;rw[zero_add];exact zero_mul _
structure Goes (t C:Nat->F)(L n:Nat):Prop where
 one:C 0=1
 Mx:∀j,L<j->C j=0
 Mq:∀k,L<=k->k<n->conv C t k=0
variable {C t:Nat->F}{L:Nat}
theorem Fq {C':Nat->F}{L':Nat}(g:Goes t C L n)(hd:conv C t n≠0)(g':Goes t C' L' (n+1)):n+1<=L+L':=by
 refine gb λh=>hd ?_
 have e:conv C' (conv C t) n=conv C t n:=by
  show sum (n+1) _=_;rw[dH,g'.one,one_mul,dR λi hi=>?_,add_zero];rfl;by_cases hL:i+1<=L'
  .rw[g.Mq (n-(i+1)) (by omega) (by omega),mul_zero]
  .rw[g'.Mx _ (by omega),zero_mul]
 have e':conv C (conv C' t) n=0:=by
  refine dR λi hi=>?_
  by_cases hL:i<=L
  .rw[g'.Mq (n-i) (by omega) (by omega),mul_zero]
  .rw[g.Mx _ (by omega),zero_mul]
 rw[<-e,yz,e']
structure Bm (t C f:Nat->F)(L:Nat)(b:F)(n:Nat):Prop where
 go:Goes t C L n
 le:L<=n
 Mx:∀j,n-L<j->f j=0
 Mq:∀k,n-L<=k->k+1<n->conv f t k=0
 OR:∀k,n-L<=k->k+1=n->conv f t k=b
 ne:b≠0
theorem Bm.init (t C f:Nat->F)(h0:C 0=1)(h:∀j,0<j->C j=0)(hf:∀j,0<j->f j=0):Bm t C f 0 1 0 where
 go:=⟨h0,h,λk _ h=>absurd h (gi k)⟩
 le:=au 0
 Mx:=hf
 Mq:=λk _ h=>absurd h (gi _)
 OR:=λk _ h=>absurd h (by omega)
 ne:=by decide
theorem Bm.same {b:F}(B:Bm t C f L b n)(h:conv C t n=0):Bm t C (sh f) L b (n+1) where
 go:=⟨B.go.one,B.go.Mx,λk a c=>by
  by_cases e:k=n
  .rw[e,h]
  .exact B.go.Mq k a (by omega)⟩
 le:=by have:=B.le;omega
 Mx:=λj hj=>by
  cases j with
  |zero=>rfl
  |succ j=>exact B.Mx j (by have:=B.le;omega)
 Mq:=λk a c=>by
  cases k with
  |zero=>exact ot ..
  |succ k=>rw[kK];exact B.Mq k (by have:=B.le;omega) (by omega)
 OR:=λk a c=>by
  cases k with
  |zero=>exact absurd a (by have:=B.le;omega)
  |succ k=>rw[kK];exact B.OR k (by have:=B.le;omega) (by omega)
 ne:=B.ne
noncomputable def uB (C f:Nat->F)(a:F):Nat->F:=λj=>C j+a*sh f j
variable {d:F}
theorem Bm.Oz {b a:F}(B:Bm t C f L b n)(hd:conv C t n=d)(ha:a*b=d)(M:Nat)(h1:L<=M)(h2:n+1-L<=M):Goes t (uB C f a) M (n+1) where
 one:=by show C 0+a*0=1;rw[mul_zero,add_zero];exact B.go.one
 Mx:=λj hj=>by
  show C j+a*sh f j=0;rw[B.go.Mx j (by omega),zero_add];cases j with
  |zero=>rfl
  |succ j=>show a*f j=0;rw[B.Mx j (by omega),mul_zero]
 Mq:=λk a' c=>by
  unfold uB;rw[iZ,jE];cases k with
  |zero=>exact absurd h2 (by have:=B.le;omega)
  |succ k=>
   rw[kK];by_cases e:k+1=n
   .rw[e,hd,B.OR k (by omega) e,ha,pI]
   .rw[B.go.Mq _ (by omega) (by omega),B.Mq k (by omega) (by omega),mul_zero,add_zero]
theorem Bm.longer {b a:F}(B:Bm t C f L b n)(hd:conv C t n=d)(h0:d≠0)(ha:a*b=d)(h:2*L<=n):Bm t (uB C f a) C (n+1-L) d (n+1) where
 go:=B.Oz hd ha _ (by omega) (by omega)
 le:=by omega
 Mx:=λj hj=>B.go.Mx j (by omega)
 Mq:=λk a c=>B.go.Mq k (by omega) (by omega)
 OR:=λk a c=>by rw[show k=n by omega,hd]
 ne:=h0
theorem Bm.kept {b a:F}(B:Bm t C f L b n)(hd:conv C t n=d)(ha:a*b=d)(h:¬ 2*L<=n):Bm t (uB C f a) (sh f) L b (n+1) where
 go:=B.Oz hd ha _ (by omega) (by omega)
 le:=by have:=B.le;omega
 Mx:=λj hj=>by
  cases j with
  |zero=>rfl
  |succ j=>exact B.Mx j (by have:=B.le;omega)
 Mq:=λk a c=>by
  cases k with
  |zero=>exact ot ..
  |succ k=>rw[kK];exact B.Mq k (by have:=B.le;omega) (by omega)
 OR:=λk a c=>by
  cases k with
  |zero=>exact absurd a (by have:=B.le;omega)
  |succ k=>rw[kK];exact B.OR k (by have:=B.le;omega) (by omega)
 ne:=B.ne
variable {R:Nat->F}{w:Nat}
theorem Bm.least {N:Nat}{b:F}(B:Bm t C f L b n)(hd:conv C t n≠0)(R':Goes t R w N)(hN:n+1<=N):n+1-L<=w:=by
 have:=Fq B.go hd (C':=R) (L':=w) ⟨R'.one,R'.Mx,λk a c=>R'.Mq k a (by omega)⟩;omega
noncomputable def gS (x:F):Nat->F
 |0=>1
 |n+1=>gS x n*x
theorem lX (x:F)(m:Nat):∀n,gS x (m+n)=gS x m*gS x n
 |0=>(mul_one _).symm
 |n+1=>by show gS x (m+n)*x=gS x m*(gS x n*x);rw[lX x m n,mul_assoc]
theorem AD {x:F}(h:x≠0):∀n,gS x n≠0
 |0=>by show (1:F)≠0;decide
 |n+1=>kY (AD h n) h
noncomputable def wo (f:Nat->F)(n:Nat)(x:F):F:=sum n λj=>f j*gS x (n-1-j)
theorem wM (f:Nat->F)(n:Nat)(x:F):wo f (n+1) x=wo f n x*x+f n:=by
 show sum n _+_=_;unfold wo;rw[xh];congr 1
 .refine aR λj hj=>?_
  rw[mul_assoc];congr 1;show gS x (n+1-1-j)=gS x (n-1-j+1);congr 1;omega
 .show f n*gS x (n+1-1-n)=f n;rw[show n+1-1-n=0 by omega];exact mul_one _
theorem wV {n:Nat}{x:F}:∀{m:Nat},n<=m->(∀j,n<=j->j<m->f j=0)->wo f m x=wo f n x*gS x (m-n)
 |0,h,_=>by rw[Æ.mp h];exact (mul_one _).symm
 |m+1,h,z=>by
  by_cases e:n=m+1
  .rw[e,ju];exact (mul_one _).symm
  .rw[wM,z m (by omega) (by omega),add_zero,wV (m:=m) (by omega) λj a b=>z j a (by omega),mul_assoc];congr 1;show gS x (m-n+1)=_;congr 1;omega
theorem Ke (f:Nat->F)(n:Nat)(x:F):wo (sh f) (n+1) x=wo f n x:=by
 unfold wo;rw[dH];show 0*_+_=_;rw[zero_mul,zero_add];exact aR λi hi=>by show f i*_=_;congr 2;omega
theorem AJ (f g:Nat->F)(n:Nat)(x:F):wo (λj=>f j+g j) n x=wo f n x+wo g n x:=by
 unfold wo;rw[<-sum_add];exact aR λj _=>add_mul ..
theorem we (a:F)(f:Nat->F)(n:Nat)(x:F):wo (λj=>a*f j) n x=a*wo f n x:=by
 unfold wo;rw[iG];exact aR λj _=>mul_assoc ..
theorem Bl {g:Nat->F}{x:F}(h:∀j,j<n->f j=g j):wo f n x=wo g n x:=aR λj hj=>by rw[h j hj]
noncomputable def gJ:List F->Nat->F
 |[],n=>if n=0 then 1 else 0
 |x::l,n=>gJ l n+x*sh (gJ l) n
theorem pf:∀(l:List F) {j:Nat},l.length<j->gJ l j=0
 |[],j,h=>if_neg (by simp at h;omega)
 |x::l,j,h=>by
  simp only[cg] at h;show gJ l j+x*sh (gJ l) j=0;rw[pf l (by omega),zero_add];cases j with
  |zero=>rfl
  |succ j=>show x*gJ l j=0;rw[pf l (by omega),mul_zero]
theorem xg:∀(l:List F),gJ l 0=1
 |[]=>rfl
 |x::l=>by show gJ l 0+x*0=1;rw[xg l,mul_zero,add_zero]
noncomputable def dist (x:F):List F->F
 |[]=>1
 |y::l=>dist x l*(x+y)
theorem xi (x:F):∀(l:List F),wo (gJ l) (l.length+1) x=dist x l
 |[]=>by show 0+1*1=1;rw[zero_add,mul_one]
 |y::l=>by
  show wo (λj=>gJ l j+y*sh (gJ l) j) (l.length+1+1) x=dist x l*(x+y);rw[AJ,we,Ke,wM,pf l (i5 _),add_zero,xi x l,mul_add,mul_comm y]
theorem rS {x:F}:∀{l:List F},x∉l->dist x l≠0
 |[],_=>by show (1:F)≠0;decide
 |y::l,h=>kY (rS λe=>h (aa _ e)) λe=>h (by rw[yn e];exact ag)
theorem kL {x:F}:∀{l:List F},x∈l->dist x l=0
 |y::l,h=>by
  show dist x l*(x+y)=0;rcases fe.mp h with rfl|h
  .rw[pI,mul_zero]
  .rw[kL h,zero_mul]
theorem Cp (f g:Nat->F):∀n,sh (λj=>f j+g j) n=sh f n+sh g n
 |0=>(add_zero 0).symm
 |n+1=>rfl
theorem Bs (a:F)(f:Nat->F):∀n,sh (λj=>a*f j) n=a*sh f n
 |0=>rfl
 |n+1=>rfl
theorem xK {l m:List F}(h:l.Perm m):gJ l=gJ m:=by
 induction h with
 |nil=>rfl
 |cons x _ ih=>funext n;show gJ _ n+x*sh (gJ _) n=_;rw[ih];rfl
 |swap x y l=>
  funext n;show (gJ l n+x*sh (gJ l) n)+y*sh (λj=>gJ l j+x*sh (gJ l) j) n=(gJ l n+y*sh (gJ l) n)+x*sh (λj=>gJ l j+y*sh (gJ l) j) n;rw[Cp,Cp,Bs,Bs,mul_add,mul_add,<-mul_assoc,<-mul_assoc,mul_comm y x]
  ac_rfl
 |trans _ _ a b=>rw[a,b]
noncomputable def ps:List (F×F)->Nat->F
 |[],_=>0
 |p::l,j=>p.1*gS p.2 j+ps l j
noncomputable def lsum:List F->F
 |[]=>0
 |a::l=>a+lsum l
theorem w9 (j:Nat):∀(l:List (F×F)),ps l j=lsum (l.map λp=>p.1*gS p.2 j)
 |[]=>rfl
 |p::l=>by show _+_=_+_;rw[w9 j l]
theorem kI (g:Nat->F)(h:∀j,j<=n->f j=0):conv f g n=0:=dR λj hj=>by rw[h j (by omega),zero_mul]
variable {G:Nat->F}
theorem zj (x:F){m:Nat}(hG:∀j,m<j->G j=0)(k:Nat):conv (λj=>gS x (j+1)) G (m+k)=gS x (k+1)*wo G (m+1) x:=by
 rw[eI];unfold conv wo;rw[gT (n:=m+1) (by omega) λi a b=>by rw[hG i (by omega),zero_mul],iG];refine aR λj hj=>?_
 show G j*gS x (m+k-j+1)=_;rw[show m+k-j+1=(k+1)+(m+1-1-j) by omega,lX]
 ac_rfl
theorem freed {m:Nat}(hG:∀j,m<j->G j=0)(k:Nat):∀(es:List (F×F)),conv (λj=>ps es (j+1)) G (m+k)=ps (es.map λp=>(p.1*(p.2*wo G (m+1) p.2),p.2)) k
 |[]=>kI G λ_ _=>rfl
 |p::l=>by
  show conv (λj=>p.1*gS p.2 (j+1)+ps l (j+1)) G (m+k)=p.1*(p.2*wo G (m+1) p.2)*gS p.2 k+ps _ k;rw[iZ,jE,zj p.2 hG,freed hG k l];congr 1;show p.1*(gS p.2 k*p.2*wo G (m+1) p.2)=_
  ac_rfl
theorem AN (x:F)(l:List F):∀k,conv (λj=>gS x (j+1)) (gJ (x::l)) k=x*gJ l k:=by
 have h:∀(f:Nat->F) k,conv f (λj=>gS x (j+1)) (k+1)=x*conv f (λj=>gS x (j+1)) k+f (k+1)*x:=λf k=>by
  show sum (k+1) _+f (k+1)*gS x (k+1-(k+1)+1)=_;rw[ju,show gS x (0+1)=x from one_mul x];unfold conv;rw[iG];congr 1;refine aR λj hj=>?_
  show f j*gS x (k+1-j+1)=x*(f j*gS x (k-j+1));rw[show k+1-j+1=(k-j+1)+1 by omega];show f j*(gS x (k-j+1)*x)=_
  ac_rfl
 intro k;rw[eI];show conv (λj=>gJ l j+x*sh (gJ l) j) _ k=_;rw[iZ,jE];cases k with
 |zero=>
  rw[ot,mul_zero,add_zero];show 0+gJ l 0*(1*x)=_;rw[zero_add,one_mul,mul_comm]
 |succ k=>
  rw[kK,h];generalize x*conv (gJ l) (λj=>gS x (j+1)) k=y;rw[add_comm y,add_assoc,pI,add_zero,mul_comm]
theorem heads (ls:List F):∀(es:List (F×F)),(∀p∈es,p.2∈ls)->∀k,conv (λj=>ps es (j+1)) (gJ ls) k=lsum (es.map λp=>p.1*(p.2*gJ (ls.erase p.2) k))
 |[],_,k=>kI _ λ_ _=>rfl
 |p::l,h,k=>by
  show conv (λj=>p.1*gS p.2 (j+1)+ps l (j+1)) _ k=p.1*(p.2*gJ (ls.erase p.2) k)+lsum _;rw[iZ,jE,heads ls l (λq hq=>h q (aa _ hq)),xK (List.perm_cons_erase (h p ag)),AN]
theorem CK (n:Nat)(x:F):wo (λ_=>0) n x=0:=dR λ_ _=>zero_mul _
theorem tV {ls:List F}(x:F)(h0:ls≠[]):∀(es:List (F×F)),(∀p∈es,p.2∈ls)->wo (λk=>lsum (es.map λp=>p.1*(p.2*gJ (ls.erase p.2) k))) ls.length x=lsum (es.map λp=>p.1*(p.2*dist x (ls.erase p.2)))
 |[],_=>CK _ _
 |p::l,h=>by
  show wo (λk=>p.1*(p.2*gJ (ls.erase p.2) k)+lsum (l.map _)) ls.length x=p.1*(p.2*_)+lsum _;rw[AJ,we,we,tV x h0 l λq hq=>h q (aa _ hq)];have e:ls.length=(ls.erase p.2).length+1:=by
   rw[List.length_erase_of_mem (h p ag)];have:0<ls.length:=List.length_pos_iff.mpr h0;omega
  conv=>lhs;lhs;rw[e]
  rw[xi]
theorem qm:∀{l:List F},(∀a∈l,a=0)->lsum l=0
 |[],_=>rfl
 |a::l,h=>by show a+lsum l=0;rw[h a ag,zero_add];exact qm λb hb=>h b (aa _ hb)
variable {es:List (F×F)}
theorem Ck {ls:List F}(hn:(es.map (·.2)).Nodup)(hnl:ls.Nodup)(h:∀p∈es,p.2∈ls){p:F×F}(hp:p∈es) :
  lsum (es.map λq=>q.1*(q.2*dist p.2 (ls.erase q.2)))=p.1*(p.2*dist p.2 (ls.erase p.2)):=by
 have z:∀q∈es,q.2≠p.2->q.1*(q.2*dist p.2 (ls.erase q.2))=0:=λq hq Mm=>by
  rw[kL ((List.mem_erase_of_ne (cv Mm)).mpr (h p hp)),mul_zero,mul_zero]
 clear h
 induction es with
 |nil=>cases hp
 |cons q l ih=>
  rw[av,jy] at hn;show q.1*(q.2*_)+lsum _=_;rcases fe.mp hp with rfl|hp
  .rw[qm,add_zero];intro a ha;obtain⟨r,hr,rfl⟩:=χ.mp ha;exact z r (aa _ hr) λe=>hn.1 (χ.mpr ⟨r,hr,e⟩)
  .rw[z q ag λe=>hn.1 (χ.mpr ⟨p,hp,e.symm⟩),zero_add];exact ih hn.2 hp λr hr=>z r (aa _ hr)
theorem DO {N:Nat}(ht:∀k,k<N->t k=ps es k):Goes t (gJ (es.map (·.2))) es.length N where
 one:=xg _
 Mx:=λj hj=>pf _ (by rw[ai];exact hj)
 Mq:=λk a b=>by
  rw[jT (g':=ps es) (λ_ _=>rfl) λj hj=>ht j (by omega)];have key:∀(NU:List (F×F)),(∀p∈NU,p.2∈es.map (·.2))->conv (gJ (es.map (·.2))) (ps NU) k=0:=by
   intro NU
   induction NU with
   |nil=>exact λ_=>dR λ_ _=>mul_zero _
   |cons p l ih=>
    intro h;rw[eI];show conv (λj=>p.1*gS p.2 j+ps l j) _ k=0;rw[iZ,jE,eI (ps l),ih λq hq=>h q (aa _ hq),add_zero];have hk:k=es.length+(k-es.length):=by omega
    have e:conv (gS p.2) (gJ (es.map (·.2))) k=gS p.2 (k-es.length)*wo (gJ (es.map (·.2))) (es.length+1) p.2:=by
     conv=>lhs;rw[hk]
     rw[eI];unfold conv wo;rw[gT (n:=es.length+1) (by omega) λi a b=>by rw[pf _ (by rw[ai];omega),zero_mul],iG];refine aR λj hj=>?_
     rw[show es.length+(k-es.length)-j=(k-es.length)+(es.length+1-1-j) by omega,lX]
     ac_rfl
    have e2:=xi p.2 (es.map (·.2));rw[ai] at e2;rw[e,e2,kL (h p ag),mul_zero,mul_zero]
  exact key es λp hp=>χ.mpr ⟨p,hp,rfl⟩
theorem Ru {l:List (F×F)}(h0:∀p∈l,p.2≠0)(hn:(l.map (·.2)).Nodup){a:Nat}(z:∀j,a<=j->j<a+l.length->ps l j=0):∀p∈l,p.1=0:=by
 have Sf:∀(x:F) j,(gS x j).v=pw x.v j:=λx j=>by
  induction j with
  |zero=>rfl
  |succ j ih=>show tm (gS x j).v x.v=_;rw[ih];rfl
 have RN:∀(l:List (F×F)) j,sm (l.map λp=>(p.1.v,p.2.v)) j=(ps l j).v:=λl j=>by
  induction l with
  |nil=>rfl
  |cons p r ih=>show tm p.1.v (pw p.2.v j)^^^_=tm p.1.v (gS p.2 j).v^^^_;rw[ih,Sf]
 intro p hp;refine F.ext (Bu l.length (l:=l.map λp=>(p.1.v,p.2.v)) (by simp) (λq hq=>?_) (λq hq=>?_) ?_ a (λj h1 h2=>?_) (p.1.v,p.2.v) (χ.mpr ⟨p,hp,rfl⟩))
 .obtain⟨r,_,rfl⟩:=χ.mp hq;exact⟨r.1.h,r.2.h⟩
 .obtain⟨r,hr,rfl⟩:=χ.mp hq;exact λe=>h0 r hr (F.ext e)
 .rw[aw];have:(XI ((λx=>x.2)∘λp:F×F=>(p.1.v,p.2.v)) l)=(l.map (·.2)).map F.v:=by rw[aw];rfl
  rw[this];rw[Zc,jg];exact hn.imp λh e=>h (F.ext e)
 .rw[RN,z j h1 h2];rfl
theorem yZ {es:List (F×F)}{C:Nat->F}{N n:Nat}(ht:∀k,k<N->t k=ps es k)(h0:∀p∈es,p.2≠0)(hn:(es.map (·.2)).Nodup)(g:Goes t C L N)(hL:L<=es.length)(hN:2*es.length<=N)
  (hn1:0<n) (hnL:n<=L+1) (hC:∀j,n<=j->C j=0) {p:F×F}(hp:p∈es) (hpe:p.1≠0):wo C n p.2=0:=by
 have key:=Ru (l:=es.map λq=>(q.1*wo C (es.length+1) q.2,q.2)) (λq hq=>by obtain⟨r,hr,rfl⟩:=χ.mp hq;exact h0 r hr) (by rw[aw];exact hn) (a:=0) (λj _ hj=>by
  simp only[ai,en] at hj;have z:=g.Mq (es.length+j) (by omega) (by omega);rw[jT (g':=ps es) (λ_ _=>rfl) (λi hi=>ht i (by omega))] at z;rw[<-z];clear z;have gen:∀(l:List (F×F)),ps (l.map λq=>(q.1*wo C (es.length+1) q.2,q.2)) j=conv C (ps l) (es.length+j):=by
   intro l
   induction l with
   |nil=>exact (dR λ_ _=>mul_zero _).symm
   |cons q r ih=>
    show q.1*wo C (es.length+1) q.2*gS q.2 j+ps _ j=_;rw[ih,eI C (ps (q::r))];show _=conv (λi=>q.1*gS q.2 i+ps r i) C _;rw[iZ,jE,eI (ps r)];congr 1;rw[mul_assoc];congr 1;rw[eI];unfold conv wo;rw[xh,gT (n:=es.length+1) (m:=es.length+j+1) (by omega) λi a b=>by rw[g.Mx i (by omega),zero_mul]];refine aR λi hi=>?_
    rw[show es.length+j-i=(es.length+1-1-i)+j by omega,lX,mul_assoc]
  exact gen es) (p.1*wo C (es.length+1) p.2,p.2) (χ.mpr ⟨p,hp,rfl⟩)
 have z:wo C (es.length+1) p.2=0:=gb λh=>kY hpe h key
 rw[wV (n:=n) (by omega) λj a b=>hC j a] at z;exact gb λh=>kY h (AD (h0 p hp) _) z
noncomputable def toF (n:Nat):F:=⟨n%64,ip _ (by decide)⟩
theorem nz (h:n<64):(toF n).v=n:=Nat.mod_eq_of_lt h
theorem nZ {a b:Nat}(ha:a<64)(hb:b<64):toF (a^^^b)=toF a+toF b:=F.ext (by rw[nz (aZ ha hb),JU,nz ha,nz hb])
theorem fQ {a b:Nat}(ha:a<64)(hb:b<64):toF (tm a b)=toF a*toF b:=F.ext (by rw[nz (bN ha hb),JN,nz ha,nz hb])
theorem Cf:toF 0=0:=rfl
theorem rV:toF 1=1:=rfl
theorem pV {a b:Nat}(ha:a<64)(hb:b<64)(h:toF a=toF b):a=b:=by rw[<-nz ha,<-nz hb,h]
theorem m7 {a:Nat}(ha:a<64)(h:a≠0):toF a≠0:=λe=>h (pV ha (by decide) e)
variable {x:Nat}
theorem rK (hx:x<64):∀n,toF (pw x n)=gS (toF x) n
 |0=>rfl
 |n+1=>by show toF (tm (pw x n) x)=_;rw[fQ (bR hx n) hx,rK hx n];rfl
noncomputable def cf (l:List Nat)(j:Nat):F:=toF (l.getD j 0)
variable {j:Nat}{l:List Nat}
theorem iP (h:l.length<=j):cf l j=0:=by
 unfold cf;rw[ι,nw h];rfl
theorem jY (l:List Nat):cf (0::l)=sh (cf l):=by
 funext j;cases j<;>rfl
theorem ko (l:List Nat)(n:Nat):cf (l++ν n 0)=cf l:=by
 funext j;unfold cf;congr 1;rw[ι,ι];by_cases h:j<l.length
 .rw[Θ h]
 .rw[Μ (by omega),nw (l:=l) (by omega),Ω];split<;>rfl
theorem Cn {f:Nat}(hf:f<64)(h:Gr l)(j:Nat):cf (mulR f l) j=toF f*cf l j:=by
 unfold cf mulR;rw[ι,π,ι];cases q:l[j]? with
 |none=>exact (mul_zero _).symm
 |some g=>exact fQ hf (h g (Α q))
variable {p:Nat}
theorem Hi (h:Gr l){g:Nat}(hg:g<64)(hp:p<l.length)(j:Nat):cf (l.set p (l.getD p 0^^^g)) j=cf l j+if j=p then toF g else 0:=by
 unfold cf;by_cases e:j=p
 .subst e;rw[if_pos rfl,ι,ξ hp,Zd,nZ (dN h _) hg]
 .rw[if_neg e,add_zero,ι,μ (by omega),ι]
theorem oP:∀{m l:List Nat}{p:Nat},Gr l->Gr m->p+m.length<=l.length->∀j,cf (dX l p m) j=cf l j+if p<=j then cf m (j-p) else 0
 |[],l,p,_,_,_,j=>by
  show cf l j=_;rw[show (if p<=j then cf [] (j-p) else 0)=0 by split;exact iP (dn _);rfl,add_zero]
 |g::r,l,p,h,hm,hp,j=>by
  have Ly:=hm g ag;have hr:Gr r:=λz hz=>hm z (aa _ hz)
  have OX:p+(r.length+1)<=l.length:=by simpa using hp
  rw[dX,oP (rP h Ly) hr (by rw[ak];omega),Hi h Ly (by omega),add_assoc];congr 1;by_cases e:j=p
  .subst e;rw[if_pos rfl,if_neg (by omega),if_pos (au _),ju,add_zero];rfl
  .rw[if_neg e,zero_add];by_cases h2:p+1<=j
   .rw[if_pos h2,if_pos (by omega),show j-p=(j-(p+1))+1 by omega];rfl
   .rw[if_neg h2,if_neg (by omega)]
theorem qr:∀{a b l:List Nat}{k:Nat},Gr a->Gr b->Gr l->k+a.length+b.length<=l.length+1->0<b.length->∀j,cf (fN l k a b) j=cf l j+if k<=j then conv (cf a) (cf b) (j-k) else 0
 |[],b,l,k,_,_,_,_,_,j=>by
  show cf l j=_;rw[show (if k<=j then conv (cf []) (cf b) (j-k) else 0)=0 by split;exact kI _ λ_ _=>iP (dn _);rfl,add_zero]
 |g::a,b,l,k,ha,hb,hl,h,h0,j=>by
  have Ly:=ha g ag;have Nb:Gr a:=λz hz=>ha z (aa _ hz)
  simp only[cg] at h;rw[fN,qr Nb hb (jI hl (lM Ly hb)) (by rw[cW];omega) h0,oP hl (lM Ly hb) (by rw[my];omega),add_assoc];congr 1;by_cases e:j<k
  .rw[if_neg (by omega),if_neg (by omega),if_neg (by omega),add_zero]
  .have e1:k<=j:=by omega
   rw[if_pos e1,Cn Ly hb];by_cases e2:j=k
   .subst e2;rw[if_neg (by omega),if_pos e1,add_zero,ju];show _=0+cf (g::a) 0*cf b (0-0);rw[zero_add];rfl
   .rw[if_pos (show k+1<=j by omega),if_pos e1];show _=sum (j-k+1) _;rw[dH,show j-(k+1)=j-k-1 by omega];have e3:j-k=(j-k-1)+1:=by omega
    show _=toF g*cf b (j-k)+sum (j-k) λi=>cf a i*cf b (j-k-(i+1))
    congr 1
    conv=>rhs;rw[e3]
    exact aR λi hi=>by congr 2;omega
theorem tP (n j:Nat):cf (ν n 0) j=0:=by
 have:=congrFun (ko [] n) j;rw[X1] at this;rw[this];exact iP (dn _)
variable {a b:List Nat}
theorem pH (ha:Gr a)(hb:Gr b)(O4:0<b.length)(j:Nat):cf (eM a b) j=conv (cf a) (cf b) j:=by
 by_cases h0:a.length=0
 .rw[Yv.mp h0];show cf (ν _ 0) j=_;rw[tP,kI _ λ_ _=>iP (dn _)]
 unfold eM;rw[qr ha hb (gK _) (by rw[bf];omega) O4,tP,zero_add,if_pos (dn _)];rfl
theorem sO {x:Nat}(hx:x<64)(h:Gr l):toF (dP x l)=wo (cf l) l.length (toF x):=by
 induction l with
 |nil=>rfl
 |cons g r ih=>
  have hr:Gr r:=λz hz=>h z (aa _ hz)
  have Ly:g<64:=h g ag;have e:dP x (g::r)=tm g (pw x r.length)^^^dP x r:=by
   show iW x (tm 0 x^^^g) r=_;rw[cQ hx,cx,jF hx Ly hr]
  rw[e,nZ (bN Ly (bR hx _)) (hU hx (by decide) hr),fQ Ly (bR hx _),ih hr,rK hx];show _=sum (r.length+1) _;rw[dH];congr 1;exact aR λj hj=>by show cf r j*_=cf r j*_;congr 2;show _=r.length+1-1-(j+1);omega
theorem wO:∀{ns r:List Nat}{l:List F},Gr ns->Gr r->0<r.length->cf r=gJ l->cf (fS r ns)=gJ ((ns.map toF).reverse++l)
 |[],r,l,_,_,_,e=>e
 |n::ns,r,l,hn,hr,h0,e=>by
  have N2:=hn n ag;have hb:Gr [1,n]:=.cons (by decide) (.cons N2 .nil);have hl:=gR r [1,n];rw[fS,wO (l:=toF n::l) (λz hz=>hn z (aa _ hz)) (kl hr hb) (by rw[hl];simp)]
  .rw[av,List.reverse_cons,ef];rfl
  .funext j;rw[pH hr hb (by simp),eI,e];show _=gJ l j+toF n*sh (gJ l) j;have:∀f:Nat->F,conv (cf [1,n]) f j=f j+toF n*sh f j:=λf=>by
    cases j with
    |zero=>show 0+cf [1,n] 0*f 0=f 0+toF n*0;rw[zero_add,mul_zero,add_zero];exact one_mul _
    |succ j=>
     unfold conv;rw[dH,show cf [1,n] 0=1 from rfl,one_mul,dH,show cf [1,n] (0+1)=toF n from rfl,dR λi _=>by rw[iP (by show 2<=i+1+1;omega),zero_mul],add_zero];rfl
   exact this _
theorem GD:cf [1]=gJ []:=by
 funext j;cases j with
 |zero=>rfl
 |succ j=>exact iP (by simp)
noncomputable def dO (nums:List Nat)(place:Nat):Nat->List Nat->Nat->Nat
 |_,[],g=>g
 |k,f::r,g=>dO nums place (k+1) r (g^^^tm f (nums.getD (place-k) 0))
variable {nums:List Nat}
theorem lQ (hn:Gr nums)(place:Nat):∀{r:List Nat}{k g:Nat},Gr r->g<64->dO nums place k r g<64
 |[],_,_,_,h=>h
 |f::r,k,g,hr,h=>by
  rw[dO];exact lQ hn place (λz hz=>hr z (aa _ hz)) (aZ h (bN (hr f ag) (dN hn _)))
theorem qj (hn:Gr nums)(place:Nat):∀{r:List Nat}{k g:Nat},Gr r->g<64->toF (dO nums place k r g)=toF g+sum r.length λj=>cf r j*cf nums (place-(k+j))
 |[],_,_,_,h=>(add_zero _).symm
 |f::r,k,g,hr,h=>by
  have Pt:=hr f ag;have Mz:=bN Pt (dN hn (place-k));rw[dO,qj hn place (λz hz=>hr z (aa _ hz)) (aZ h Mz),nZ h Mz,fQ Pt (dN hn _),add_assoc];congr 1;show _=sum (r.length+1) _;rw[dH];congr 1;exact aR λj hj=>by show cf r j*_=cf r j*_;congr 2;omega
theorem tU {r:List Nat}(hn:Gr nums)(hr:Gr r){place:Nat}(h:r.length<=place+1):toF (dO nums place 0 r 0)=conv (cf r) (cf nums) place:=by
 rw[qj hn place hr (by decide),Cf,zero_add];unfold conv;rw[gT h λi a b=>by rw[iP a,zero_mul]];exact aR λj hj=>by rw[en]
noncomputable def C5 (row:List Nat)(f:Nat):List Nat:=row.map λg=>tm g f
variable {row:List Nat}
theorem zB {f:Nat}(h:Gr row)(hf:f<64):Gr (C5 row f):=λz hz=>by
 obtain⟨g,hg,rfl⟩:=χ.mp hz;exact bN (h g hg) hf
theorem JC {f:Nat}(h:Gr row)(hf:f<64)(j:Nat):cf (C5 row f) j=toF f*cf row j:=by
 have:C5 row f=mulR f row:=fu λg hg=>eY (h g hg) hf
 rw[this,Cn hf h]
noncomputable def zu (a b:List Nat):List Nat:=dX (a++ν (b.length-a.length) 0) 0 b
theorem FX (ha:Gr a)(hb:Gr b):Gr (zu a b):=jI (ha.append (gK _)) hb
theorem D6 (a b:List Nat):(zu a b).length=a.length+(b.length-a.length):=by rw[zu,cW,az,bf]
theorem IQ (ha:Gr a)(hb:Gr b)(j:Nat):cf (zu a b) j=cf a j+cf b j:=by
 unfold zu;rw[oP (ha.append (gK _)) hb (by rw[az,bf];omega),ko,if_pos (dn _)];rfl
theorem inv_one {a:Nat}(h:a<64)(h0:a≠0):tm a (pw a 62)=1:=by
 have:=aX (n:=64) (f:=λa=>a==0 || tm a (pw a 62)==1) (by decide +kernel) a h;simpa[h0] using this
structure Sr where
 rule:List Nat
 len:Nat
 fo:List Nat
 gap:Nat
noncomputable def Sr.uB (nums:List Nat)(n:Nat)(s:Sr):List Nat:=zu s.rule (C5 (0::s.fo) (tm (dO nums n 0 s.rule 0) (pw s.gap 62)))
noncomputable def Sr.step (nums:List Nat)(n:Nat)(s:Sr):Sr :=
 if dO nums n 0 s.rule 0=0 then ⟨s.rule,s.len,0::s.fo,s.gap⟩
 else if 2*s.len<=n then ⟨s.uB nums n,n+1-s.len,s.rule,dO nums n 0 s.rule 0⟩
 else ⟨s.uB nums n,s.len,0::s.fo,s.gap⟩
noncomputable def oM (nums:List Nat):Nat->Sr
 |0=>⟨[1],0,[1],1⟩
 |n+1=>(oM nums n).step nums n
structure sg (nums:List Nat)(n:Nat)(s:Sr):Prop where
 gr:Gr s.rule
 gf:Gr s.fo
 gg:s.gap<64
 l0:0<s.rule.length
 lr:s.rule.length<=s.len+1
 lf:s.fo.length<=n-s.len+1
 f0:0<s.fo.length
 bm:Bm (cf nums) (cf s.rule) (cf s.fo) s.len (toF s.gap) n
variable {s:Sr}
theorem sg.ne (o:sg nums n s):s.gap≠0:=λe=>o.bm.ne (by rw[e];rfl)
theorem sg.rl (o:sg nums n s):s.rule.length<=n+1:=by have:=o.lr;have:=o.bm.le;omega
theorem Il (h:Gr l):Gr (0::l):=.cons (by decide) h
theorem sg.step (hn:Gr nums)(o:sg nums n s):sg nums (n+1) (s.step nums n):=by
 have hle:=o.bm.le;have Ly:=lQ hn n (k:=0) o.gr (g:=0) (by decide);have gc:=tU hn o.gr o.rl;have Mz:=bN Ly (bR o.gg 62);have ha:toF (tm (dO nums n 0 s.rule 0) (pw s.gap 62))*toF s.gap=toF (dO nums n 0 s.rule 0):=by
  rw[fQ Ly (bR o.gg 62),mul_assoc,mul_comm (toF (pw s.gap 62)),<-fQ o.gg (bR o.gg 62),inv_one o.gg o.ne,rV,mul_one]
 have hA:cf (s.uB nums n)=Md.uB (cf s.rule) (cf s.fo) (toF (tm (dO nums n 0 s.rule 0) (pw s.gap 62))):=by
  funext j;show cf (zu _ _) j=_;rw[IQ o.gr (zB (Il o.gf) Mz),JC (Il o.gf) Mz,jY];rfl
 have gA:Gr (s.uB nums n):=FX o.gr (zB (Il o.gf) Mz);have lA:(s.uB nums n).length=s.rule.length+(s.fo.length+1-s.rule.length):=by
  show (zu _ _).length=_;rw[D6];simp[C5]
 have lr:=o.lr;have lf:=o.lf;have l0:=o.l0;have f0:=o.f0;unfold Sr.step;split
 .rename_i h;rw[h] at gc;exact⟨o.gr,Il o.gf,o.gg,l0,lr,by simp only[cg];omega,by simp,by rw[jY];exact o.bm.same gc.symm⟩
 .rename_i h;split
  .rename_i h2;refine⟨gA,o.gr,Ly,by rw[lA];omega,by rw[lA];show _<=n+1-s.len+1;omega,by show s.rule.length<=n+1-(n+1-s.len)+1;omega,l0,?_⟩;show Bm _ (cf (s.uB nums n)) _ _ _ _;rw[hA];exact o.bm.longer gc.symm (m7 Ly h) ha h2
  .rename_i h2;refine⟨gA,Il o.gf,o.gg,by rw[lA];omega,by rw[lA];show _<=s.len+1;omega,by show s.fo.length+1<=n+1-s.len+1;omega,by simp,?_⟩;show Bm _ (cf (s.uB nums n)) (cf (0::s.fo)) _ _ _;rw[hA,jY];exact o.bm.kept gc.symm ha h2
theorem Ay (h:0<j):cf [1] j=0:=iP h
theorem xk (hn:Gr nums):∀n,sg nums n (oM nums n)
 |0=>⟨.cons (by decide) .nil,.cons (by decide) .nil,by show 1<64;decide,by show 0<1;decide,by show 1<=0+1;decide,by show 1<=0-0+1;decide,by show 0<1;decide,Bm.init _ _ _ rfl (λj h=>Ay h) λj h=>Ay h⟩
 |n+1=>(xk hn n).step hn
theorem EV (hn:Gr nums){N:Nat}(g:Goes (cf nums) R w N):∀n,n<=N->(oM nums n).len<=w
 |0,_=>dn _
 |n+1,h=>by
  have ih:=EV hn g n (by omega);have o:=xk hn n;show ((oM nums n).step nums n).len<=w;unfold Sr.step;split
  .exact ih
  .rename_i h0;have gc:=tU hn o.gr o.rl;split
   .exact o.bm.least (by rw[<-gc];exact m7 (lQ hn n o.gr (by decide)) h0) g h
   .exact ih
noncomputable def loc (n p:Nat):Nat:=pw 2 (n-1-p)
theorem iS (n p:Nat):loc n p<64:=bR (by decide) _
theorem sR (n p:Nat):loc n p≠0:=Co (by decide) (by decide) _
noncomputable def locs (n:Nat)(l:List Nat):List Nat:=l.map (loc n)
theorem kJ (n:Nat)(l:List Nat):Gr (locs n l):=λz hz=>by obtain⟨p,_,rfl⟩:=χ.mp hz;exact iS n p
variable {q:Nat}
theorem xP (h:n<=63)(hp:p<n)(hq:q<n)(e:loc n p=loc n q):p=q:=by
 unfold loc at e;rcases Nat.lt_trichotomy (n-1-p) (n-1-q) with c|c|c
 .exact absurd e.symm (xE (by omega) c)
 .omega
 .exact absurd e (xE (by omega) c)
noncomputable def aU (g:List Nat)(c:Nat):List Nat:=(aW c).map λx=>dP x g
noncomputable def kd (n:Nat)(mi:List Nat):List Nat:=fS [1] (locs n mi)
noncomputable def fF (wo mi:List Nat)(n:Nat):List Nat:=((eM wo (kd n mi)).take wo.length).drop mi.length
noncomputable def iM (wo mi:List Nat)(n:Nat):List Nat:=(oM (fF wo mi n) (fF wo mi n).length).rule
noncomputable def others (mi:List Nat)(n:Nat):List Nat:=(υ n).filter λp=>!mi.contains p
noncomputable def susp (wo mi:List Nat)(n:Nat):List Nat:=(others mi n).filter λp=>dP (loc n p) (iM wo mi n)==0
noncomputable def cZ (x:Nat)(pr:Nat):List Nat->Nat
 |[]=>pr
 |o::l=>cZ x (if o=x then pr else tm pr (x^^^o)) l
noncomputable def dE (wo ls:List Nat):List Nat:=(eM wo (fS [1] ls)).take ls.length
noncomputable def share (hd ls:List Nat)(x:Nat):Nat:=tm (dP x hd) (pw (tm x (cZ x 1 ls)) 62)
noncomputable def vM (n:Nat)(hd ls:List Nat):List Nat->List Nat->List Nat
 |[],ch=>ch
 |p::r,ch=>vM n hd ls r (ch.set p (ch.getD p 0^^^share hd ls (loc n p)))
noncomputable def gN (g su wo:List Nat):List Nat:=vM g.length (dE wo (locs g.length su)) (locs g.length su) su g
variable {g:List Nat}
theorem kN (h:Gr g)(c:Nat):Gr (aU g c):=λz hz=>by
 obtain⟨x,hx,rfl⟩:=χ.mp hz;exact hU (fD c x hx) (by decide) h
theorem k7 (g:List Nat)(c:Nat):(aU g c).length=c:=by rw[aU,ai,fI]
theorem lq:Gr [1]:=.cons (by decide) .nil
theorem mf (n:Nat)(mi:List Nat):(kd n mi).length=mi.length+1/\Gr (kd n mi):=by
 obtain⟨a,b,_⟩:=fR (r:=[1]) (kJ n mi) lq (by decide) rfl;exact⟨by rw[kd,a];simp[locs];omega,b⟩
theorem Bw (ls:List Nat)(h:Gr ls):cf (fS [1] ls)=gJ (ls.map toF):=by
 rw[wO (l:=[]) h lq (by decide) GD,bc];exact xK (List.reverse_perm _)
theorem pE {wo:List Nat}(h:Gr wo)(mi:List Nat)(n:Nat):Gr (fF wo mi n):=λz hz=>
 kl h (mf n mi).2 z (i9 (Ps hz))
theorem qt (wo mi:List Nat)(n:Nat):(fF wo mi n).length=wo.length-mi.length:=by
 unfold fF;rw[gn,dk,gR,(mf n mi).1];omega
theorem sum_list:∀{l:List Nat}{n:Nat}{f:Nat->F},l.Nodup->(∀p∈l,p<n)->(∀p,p<n->p∉l->f p=0)->sum n f=lsum (l.map f)
 |[],n,f,_,_,z=>dR λp hp=>z p hp (by simp)
 |a::l,n,f,hn,hl,z=>by
  rw[jy] at hn;have ha:=hl a ag;have e:sum n f=sum n (λp=>if p=a then f p else 0)+sum n λp=>if p=a then 0 else f p:=by
   rw[<-sum_add];exact aR λp _=>by split;rw[add_zero];rw[zero_add]
  rw[e,CH ha (λp _ hp=>if_neg hp),if_pos rfl,sum_list (l:=l) hn.2 (λp hp=>hl p (aa _ hp)) λp hp hm=>?_]
  .show _=f a+lsum (l.map f);congr 2;exact fu λp hp=>if_neg λ(q:p=a)=>hn.1 (q ▸ hp)
  .by_cases h:p=a
   .rw[if_pos h]
   .rw[if_neg h];exact z p hp λQi=>by rcases fe.mp Qi with q|q;exact h q;exact hm q
noncomputable def x9 (n:Nat)(E:List Nat)(l:List Nat):List (F×F):=l.map λp=>(cf E p,toF (loc n p))
theorem sA (x:F)(i:Nat):∀j,gS (gS x i) j=gS x (i*j)
 |0=>rfl
 |j+1=>by show gS (gS x i) j*_=_;rw[sA x i j,<-lX,Nat.mul_succ]
theorem BG {E:List Nat}(hE:Gr E)(hn:l.Nodup)(hl:∀p∈l,p<E.length)(z:∀p,p<E.length->p∉l->E.getD p 0=0)(j:Nat):toF (dP (pw 2 j) E)=ps (x9 E.length E l) j:=by
 rw[sO (bR (by decide) j) hE,w9];unfold wo x9;rw[sum_list hn hl λp hp hm=>by show toF (E.getD p 0)*_=0;rw[z p hp hm];exact zero_mul _,aw];congr 1;refine fu λp hp=>?_
 show cf E p*_=cf E p*gS (toF (loc E.length p)) j;rw[loc,rK (by decide),rK (by decide),sA,sA,ö]
structure ke (g y mi W:List Nat)(c:Nat):Prop where
 gg:Gr g
 gy:Gr y
 ly:y.length=g.length
 Pk:g.length<=63
 Rm:c<=62
 code:vc y c
 mn:mi.Nodup
 ml:∀p∈mi,p<g.length
 wr:W=(others mi g.length).filter λp=>y.getD p 0 != g.getD p 0
 le:2*W.length+mi.length<=c
variable {mi:List Nat}
theorem fH:p∈others mi n↔p<n/\p∉mi:=by
 unfold others;rw[gx,na];simp
theorem lP (mi:List Nat)(n:Nat):(others mi n).Nodup:=Zz.filter _
section
variable {g y mi W:List Nat}{c:Nat}(N:ke g y mi W c)
include N
theorem ke.lE:(eQ g y).length=g.length:=z5 N.ly.symm
theorem ke.gE:Gr (eQ g y):=wN N.gg N.gy
theorem ke.E {p:Nat}(hp:p<g.length):(eQ g y).getD p 0=g.getD p 0^^^y.getD p 0:=by
 rw[ι,ι,ι,eQ,List.getElem?_zipWith,τ hp,τ (by rw[N.ly];exact hp)];rfl
theorem ke.Wm:p∈W↔p<g.length/\p∉mi/\y.getD p 0≠g.getD p 0:=by
 rw[N.wr,gx,fH];simp[and_assoc]
theorem ke.nd:(mi++W).Nodup:=by
 rw[fi];refine⟨N.mn,by rw[N.wr];exact (lP _ _).filter _,λa ha b hb e=>?_⟩;exact ((N.Wm).mp hb).2.1 (e ▸ ha)
theorem ke.lt (h:p∈mi++W):p<g.length:=by
 rcases il.mp h with h|h
 .exact N.ml p h
 .exact ((N.Wm).mp h).1
theorem ke.out (hp:p<g.length)(h:p∉mi++W):(eQ g y).getD p 0=0:=by
 rw[N.E hp];have:y.getD p 0=g.getD p 0:=gb λe=>h (aq _ ((N.Wm).mpr ⟨hp,λm=>h (a9 _ m),e⟩))
 rw[this,gj]
theorem ke.worth (hj:j<c):cf (aU g c) j=ps (x9 g.length (eQ g y) (mi++W)) (j+1):=by
 have e1:(aU g c).getD j 0=dP (pw 2 (j+1)) g:=by
  unfold aU aW;rw[ι,aw,π,List.getElem?_range' hj,bw,Zd];show dP (pw 2 _) g=_;congr 2;omega
 have hx:pw 2 (j+1)<64:=bR (by decide) _;have e2:dP (pw 2 (j+1)) (eQ g y)=dP (pw 2 (j+1)) g:=by
  rw[wH hx N.ly.symm N.gg N.gy,N.code (pw 2 (j+1)) (by
   unfold aW;exact χ.mpr ⟨j+1,Zq.mpr ⟨by omega,by omega⟩,rfl⟩),gq]
 have:=BG N.gE N.nd (λp hp=>by rw[N.lE];exact N.lt hp) (λp hp hm=>N.out (by rw[<-N.lE];exact hp) hm) (j+1);rw[N.lE] at this;rw[cf,e1,<-e2,this]
theorem ke.P4 (hp:p<g.length)(hq:q<g.length)(e:toF (loc g.length p)=toF (loc g.length q)):p=q:=xP N.Pk hp hq (pV (iS _ _) (iS _ _) e)
theorem ke.OP (hn:l.Nodup)(hl:∀p∈l,p<g.length):(l.map λp=>toF (loc g.length p)).Nodup:=by
 rw[Zc,jg];exact XD (λha hb h e=>h (N.P4 (hl _ ha) (hl _ hb) e)) hn
end
theorem AA (j:Nat):∀(a b:List (F×F)),ps (a++b) j=ps a j+ps b j
 |[],b=>(zero_add _).symm
 |p::a,b=>by show _+ps (a++b) j=_+ps a j+_;rw[AA j a b,add_assoc]
theorem xn (j:Nat):∀{a:List (F×F)},(∀p∈a,p.1=0)->ps a j=0
 |[],_=>rfl
 |p::a,h=>by show p.1*_+_=0;rw[h p ag,zero_mul,zero_add];exact xn j λq hq=>h q (aa _ hq)
section
variable {g y mi W:List Nat}{c:Nat}(N:ke g y mi W c)
include N
theorem ke.freed (hk:k<c-mi.length):cf (fF (aU g c) mi g.length) k=ps ((x9 g.length (eQ g y) W).map λp=>(p.1*(p.2*dist p.2 ((locs g.length mi).map toF)),p.2)) k:=by
 have lg:=mf g.length mi;have e1:cf (fF (aU g c) mi g.length) k=conv (cf (aU g c)) (cf (kd g.length mi)) (mi.length+k):=by
  rw[<-pH (kN N.gg c) lg.2 (by rw[lg.1];omega)];unfold cf fF;rw[ι,ι,List.getElem?_drop,UV,if_pos (by rw[k7];omega)]
 rw[e1,jT (f':=λj=>ps (x9 g.length (eQ g y) (mi++W)) (j+1)) (λj hj=>N.worth (by omega)) λ_ _=>rfl,Md.freed (m:=mi.length) (λj hj=>iP (by rw[lg.1];omega)) k];rw[kd,Bw _ (kJ _ _)];have ed:∀x,wo (gJ ((locs g.length mi).map toF)) (mi.length+1) x=dist x ((locs g.length mi).map toF):=λx=>by
  rw[<-xi,ai,locs,ai]
 simp only[ed];rw[x9,bq,bq,AA,xn,zero_add];rfl;intro q hq;obtain⟨r,hr,rfl⟩:=χ.mp hq;obtain⟨p,hp,rfl⟩:=χ.mp hr;show _*(_*dist (toF (loc g.length p)) _)=0;rw[kL (l:=(locs g.length mi).map toF) (χ.mpr ⟨loc g.length p,χ.mpr ⟨p,hp,rfl⟩,rfl⟩),mul_zero,mul_zero]
theorem ke.susp:susp (aU g c) mi g.length=W:=by
 have gw:=kN N.gg c;let fr:=fF (aU g c) mi g.length;have lf:fr.length=c-mi.length:=by show (fF _ _ _).length=_;rw[qt,k7]
 let es:=(x9 g.length (eQ g y) W).map λp=>(p.1*(p.2*dist p.2 ((locs g.length mi).map toF)),p.2)
 have Wn:es.length=W.length:=by simp[es,x9]
 have ht:∀k,k<fr.length->cf fr k=ps es k:=λk hk=>N.freed (lf ▸ hk)
 have hle:=N.le;have go:=DO ht;have o:=xk (pE gw mi g.length) fr.length;have hL:=EV (pE gw mi g.length) go fr.length (au _);have hr:∀p∈W,dP (loc g.length p) (iM (aU g c) mi g.length)=0:=λp hp=>by
  have m:=(N.Wm).mp hp;have hx:toF (loc g.length p)≠0:=m7 (iS _ _) (sR _ _);have z:=yZ (es:=es) (C:=cf (iM (aU g c) mi g.length)) (n:=(iM (aU g c) mi g.length).length) ht (λq hq=>by
    obtain⟨r,hr,rfl⟩:=χ.mp hq;obtain⟨p,hp,rfl⟩:=χ.mp hr;exact m7 (iS _ _) (sR _ _)) (by
    simp only[es,x9,aw];exact N.OP ((fi.mp N.nd).2.1) λq hq=>((N.Wm).mp hq).1) o.bm.go hL (by rw[Wn];omega) o.l0 o.lr (λj hj=>iP hj) (χ.mpr ⟨_,χ.mpr ⟨p,hp,rfl⟩,rfl⟩) (by
    refine kY ?_ (kY hx (rS λq=>?_))
    .show toF ((eQ g y).getD p 0)≠0;rw[N.E m.1];exact m7 (aZ (dN N.gg _) (dN N.gy _)) λe=>m.2.2 (cX e).symm
    .obtain⟨x,hx,e⟩:=χ.mp q;obtain⟨q,hq,rfl⟩:=χ.mp hx;exact m.2.1 (N.P4 (N.ml q hq) m.1 e ▸ hq))
  have z':=(sO (x:=loc g.length p) (iS _ _) o.gr).trans z;exact pV (hU (iS _ _) (by decide) o.gr) (by decide) z'
 have SU:W=(Md.susp (aU g c) mi g.length).filter λp=>y.getD p 0 != g.getD p 0:=by
  unfold Md.susp;rw[Ze]
  conv=>lhs;rw[N.wr]
  refine jh λp hp=>?_
  by_cases e:y.getD p 0=g.getD p 0
  .have:(y.getD p 0 != g.getD p 0)=ε:=by rw[e];exact bne_self_eq_false _
   rw[this,ZP]
  .have:=hr p ((N.Wm).mpr ⟨(fH.mp hp).1,(fH.mp hp).2,e⟩);rw[this];simp
 have hlen:(Md.susp (aU g c) mi g.length).length<=W.length:=by
  refine i7 λh=>?_
  have hz:=pB (xs:=locs g.length (Md.susp (aU g c) mi g.length)) (l:=iM (aU g c) mi g.length) (by
    unfold locs;rw[Zc,jg];refine XD (λ{a b} ha hb h e=>h (xP N.Pk ?_ ?_ e)) ((lP mi g.length).filter _)
    .exact (fH.mp (gx.mp ha |>.1)).1
    .exact (fH.mp (gx.mp hb |>.1)).1) (kJ _ _) o.gr (by
    have:=o.lr;have h2:(oM fr fr.length).len<=W.length:=by rw[<-Wn];exact hL
    have h3:(iM (aU g c) mi g.length).length<=(oM fr fr.length).len+1:=o.lr;simp only[locs,ai];omega) (λx hx=>by
    obtain⟨p,hp,rfl⟩:=χ.mp hx;have:=(gx.mp hp).2;simpa using this)
  have h1:=o.bm.go.one;have l0:=o.l0;have:(oM fr fr.length).rule.getD 0 0=0:=by
   rw[ι,τ l0];exact hz _ (jj l0)
  unfold cf at h1;rw[this] at h1;exact absurd h1 (by decide)
 have sl:W.Sublist (Md.susp (aU g c) mi g.length):=by
  conv=>lhs;rw[SU]
  exact List.filter_sublist
 exact (sl.eq_of_length_le hlen).symm
end
theorem jN (hx:x<64):∀{l:List Nat}{pr:Nat},Gr l->pr<64->cZ x pr l<64
 |[],_,_,h=>h
 |o::l,pr,hl,h=>by
  rw[cZ];refine jN hx (λz hz=>hl z (aa _ hz)) ?_;split
  .exact h
  .exact bN h (aZ hx (hl o ag))
theorem lh (hx:x<64):∀{l:List Nat}{pr:Nat},Gr l->pr<64->toF (cZ x pr l)=toF pr*dist (toF x) ((l.map toF).filter (· != toF x))
 |[],_,_,h=>(mul_one _).symm
 |o::l,pr,hl,h=>by
  have OK:=hl o ag;have hr:Gr l:=λz hz=>hl z (aa _ hz)
  rw[cZ,av];by_cases e:o=x
  .rw[if_pos e,lh hx hr h,iw (by rw[e];simp)]
  .have ne:toF o≠toF x:=λq=>e (pV OK hx q)
   rw[if_neg e,lh hx hr (bN h (aZ hx OK)),iu (by simpa using ne),fQ h (aZ hx OK),nZ hx OK];show _=toF pr*(dist _ _*(toF x+toF o))
   ac_rfl
variable {ls:List Nat}
theorem Be {hd:List Nat}(h1:Gr hd)(h2:Gr ls)(hx:x<64):share hd ls x<64:=bN (hU hx (by decide) h1) (bR (bN hx (jN hx h2 (by decide))) _)
theorem mD (n:Nat)(hd ls:List Nat):∀(su ch:List Nat),(vM n hd ls su ch).length=ch.length
 |[],_=>rfl
 |p::r,ch=>by rw[vM,mD n hd ls r,ak]
theorem xD (n:Nat)(hd ls:List Nat):∀{su ch:List Nat},su.Nodup->(∀p∈su,p<ch.length)->∀q,(vM n hd ls su ch).getD q 0=if q∈su then ch.getD q 0^^^share hd ls (loc n q) else ch.getD q 0
 |[],_,_,_,q=>by rw[if_neg (by simp)];rfl
 |p::r,ch,hn,hl,q=>by
  rw[jy] at hn;rw[vM,xD n hd ls hn.2 (λz hz=>by rw[ak];exact hl z (aa _ hz))];by_cases e:q=p
  .subst e;rw[if_neg hn.1,if_pos ag,ι,ξ (hl q ag)];rfl
  .have:(ch.set p (ch.getD p 0^^^share hd ls (loc n p))).getD q 0=ch.getD q 0:=by
    rw[ι,μ (by omega),ι]
   rw[this];by_cases m:q∈r
   .rw[if_pos m,if_pos (aa _ m)]
   .rw[if_neg m,if_neg λh=>by rcases fe.mp h with h|h;exact e h;exact m h]
theorem tK {wo:List Nat}(h:Gr wo)(h2:Gr ls):Gr (dE wo ls):=λz hz=>
 kl h (fR (r:=[1]) h2 lq (by decide) rfl).2.1 z (i9 hz)
theorem ze (wo ls:List Nat)(h2:Gr ls):(dE wo ls).length=ls.length:=by
 unfold dE;rw[dk,gR,(fR (r:=[1]) h2 lq (by decide) rfl).1];simp;omega
theorem zC (h:a.length=b.length)(e:∀p,p<a.length->a.getD p 0=b.getD p 0):a=b:=by
 refine cj h λp h1 h2=>?_
 have:=e p h1;rw[ι,ι,τ h1,τ h2] at this;exact this
section
variable {g y mi W:List Nat}{c:Nat}(N:ke g y mi W c)
include N
theorem ke.share (hp:p∈mi++W):share (dE (aU g c) (locs g.length (mi++W))) (locs g.length (mi++W)) (loc g.length p)=(eQ g y).getD p 0:=by
 have gw:=kN N.gg c;have gl:=kJ g.length (mi++W);have hx:=iS g.length p;have gh:=tK gw gl;have ll:(locs g.length (mi++W)).length=mi.length+W.length:=by simp[locs]
 have hle:=N.le;have eL:(locs g.length (mi++W)).map toF=(mi++W).map λp=>toF (loc g.length p):=by rw[locs,aw];rfl
 have Qg:((locs g.length (mi++W)).map toF).Nodup:=by rw[eL];exact N.OP N.nd λq hq=>N.lt hq
 have O0:∀q∈x9 g.length (eQ g y) (mi++W),q.2∈(locs g.length (mi++W)).map toF:=λq hq=>by
  obtain⟨r,hr,rfl⟩:=χ.mp hq;rw[eL];exact χ.mpr ⟨r,hr,rfl⟩
 have Mm:(locs g.length (mi++W)).map toF≠[]:=λe=>by
  have:=(χ (f:=λp=>toF (loc g.length p))).mpr ⟨p,hp,rfl⟩;rw[<-eL,e] at this;cases this
 have S5:((x9 g.length (eQ g y) (mi++W)).map (·.2)).Nodup:=by
  unfold x9;rw[aw];exact N.OP N.nd λq hq=>N.lt hq
 have S7:(cf (eQ g y) p,toF (loc g.length p))∈x9 g.length (eQ g y) (mi++W):=χ.mpr ⟨p,hp,rfl⟩;have e1:toF (dP (loc g.length p) (dE (aU g c) (locs g.length (mi++W))))=cf (eQ g y) p*(toF (loc g.length p)*dist (toF (loc g.length p)) (((locs g.length (mi++W)).map toF).erase (toF (loc g.length p)))):=by
  rw[sO hx gh,ze _ _ gl,<-Ck S5 Qg O0 S7,<-tV _ Mm _ O0,ai];refine Bl λk hk=>?_
  rw[<-heads _ _ O0];have:cf (dE (aU g c) (locs g.length (mi++W))) k=cf (eM (aU g c) (fS [1] (locs g.length (mi++W)))) k:=by
   unfold cf dE;rw[ι,ι,UV,if_pos hk]
  rw[this,pH gw (fR (r:=[1]) gl lq (by decide) rfl).2.1 (by rw[(fR (r:=[1]) gl lq (by decide) rfl).1];simp;omega),Bw _ gl];exact jT (λj hj=>N.worth (by omega)) λ_ _=>rfl
 have UH:=jN hx gl (pr:=1) (by decide);have e2:toF (cZ (loc g.length p) 1 (locs g.length (mi++W)))=dist (toF (loc g.length p)) (((locs g.length (mi++W)).map toF).erase (toF (loc g.length p))):=by
  rw[lh hx gl (by decide),rV,one_mul,Qg.erase_eq_filter]
 have ne:tm (loc g.length p) (cZ (loc g.length p) 1 (locs g.length (mi++W)))≠0:=λe=>by
  have z:toF (tm (loc g.length p) (cZ (loc g.length p) 1 (locs g.length (mi++W))))=0:=by rw[e];rfl
  rw[fQ hx UH,e2] at z;exact kY (m7 hx (sR _ _)) (rS Qg.not_mem_erase) z
 have Mz:=bN hx UH;refine pV (Be gh gl hx) (dN N.gE p) ?_;unfold Md.share;rw[fQ (hU hx (by decide) gh) (bR Mz _),e1,<-e2,<-fQ hx UH,mul_assoc,<-fQ Mz (bR Mz _),inv_one Mz ne,rV,mul_one];rfl
theorem ke.gN:gN g (mi++W) (aU g c)=y:=by
 unfold Md.gN;refine zC (by rw[mD,N.ly]) λp hp=>?_
 rw[mD] at hp;rw[xD _ _ _ N.nd λq hq=>N.lt hq];split
 .rename_i h;rw[N.share h,N.E hp,<-br,gj,cx]
 .rename_i h;have:=N.out hp h;rw[N.E hp] at this;exact cX this
end
noncomputable def dD (g y mi:List Nat):List Nat:=(υ g.length).filter λp=>!mi.contains p&&y.getD p 0 != g.getD p 0
theorem yH (g y mi:List Nat):dD g y mi=(others mi g.length).filter λp=>y.getD p 0 != g.getD p 0:=by
 unfold dD others;rw[Ze];exact jh λp _=>Bool.and_comm ..
noncomputable def cT (g mi:List Nat)(c:Nat):List Nat:=gN g (mi++susp (aU g c) mi g.length) (aU g c)
theorem x4 (g mi:List Nat)(c:Nat):(cT g mi c).length=g.length:=mD ..
theorem found {y:List Nat}{c:Nat}(gg:Gr g)(gy:Gr y)(ly:y.length=g.length)(Pk:g.length<=63)(Rm:c<=62)(code:vc y c)(mn:mi.Nodup)(ml:∀p∈mi,p<g.length)(le:2*(dD g y mi).length+mi.length<=c):cT g mi c=y:=by
 have N:ke g y mi (dD g y mi) c:=⟨gg,gy,ly,Pk,Rm,code,mn,ml,yH g y mi,le⟩;unfold cT;rw[N.susp,N.gN]
end Md
end
section
namespace Pc.Vw
open PySem Pc Pc.Sm Pc.Gr Fl64 Md
def aG (T:Tb)(e:Ex)(env:En)(d:D):Prop:=∃R,ev T e env=.ok (d,R)
variable {e:Ex}{f:Nat}{fr:Bool}{r:D}
section
variable {T:Tb}{env:En}{a b c:Ex}{x y z d:D}
theorem aG.bin {op:li}(h:aG T a env x)(h':aG T b env y)(e:mR op x y=θ z):aG T (.bin op a b) env z:=by
 obtain⟨R,h⟩:=h;obtain⟨R',h'⟩:=h';exact⟨_,by rw[ev,h,aB,h',aB,e,aL,aB]⟩
theorem aG.cmp {op:XU}{k:Bool}(h:aG T a env x)(h':aG T b env y)(e:mE op x y=θ k):aG T (.cmp op a b) env (.bl k):=by
 obtain⟨R,h⟩:=h;obtain⟨R',h'⟩:=h';exact⟨_,by rw[ev,h,aB,h',aB,e,aL,aB]⟩
theorem aG.ix (h:aG T a env x)(h':aG T b env y)(e:EN x y=θ z):aG T (.ix a b) env z:=by
 obtain⟨R,h⟩:=h;obtain⟨R',h'⟩:=h';exact⟨_,by rw[ev,h,aB,h',aB,e,aL,aB]⟩
theorem aG.cst (d:D):aG T (.cst d) env d:=⟨_,by rw[ev]⟩
theorem aG.MM (i:Nat):aG T (.MM i) env (T.gl i):=by
 cases h:ev T (.MM i) env with
 |ok p=>rw[ev] at h;exact⟨p.2,by rw[ev];cases h;rfl⟩
 |exc e=>rw[ev] at h;cases h
 |bad=>rw[ev] at h;cases h
theorem aG.kC (h:aG T a env x)(e:T.cl f [x]=.ok (r,fr)):aG T (.call f (.cons a .nil)) env r:=by
 obtain⟨R,h⟩:=h;exact⟨_,by rw[ev,bL,h,aB,bL,aB,aB];show (T.cl f [x]).bind _=_;rw[e,aB]⟩
theorem aG.cJ (h:aG T a env x)(h2:aG T b env y)(e:T.cl f [x,y]=.ok (r,fr)):aG T (.call f (.cons a (.cons b .nil))) env r:=by
 obtain⟨R,h⟩:=h;obtain⟨R2,h2⟩:=h2;exact⟨_,by rw[ev,bL,h,aB,bL,h2,aB,bL,aB,aB,aB];show (T.cl f [x,y]).bind _=_;rw[e,aB]⟩
theorem aG.Ow (h:aG T a env x)(h2:aG T b env y)(h3:aG T c env z)(e:T.cl f [x,y,z]=.ok (r,fr)):aG T (.call f (.cons a (.cons b (.cons c .nil)))) env r:=by
 obtain⟨R,h⟩:=h;obtain⟨R2,h2⟩:=h2;obtain⟨R3,h3⟩:=h3;exact⟨_,by rw[ev,bL,h,aB,bL,h2,aB,bL,h3,aB,bL,aB,aB,aB,aB];show (T.cl f [x,y,z]).bind _=_;rw[e,aB]⟩
theorem aG.LC {k:Cz}(h:aG T a env x)(e:kS k [x]=θ z):aG T (.blt k (.cons a .nil)) env z:=by
 obtain⟨R,h⟩:=h;exact⟨_,by rw[ev,bL,h,aB,bL,aB,aB];show (gQ (kS k [x])).bind _=_;rw[e,aL,aB]⟩
theorem aG.OO (h:aG T a env x):aG T (.lst (.cons a .nil)) env (.lst [x]):=by
 obtain⟨R,h⟩:=h;exact⟨_,by rw[ev,bL,h,aB,bL,aB,aB];exact if_pos (by show (1:Nat)<=lim;decide)⟩
theorem aG.not {k:Bool}(h:aG T a env (.bl k)):aG T (.not a) env (.bl (!k)):=by
 obtain⟨R,h⟩:=h;exact⟨_,by rw[ev,h,aB]⟩
theorem aG.and {k:Bool}{w:Bool}(h:aG T a env (.bl k))(h':k=ζ->aG T b env (.bl w))(hw:k=ε->w=ε):aG T (.and a b) env (.bl w):=by
 obtain⟨R,h⟩:=h;cases k with
 |true=>obtain⟨R',h'⟩:=h' rfl;exact⟨_,by rw[ev,h,aB];exact h'⟩
 |false=>rw[hw rfl];exact⟨_,by rw[ev,h,aB]⟩
theorem aG.or {k:Bool}{w:Bool}(h:aG T a env (.bl k))(h':k=ε->aG T b env (.bl w))(hw:k=ζ->w=ζ):aG T (.or a b) env (.bl w):=by
 obtain⟨R,h⟩:=h;cases k with
 |false=>obtain⟨R',h'⟩:=h' rfl;exact⟨_,by rw[ev,h,aB];exact h'⟩
 |true=>rw[hw rfl];exact⟨_,by rw[ev,h,aB]⟩
theorem kB {k:Bool}{p q:bJ}(h:aG T c env (.bl k)):bC T (.ite c p q) env=if k then aE T p env else aE T q env:=by
 obtain⟨R,h⟩:=h;rw[bC,h,aP];cases k<;>rfl
theorem B0 (h:aG T e env d):∃fr,Pc.ret (aE T (.cons (.ret e) .nil) env)=.ok (d,fr):=by
 obtain⟨R,h⟩:=h;rw[aE,bC,h,aP];exact⟨_,rfl⟩
end
def Vw (env:En)(vs:List (Option D)):Prop:=env.length=vs.length/\∀(j:Nat) (d:D),vs[j]? = θ (θ d)->∃t,env[j]? = θ (θ (d,t))
section
variable {T:Tb}{env:En}{vs:List (Option D)}{d:D}
theorem Vw.var (h:Vw env vs){i:Nat}(e:vs[i]? = θ (θ d)):aG T (.var i) env d:=by
 obtain⟨t,q⟩:=h.2 i d e;rw[aG,ev,q];exact⟨_,rfl⟩
theorem Vw.put (h:Vw env vs)(i:Nat)(d:D)(t:Tg):Vw (Pc.put env i d t) (vs.set i (θ d)):=by
 unfold Pc.put;refine⟨by rw[ak,ak,ai,h.1],λj x e=>?_⟩;by_cases hj:i=j
 .subst hj;have hl:i<vs.length:=by
   have:=(ο.mp e).1
   rwa [ak] at this
  rw[ξ hl] at e;cases e;exact⟨t,ξ (by rw[ai,h.1];exact hl)⟩
 .rw[μ hj] at e;obtain⟨t',q⟩:=h.2 j x e;refine⟨t'.drop i,?_⟩;rw[μ hj,π,q];rfl
theorem Vw.asg (h:Vw env vs){i:Nat}(hi:i<vs.length){e:Ex}(he:aG T e env d):∃env',bC T (.asg (.nm i) e ε) env=.nx env'/\Vw env' (vs.set i (θ d)):=by
 obtain⟨R,he⟩:=he;rw[bC,he,aP];have Mn:i<env.length:=by rw[h.1];exact hi
 show ∃env',(if i<env.length then _ else _)=_/\_;rw[if_pos Mn];cases R with
 |mv R=>
  cases R with
  |nil=>exact⟨_,rfl,h.put i d _⟩
  |cons r R=>exact⟨_,rfl,h.put i d _⟩
 |sh R=>exact⟨_,rfl,h.put i d _⟩
theorem Vw.bind (h:Vw env vs){i:Nat}(hi:i<vs.length)(R:List Nat)(d:D):∃env',be R (.nm i) d env=θ env'/\Vw env' (vs.set i (θ d)):=by
 refine⟨_,?_,h.put i d (dJ d R)⟩;show (if i<env.length then _ else _)=_;rw[if_pos (by rw[h.1];exact hi)]
theorem Vw.start (ds:List D)(n:Nat):Vw (aF ds n) (ds.map θ++ν (n-ds.length) η):=by
 unfold aF;refine⟨by simp,λj d e=>?_⟩;by_cases hj:j<ds.length
 .rw[Θ (by rw[ai];exact hj),π] at e;rw[Θ (by rw[ai];exact hj),π];cases q:ds[j]? with
  |none=>rw[q] at e;cases e
  |some x=>rw[q] at e;cases e;exact⟨_,rfl⟩
 .rw[Μ (by rw[ai];omega),Ω] at e;split at e<;>cases e
end
theorem qd {t:nQ}{R:List Nat}{b:En->Fl}(J:Nat->En->Prop):∀(l:List D) (k:Nat) (env:En),J k env ->
  (∀(i:Nat) (d:D) (e:En),l[i]? = θ d->J (k+i) e->∃e1 e2,be R t d e=θ e1/\(b e1=.nx e2\/b e1=.ct e2)/\J (k+i+1) e2)->∃e,bU t R b l env=.nx e/\J (k+l.length) e
 |[],k,env,h,_=>⟨env,rfl,h⟩
 |d::r,k,env,h,st=>by
  obtain⟨e1,e2,h1,h2,h3⟩:=st 0 d env rfl h;obtain⟨e,q1,q2⟩:=qd J r (k+1) e2 h3 λi d e hd hJ=>by
   have:=st (i+1) d e hd (by rw[show k+(i+1)=k+1+i by omega];exact hJ);rw[show k+(i+1)+1=k+1+i+1 by omega] at this;exact this
  refine⟨e,?_,by rw[cg,show k+(r.length+1)=k+1+r.length by omega];exact q2⟩;rw[bU,h1];rcases h2 with h2|h2
  .dsimp only;rw[h2];exact q1
  .dsimp only;rw[h2];exact q1
def zQ (T:Tb)(iv:Nat):Prop:=∀a:Nat,a<64->a≠0->T.cl iv [.int (a:Int)]=.ok (.int ((pw a 62:Nat):Int),ζ)
noncomputable def UU (g Ol:Nat):bJ:=(.cons (.ite (.cmp .Eq KU Kw) (.cons (.expr (.neg (.cst .Lj)))
  .nil) .nil)
  (.cons (.ret (.call Ol (La KU (.bin .Sub (.MM g) Ku))))
  .nil))
variable {Ol:Nat}
theorem Ju {T:Tb}{g:Nat}(hg:T.gl g=.int 64)(hp:Di T Ol){a:Nat}(ha:a<64)(h0:a≠0):Pc.ret (aE T (UU g Ol) (aF [.int (a:Int)] 1))=.ok (.int ((pw a 62:Nat):Int),ζ):=by
 have Lu:aF [.int (a:Int)] 1=[sN a]:=rfl;rw[Lu];have v0:ev T KU [sN a]=.ok (.int (a:Int),.mv []):=aJ rfl rfl;have c:ev T (.cmp .Eq KU Kw) [sN a]=.ok (.bl ε,.mv []):=by
  rw[ev,v0,aB,ev,aB];show (gQ (θ ((a:Int)==0))).bind _=_;rw[show ((a:Int)==0)=ε by rw[ja];omega];rfl
 have e:ev T (.bin .Sub (.MM g) Ku) [sN a]=.ok (.int ((62:Nat):Int),.mv []):=by
  have:∃R,ev T (.MM g) [sN a]=.ok (.int 64,R):=by
   have:=aG.MM (T:=T) (env:=[sN a]) g;rw[hg] at this;exact this
  obtain⟨R,q⟩:=this;rw[ev,q,aB,ev,aB,aS];rfl
 unfold UU;rw[aE,ite_ff c,aD];exact fY (Pc.Sm.cJ v0 e (hp a 62 ha (by decide)))
def HV (T:Tb)(gp:Nat):Prop:=∀(rule nums:List Nat) (place:Nat),Gr rule->Gr nums->rule.length<=place+1->place<nums.length->T.cl gp [.lst (gD rule),.lst (gD nums),.int (place:Int)]=.ok (.int ((dO nums place 0 rule 0:Nat):Int),ζ)
noncomputable def Hx (t:Nat):bJ:=(.cons (.asg (.nm 3) (.bin .BitXor KS (.call t (La KY (.ix KW (.bin .Sub KR KQ))))) ε)
  .nil)
noncomputable def UW (t:Nat):bJ:=(.cons (.asg (.nm 3) Kw ε)
  (.cons (.Li (.tp [4,5]) (.enum KU) (Hx t))
  (.cons (.ret KS)
  .nil)))
variable {T:Tb}{nums:List Nat}{place t:Nat}
theorem xv (ht:iV T t)(d:D)(hn:Gr nums)(hp:place<nums.length):∀(r:List Nat) (k g:Nat) (o4 o5:Slot),cH o4->cH o5->k+r.length<=place+1->∃Sl o5',bU (.tp [4,5]) [] (aE T (Hx t)) (Ct k r) [θ (d,.sh []),sG nums,sN place,sN g,o4,o5]=.nx [θ (d,.sh []),sG nums,sN place,sN (dO nums place k r g),Sl,o5']
 |[],k,g,o4,o5,_,_,_=>⟨o4,o5,rfl⟩
 |f::r,k,g,o4,o5,t4,t5,hk=>by
  simp only[cg] at hk;obtain⟨a,b,q⟩:=xv ht d hn hp r (k+1) (g^^^tm f (nums.getD (place-k) 0)) (sN k) (sN f) (aC _) (aC _) (by omega);refine⟨a,b,?_⟩;have te:Tame [θ (d,.sh []),sG nums,sN place,sN g,o4,o5]:=.cons (aM _) (.cons (aM _) (.cons (aC _) (.cons (aC _) (.cons t4 (.cons t5 .nil)))));have hb:be [] (.tp [4,5]) (.tup [.int (k:Int),.int (f:Int)]) [θ (d,.sh []),sG nums,sN place,sN g,o4,o5]=θ [θ (d,.sh []),sG nums,sN place,sN g,sN k,sN f]:=fX te (by simp) (by simp) rfl rfl;have LX:Tame [θ (d,.sh []),sG nums,sN place,sN g,sN k,sN f]:=.cons (aM _) (.cons (aM _) (.cons (aC _) (.cons (aC _) (.cons (aC _) (.cons (aC _) .nil)))));have v1:ev T KW [θ (d,.sh []),sG nums,sN place,sN g,sN k,sN f]=.ok (.lst (gD nums),.sh []):=rfl;have v2:ev T KR [θ (d,.sh []),sG nums,sN place,sN g,sN k,sN f]=.ok (.int (place:Int),.mv []):=aJ rfl rfl;have v3:ev T KS [θ (d,.sh []),sG nums,sN place,sN g,sN k,sN f]=.ok (.int (g:Int),.mv []):=aJ rfl rfl;have v4:ev T KQ [θ (d,.sh []),sG nums,sN place,sN g,sN k,sN f]=.ok (.int (k:Int),.mv []):=aJ rfl rfl;have v5:ev T KY [θ (d,.sh []),sG nums,sN place,sN g,sN k,sN f]=.ok (.int (f:Int),.mv []):=aJ rfl rfl;have e1:ev T (.bin .Sub KR KQ) [θ (d,.sh []),sG nums,sN place,sN g,sN k,sN f]=.ok (.int ((place-k:Nat):Int),.mv []):=by
   rw[ev,v2,aB,v4,aB,aS];show (gQ (θ (D.int ((place:Int)-(k:Int))))).bind _=_;rw[show (place:Int)-(k:Int)=((place-k:Nat):Int) by omega];rfl
  have e2:ev T (.ix KW (.bin .Sub KR KQ)) [θ (d,.sh []),sG nums,sN place,sN g,sN k,sN f]=.ok (.int ((nums.getD (place-k) 0:Nat):Int),.mv []):=by
   rw[ev,v1,aB,e1,aB,mX (by omega),aL,aB];rfl
  have e3:=Pc.Sm.cJ v5 e2 (ht f _ (dN hn (place-k)));have e4:ev T (.bin .BitXor KS (.call t (La KY (.ix KW (.bin .Sub KR KQ))))) [θ (d,.sh []),sG nums,sN place,sN g,sN k,sN f]=.ok (.int ((g^^^tm f (nums.getD (place-k) 0):Nat):Int),.mv []):=by
   rw[ev,v3,aB,e3,aB,aS];show (gQ (θ (D.int (Ρ (g:Int) ((tm f (nums.getD (place-k) 0):Nat):Int))))).bind _=_;rw[gG];rfl
  have s1:bC T (.asg (.nm 3) (.bin .BitXor KS (.call t (La KY (.ix KW (.bin .Sub KR KQ))))) ε) [θ (d,.sh []),sG nums,sN place,sN g,sN k,sN f]=.nx [θ (d,.sh []),sG nums,sN place,sN (g^^^tm f (nums.getD (place-k) 0)),sN k,sN f]:=bI LX (by simp) e4;rw[lO,bU,hb];dsimp only;unfold Hx;rw[aE,s1,aD];exact q
theorem Jy (ht:iV T t){rule:List Nat}(hr:Gr rule)(hn:Gr nums)(h1:rule.length<=place+1)(h2:place<nums.length):Pc.ret (aE T (UW t) (aF [.lst (gD rule),.lst (gD nums),.int (place:Int)] 6))=.ok (.int ((dO nums place 0 rule 0:Nat):Int),ζ):=by
 have Lu:aF [.lst (gD rule),.lst (gD nums),.int (place:Int)] 6=[sG rule,sG nums,sN place,η,η,η]:=rfl;rw[Lu];have s1:bC T (.asg (.nm 3) Kw ε) [sG rule,sG nums,sN place,η,η,η]=.nx [sG rule,sG nums,sN place,sN 0,η,η]:=rfl;obtain⟨a,b,q⟩:=xv ht (.lst (gD rule)) hn h2 rule 0 0 η η aH aH (by omega);have s2:=cP (xm T (env:=[sG rule,sG nums,sN place,sN 0,η,η]) (i:=0) (gs:=rule) rfl) q;unfold UW;rw[aE,s1,aD,aE,s2,aD];exact fY (aJ (t:=.own) rfl rfl)
def HD (T:Tb)(sc:Nat):Prop:=∀(row:List Nat) (f:Nat),Gr row->f<64->row.length<=900->T.cl sc [.lst (gD row),.int (f:Int)]=.ok (.lst (gD (C5 row f)),ζ)
noncomputable def Xj (t:Nat):bJ:=(.cons (.ret (.comp 1 [1] (.nm 0) (.seq KU) .none (.call t (La KU KW))))
  .nil)
theorem Jn (ht:iV T t){row:List Nat}(hr:Gr row)(hf:f<64)(hl:row.length<=900):Pc.ret (aE T (Xj t) (aF [.lst (gD row),.int (f:Int)] 2))=.ok (.lst (gD (C5 row f)),ζ):=by
 have Lu:aF [.lst (gD row),.int (f:Int)] 2=[sG row,sN f]:=rfl;rw[Lu];refine fY ?_;have hit:fU T (.seq KU) [sG row,sN f]=.ok (gD row,[]):=rfl;rw[l9 (g:=λd=>match d with|.int k=>(.int ((tm k.toNat f:Nat):Int),.mv [])|_=>(.Lj,.mv [])) hit (by rw[aY];exact cY (by omega)) (λd hd=>?_) (λd hd=>?_)]
 .rw[gD,C5,gD,aw,aw];rfl
 .obtain⟨x,hx,rfl⟩:=χ.mp hd;have hb:be [] (.nm 0) (.int (x:Int)) (aO [sG row,sN f] 1 [1])=θ [sN x,θ (.int (f:Int),.sh [])]:=rfl;rw[hb];have w0:ev T KU [sN x,θ (.int (f:Int),.sh [])]=.ok (.int (x:Int),.mv []):=aJ rfl rfl;have w1:ev T KW [sN x,θ (.int (f:Int),.sh [])]=.ok (.int (f:Int),.mv []):=aJ rfl rfl;have e1:=Pc.Sm.cJ w0 w1 (ht x f hf);simp only[bM,nT,aB,if_true,e1,bo]
 .obtain⟨x,hx,rfl⟩:=χ.mp hd;rfl
def Hb (T:Tb)(ad:Nat):Prop:=∀(a b:List Nat),a.length<=400->b.length<=400->T.cl ad [.lst (gD a),.lst (gD b)]=.ok (.lst (gD (zu a b)),ζ)
noncomputable def Hk:bJ:=(.cons (.Lv 2 .none KS (.bin .BitXor (.ix KR KS) KQ))
  .nil)
noncomputable def U6:bJ:=(.cons (.asg (.nm 2) (.bin .Add KU (.bin .Mult (.lst (K9 Kw)) (.bin .Sub (Ld KW) (Ld KU)))) ε)
  (.cons (.Li (.tp [3,4]) (.enum KW) Hk)
  (.cons (.ret KR)
  .nil)))
theorem y9 (n m:Nat)(hn:n<=1000)(hm:m<=1000):mR .Mult (.lst [.int 0]) (.int ((n:Int)-(m:Int)))=θ (.lst (gD (ν (n-m) 0))):=by
 by_cases h:m<=n
 .rw[show (n:Int)-(m:Int)=((n-m:Nat):Int) by omega];exact mS _ (by omega)
 .show (if -(2 ^ 63)<=(n:Int)-(m:Int)/\(n:Int)-(m:Int)<2 ^ 63 then (if D.Lh [D.int 0] then ck ([D.int 0].length*((n:Int)-(m:Int)).toNat) (.lst (ν ((n:Int)-(m:Int)).toNat [D.int 0]).flatten) else η) else η)=_;rw[if_pos (by omega),show ((n:Int)-(m:Int)).toNat=0 by omega,show n-m=0 by omega];rfl
theorem xB {T:Tb}(a b:List Nat):∀(m:List Nat) (k:Nat) (l:List Nat) (o3 o4:Slot),cH o3->cH o4->k+m.length<=l.length->l.length<=1000->∃QU Sl,bU (.tp [3,4]) [] (aE T Hk) (Ct k m) [sG a,sG b,oG l,o3,o4]=.nx [sG a,sG b,oG (dX l k m),QU,Sl]
 |[],k,l,o3,o4,_,_,_,_=>⟨o3,o4,rfl⟩
 |g::m,k,l,o3,o4,t3,t4,hk,hl=>by
  simp only[cg] at hk;obtain⟨p,q,r⟩:=xB (T:=T) a b m (k+1) (l.set k (l.getD k 0^^^g)) (sN k) (sN g) (aC _) (aC _) (by rw[ak];omega) (by rw[ak];exact hl);refine⟨p,q,?_⟩;have te:Tame [sG a,sG b,oG l,o3,o4]:=.cons (aM _) (.cons (aM _) (.cons (aC _) (.cons t3 (.cons t4 .nil))));have hb:be [] (.tp [3,4]) (.tup [.int (k:Int),.int (g:Int)]) [sG a,sG b,oG l,o3,o4]=θ [sG a,sG b,oG l,sN k,sN g]:=fX te (by simp) (by simp) rfl rfl;have LX:Tame [sG a,sG b,oG l,sN k,sN g]:=.cons (aM _) (.cons (aM _) (.cons (aC _) (.cons (aC _) (.cons (aC _) .nil))));have v2:ev T KR [sG a,sG b,oG l,sN k,sN g]=.ok (.lst (gD l),.mv [2]):=bP rfl rfl;have v3:ev T KS [sG a,sG b,oG l,sN k,sN g]=.ok (.int (k:Int),.mv []):=aJ rfl rfl;have v4:ev T KQ [sG a,sG b,oG l,sN k,sN g]=.ok (.int (g:Int),.mv []):=aJ rfl rfl;have e1:ev T (.ix KR KS) [sG a,sG b,oG l,sN k,sN g]=.ok (.int ((l.getD k 0:Nat):Int),.mv []):=by
   rw[ev,v2,aB,v3,aB,mX (by omega),aL,aB];rfl
  have e2:ev T (.bin .BitXor (.ix KR KS) KQ) [sG a,sG b,oG l,sN k,sN g]=.ok (.int ((l.getD k 0^^^g:Nat):Int),.mv []):=by
   rw[ev,e1,aB,v4,aB,aS];show (gQ (θ (D.int (Ρ ((l.getD k 0:Nat):Int) (g:Int))))).bind _=_;rw[gG];rfl
  have s1:=lV (T:=T) (x:=2) LX rfl v3 (hZ (n:=(gD l).length) (by rw[aY];omega)) e2 (by rw[aY];exact cY hl);rw[lO,bU,hb];dsimp only;unfold Hk;rw[aE,s1,aD,oE];exact r
theorem I0 {a b:List Nat}(ha:a.length<=400)(hb:b.length<=400):Pc.ret (aE T U6 (aF [.lst (gD a),.lst (gD b)] 5))=.ok (.lst (gD (zu a b)),ζ):=by
 have Lu:aF [.lst (gD a),.lst (gD b)] 5=[sG a,sG b,η,η,η]:=rfl;rw[Lu];have te:Tame [sG a,sG b,η,η,η]:=.cons (aM _) (.cons (aM _) (.cons aH (.cons aH (.cons aH .nil))));have l0:=iO (T:=T) (env:=[sG a,sG b,η,η,η]) (i:=0) (gs:=a) (t:=.sh []) rfl;have l1:=iO (T:=T) (env:=[sG a,sG b,η,η,η]) (i:=1) (gs:=b) (t:=.sh []) rfl;have v0:ev T KU [sG a,sG b,η,η,η]=.ok (.lst (gD a),.sh []):=rfl;have q:ev T (.lst (K9 Kw)) [sG a,sG b,η,η,η]=.ok (.lst [.int 0],.mv []):=rfl;have e1:ev T (.bin .Sub (Ld KW) (Ld KU)) [sG a,sG b,η,η,η]=.ok (.int ((b.length:Int)-(a.length:Int)),.mv []):=by
  rw[ev,l1,aB,l0,aB,aS];rfl
 have e2:ev T (.bin .Mult (.lst (K9 Kw)) (.bin .Sub (Ld KW) (Ld KU))) [sG a,sG b,η,η,η]=.ok (.lst (gD (ν (b.length-a.length) 0)),.mv []):=by
  rw[ev,q,aB,e1,aB,y9 _ _ (by omega) (by omega),aL,aB,cB (eE _)]
 have e3:ev T (.bin .Add KU (.bin .Mult (.lst (K9 Kw)) (.bin .Sub (Ld KW) (Ld KU)))) [sG a,sG b,η,η,η]=.ok (.lst (gD (a++ν (b.length-a.length) 0)),.mv []):=by
  have hb:mR .Add (.lst (gD a)) (.lst (gD (ν (b.length-a.length) 0)))=θ (.lst (gD (a++ν (b.length-a.length) 0))):=by
   show ck ((gD a).length+(gD (ν (b.length-a.length) 0)).length) (.lst (gD a++gD (ν (b.length-a.length) 0)))=_;unfold ck;rw[if_pos (by rw[aY,aY,bf];exact cY (by omega)),eC]
  rw[ev,v0,aB,e2,aB,hb,aL,aB,cB (eE _)]
 have s1:bC T (.asg (.nm 2) (.bin .Add KU (.bin .Mult (.lst (K9 Kw)) (.bin .Sub (Ld KW) (Ld KU)))) ε) [sG a,sG b,η,η,η]=.nx [sG a,sG b,oG (a++ν (b.length-a.length) 0),η,η]:=bI te (by simp) e3;obtain⟨p,r,h⟩:=xB (T:=T) a b b 0 (a++ν (b.length-a.length) 0) η η aH aH (by simp;omega) (by simp;omega);have s2:=cP (xm T (env:=[sG a,sG b,oG (a++ν (b.length-a.length) 0),η,η]) (i:=1) (gs:=b) rfl) h;unfold U6;rw[aE,s1,aD,aE,s2,aD];show Pc.ret (aE T (.cons (.ret KR) .nil) [sG a,sG b,oG (zu a b),p,r])=_;generalize zu a b=l;simp[aE,bC,ev,aP,D.flat,mH,Pc.ret,bV]
def Hv (T:Tb)(dp:Nat):Prop:=∀(x:Nat) (ls:List Nat),x<64->Gr ls->T.cl dp [.int (x:Int),.lst (gD ls)]=.ok (.int ((cZ x 1 ls:Nat):Int),ζ)
noncomputable def Cw (t:Nat):bJ:=(.cons (.ite (.cmp .NotEq KS KU) (.cons (.asg (.nm 2) (.call t (La KR (.bin .BitXor KU KS))) ε)
  .nil) .nil)
  .nil)
noncomputable def UX (t:Nat):bJ:=(.cons (.asg (.nm 2) Kv ε)
  (.cons (.Li (.nm 3) (.seq KW) (Cw t))
  (.cons (.ret KR)
  .nil)))
variable {x:Nat}
theorem xS (ht:iV T t)(hx:x<64)(d:D):∀(ls:List Nat) (pr:Nat) (o:Slot),Gr ls->pr<64->cH o->∃o',bU (.nm 3) [] (aE T (Cw t)) (gD ls) [sN x,θ (d,.sh []),sN pr,o]=.nx [sN x,θ (d,.sh []),sN (cZ x pr ls),o']
 |[],pr,o,_,_,_=>⟨o,rfl⟩
 |y::ls,pr,o,hl,hp,to=>by
  have VP:=hl y ag;obtain⟨o',r⟩:=xS ht hx d ls (if y=x then pr else tm pr (x^^^y)) (sN y) (λz hz=>hl z (aa _ hz)) (by split;exact hp;exact bN hp (aZ hx VP)) (aC _);refine⟨o',?_⟩;have te:Tame [sN x,θ (d,.sh []),sN pr,o]:=.cons (aC _) (.cons (aM _) (.cons (aC _) (.cons to .nil)));have hb:be [] (.nm 3) (.int (y:Int)) [sN x,θ (d,.sh []),sN pr,o]=θ [sN x,θ (d,.sh []),sN pr,sN y]:=gH te (by simp);have LX:Tame [sN x,θ (d,.sh []),sN pr,sN y]:=.cons (aC _) (.cons (aM _) (.cons (aC _) (.cons (aC _) .nil)));have v0:ev T KU [sN x,θ (d,.sh []),sN pr,sN y]=.ok (.int (x:Int),.mv []):=aJ rfl rfl;have v2:ev T KR [sN x,θ (d,.sh []),sN pr,sN y]=.ok (.int (pr:Int),.mv []):=aJ rfl rfl;have v3:ev T KS [sN x,θ (d,.sh []),sN pr,sN y]=.ok (.int (y:Int),.mv []):=aJ rfl rfl;have c:aG T (.cmp .NotEq KS KU) [sN x,θ (d,.sh []),sN pr,sN y] (.bl (!((y:Int)==(x:Int)))):=aG.cmp ⟨_,v3⟩ ⟨_,v0⟩ rfl;have e1:ev T (.bin .BitXor KU KS) [sN x,θ (d,.sh []),sN pr,sN y]=.ok (.int ((x^^^y:Nat):Int),.mv []):=by
   rw[ev,v0,aB,v3,aB,aS];show (gQ (θ (D.int (Ρ (x:Int) (y:Int))))).bind _=_;rw[gG];rfl
  have s1:bC T (.asg (.nm 2) (.call t (La KR (.bin .BitXor KU KS))) ε) [sN x,θ (d,.sh []),sN pr,sN y]=.nx [sN x,θ (d,.sh []),sN (tm pr (x^^^y)),sN y]:=bI LX (by simp) (Pc.Sm.cJ v2 e1 (ht pr _ (aZ hx VP)));have st:aE T (Cw t) [sN x,θ (d,.sh []),sN pr,sN y]=.nx [sN x,θ (d,.sh []),sN (if y=x then pr else tm pr (x^^^y)),sN y]:=by
   unfold Cw;rw[aE,kB c];by_cases e:y=x
   .rw[if_pos e,show (!((y:Int)==(x:Int)))=ε by rw[e];simp];rfl
   .rw[if_neg e,show (!((y:Int)==(x:Int)))=ζ by simp;omega];simp only[if_true];rw[aE,s1,aD];rfl
  rw[gD,av,bU,hb];dsimp only;rw[st];exact r
variable {ls:List Nat}
theorem J9 (ht:iV T t)(hx:x<64)(hl:Gr ls):Pc.ret (aE T (UX t) (aF [.int (x:Int),.lst (gD ls)] 4))=.ok (.int ((cZ x 1 ls:Nat):Int),ζ):=by
 have Lu:aF [.int (x:Int),.lst (gD ls)] 4=[sN x,sG ls,η,η]:=rfl;rw[Lu];have s1:bC T (.asg (.nm 2) Kv ε) [sN x,sG ls,η,η]=.nx [sN x,sG ls,sN 1,η]:=rfl;obtain⟨o',h⟩:=xS ht hx (.lst (gD ls)) ls 1 η hl (by decide) aH;have hit:fU T (.seq KW) [sN x,sG ls,sN 1,η]=.ok (gD ls,[]):=rfl;have s2:=cP hit h;unfold UX;rw[aE,s1,aD,aE,s2,aD];exact fY (aJ (t:=.own) rfl rfl)
def Gf (T:Tb)(lo:Nat):Prop:=∀(p n:Nat),p<n->n<=1000->T.cl lo [.int (p:Int),.int (n:Int)]=.ok (.int ((loc n p:Nat):Int),ζ)
noncomputable def Xk (Ol:Nat):bJ:=(.cons (.ret (.call Ol (La Ku (.bin .Sub (.bin .Sub KW Kv) KU))))
  .nil)
variable {n p:Nat}
theorem Jl (hp:Di T Ol)(h:p<n)(hn:n<=1000):Pc.ret (aE T (Xk Ol) (aF [.int (p:Int),.int (n:Int)] 2))=.ok (.int ((loc n p:Nat):Int),ζ):=by
 have Lu:aF [.int (p:Int),.int (n:Int)] 2=[sN p,sN n]:=rfl;rw[Lu];have v0:ev T KU [sN p,sN n]=.ok (.int (p:Int),.mv []):=aJ rfl rfl;have v1:ev T KW [sN p,sN n]=.ok (.int (n:Int),.mv []):=aJ rfl rfl;have e:ev T (.bin .Sub (.bin .Sub KW Kv) KU) [sN p,sN n]=.ok (.int ((n-1-p:Nat):Int),.mv []):=by
  have e1:ev T (.bin .Sub KW Kv) [sN p,sN n]=.ok (.int ((n:Int)-1),.mv []):=by
   rw[ev,v1,aB,ev,aB,aS];rfl
  rw[ev,e1,aB,v0,aB,aS];show (gQ (θ (D.int ((n:Int)-1-(p:Int))))).bind _=_;rw[show (n:Int)-1-(p:Int)=((n-1-p:Nat):Int) by omega];rfl
 have c2:ev T Ku [sN p,sN n]=.ok (.int ((2:Nat):Int),.mv []):=rfl;exact fY (Pc.Sm.cJ c2 e (hp 2 _ (by decide) (iq (show _<=1000 by omega) (by decide))))
def Iz (T:Tb)(sr:Nat):Prop:=∀(nums:List Nat),Gr nums->nums.length<=100->∃fr,T.cl sr [.lst (gD nums)]=.ok (.lst (gD (oM nums nums.length).rule),fr)
noncomputable def B5 (L8 iv gp sc ad:Nat):bJ:=(.cons (.asg (.nm 3) (.bin .Add (.lst (K9 Kw)) KS) ε)
  (.cons (.asg (.nm 6) (.call gp (Lb KW KU KY)) ε)
  (.cons (.ite (.cmp .Eq KZ Kw) (.cons .cnt
  .nil) .nil)
  (.cons (.asg (.nm 7) (.call ad (La KW (.call sc (La KS (.call L8 (La KZ (.call iv (K9 KQ)))))))) ε)
  (.cons (.ite (.cmp .LtE (.bin .Mult Ku KR) KY) (.cons (.asg (.nm 2) (.bin .Sub (.bin .Add KY Kv) KR) ε)
  (.cons (.asg (.nm 3) KW ε)
  (.cons (.asg (.nm 4) KZ ε)
  .nil))) .nil)
  (.cons (.asg (.nm 1) K0 ε)
  .nil))))))
noncomputable def UM (L8 iv gp sc ad:Nat):bJ:=(.cons (.asg (.nm 1) (.lst (K9 Kv)) ε)
  (.cons (.asg (.nm 2) Kw ε)
  (.cons (.asg (.nm 3) (.lst (K9 Kv)) ε)
  (.cons (.asg (.nm 4) Kv ε)
  (.cons (.Li (.nm 5) (.Lm (Ld KU)) (B5 L8 iv gp sc ad))
  (.cons (.ret KW)
  .nil))))))
noncomputable abbrev nD (n:Nat):Option D:=θ (.int (n:Int))
noncomputable abbrev lD (l:List Nat):Option D:=θ (.lst (gD l))
def VB (nums:List Nat)(s:Sr)(env:En):Prop:=∃v5 v6 v7,Vw env [lD nums,lD s.rule,nD s.len,lD s.fo,nD s.gap,v5,v6,v7]
variable {ad gp iv sc L8:Nat}{env:En}
theorem Ew (ht:iV T L8)(hi:zQ T iv)(hg:HV T gp)(hs:HD T sc)(ha:Hb T ad)(hn:Gr nums)(hl:nums.length<=100)(LZ:n<nums.length){s:Sr}(o:sg nums n s)(V:VB nums s env)(R:List Nat) :
  ∃e1 e2,be R (.nm 5) (.int (n:Int)) env=θ e1/\(aE T (B5 L8 iv gp sc ad) e1=.nx e2\/aE T (B5 L8 iv gp sc ad) e1=.ct e2)/\VB nums (s.step nums n) e2:=by
 obtain⟨v5,v6,v7,V⟩:=V;have hle:=o.bm.le;have lr:=o.lr;have lf:=o.lf;obtain⟨e1,b1,V1⟩:=V.bind (i:=5) (show (5:Nat)<8 by decide) R (.int (n:Int));have V1:Vw e1 [lD nums,lD s.rule,nD s.len,lD s.fo,nD s.gap,nD n,v6,v7]:=V1;refine⟨e1,?_⟩;obtain⟨e2,q2,V2⟩:=V1.asg (T:=T) (i:=3) (show (3:Nat)<8 by decide) (aG.bin (op:=.Add) (aG.OO (aG.cst (.int 0))) (V1.var (i:=3) rfl) (z:=.lst (gD (0::s.fo))) (by
  show ck (1+(gD s.fo).length) (.lst ([D.int 0]++gD s.fo))=_;unfold ck;rw[if_pos (by rw[aY];exact cY (by omega))];rfl))
 have V2:Vw e2 [lD nums,lD s.rule,nD s.len,lD (0::s.fo),nD s.gap,nD n,v6,v7]:=V2;obtain⟨e3,q3,V3⟩:=V2.asg (T:=T) (i:=6) (show (6:Nat)<8 by decide) (aG.Ow (V2.var (i:=1) rfl) (V2.var (i:=0) rfl) (V2.var (i:=5) rfl) (hg s.rule nums n o.gr hn o.rl LZ));have V3:Vw e3 [lD nums,lD s.rule,nD s.len,lD (0::s.fo),nD s.gap,nD n,nD (dO nums n 0 s.rule 0),v7]:=V3;have c1:aG T (.cmp .Eq KZ Kw) e3 (.bl (((dO nums n 0 s.rule 0:Nat):Int)==0)):=aG.cmp (V3.var (i:=6) rfl) (aG.cst _) rfl;unfold B5;by_cases h0:dO nums n 0 s.rule 0=0
 .refine⟨e3,b1,.inr ?_,?_⟩
  .rw[aE,q2,aD,aE,q3,aD,aE,kB c1,h0];rfl
  .unfold Sr.step;rw[if_pos h0];exact⟨_,_,_,V3⟩
 .have Ly:=lQ hn n (k:=0) o.gr (g:=0) (by decide);have Mz:=bN Ly (bR o.gg 62);have Xg:(((dO nums n 0 s.rule 0:Nat):Int)==0)=ε:=by rw[ja];omega
  obtain⟨e4,q4,V4⟩:=V3.asg (T:=T) (i:=7) (show (7:Nat)<8 by decide) (aG.cJ (V3.var (i:=1) rfl) (aG.cJ (V3.var (i:=3) rfl) (aG.cJ (V3.var (i:=6) rfl) (aG.kC (V3.var (i:=4) rfl) (hi s.gap o.gg o.ne)) (ht _ _ (bR o.gg 62))) (hs (0::s.fo) _ (Il o.gf) Mz (by simp;omega))) (ha s.rule _ (by omega) (by simp[C5];omega)));have V4:Vw e4 [lD nums,lD s.rule,nD s.len,lD (0::s.fo),nD s.gap,nD n,nD (dO nums n 0 s.rule 0),lD (s.uB nums n)]:=V4;have c2:aG T (.cmp .LtE (.bin .Mult Ku KR) KY) e4 (.bl (decide (2*(s.len:Int)<=(n:Int)))):=aG.cmp (aG.bin (op:=.Mult) (aG.cst _) (V4.var (i:=2) rfl) (z:=.int (2*(s.len:Int))) rfl) (V4.var (i:=5) rfl) rfl;by_cases h2:2*s.len<=n
  .obtain⟨e5,q5,V5⟩:=V4.asg (T:=T) (i:=2) (show (2:Nat)<8 by decide) (aG.bin (op:=.Sub) (aG.bin (op:=.Add) (V4.var (i:=5) rfl) (aG.cst (.int 1)) (z:=.int ((n:Int)+1)) rfl) (V4.var (i:=2) rfl) (z:=.int ((n+1-s.len:Nat):Int)) (by
    show θ (D.int ((n:Int)+1-(s.len:Int)))=_;rw[show (n:Int)+1-(s.len:Int)=((n+1-s.len:Nat):Int) by omega]))
   have V5:Vw e5 [lD nums,lD s.rule,nD (n+1-s.len),lD (0::s.fo),nD s.gap,nD n,nD (dO nums n 0 s.rule 0),lD (s.uB nums n)]:=V5;obtain⟨e6,q6,V6⟩:=V5.asg (T:=T) (i:=3) (show (3:Nat)<8 by decide) (V5.var (i:=1) rfl);have V6:Vw e6 [lD nums,lD s.rule,nD (n+1-s.len),lD s.rule,nD s.gap,nD n,nD (dO nums n 0 s.rule 0),lD (s.uB nums n)]:=V6;obtain⟨e7,q7,V7⟩:=V6.asg (T:=T) (i:=4) (show (4:Nat)<8 by decide) (V6.var (i:=6) rfl);have V7:Vw e7 [lD nums,lD s.rule,nD (n+1-s.len),lD s.rule,nD (dO nums n 0 s.rule 0),nD n,nD (dO nums n 0 s.rule 0),lD (s.uB nums n)]:=V7;obtain⟨e8,q8,V8⟩:=V7.asg (T:=T) (i:=1) (show (1:Nat)<8 by decide) (V7.var (i:=7) rfl);refine⟨e8,b1,.inl ?_,?_⟩
   .rw[aE,q2,aD,aE,q3,aD,aE,kB c1,Xg];simp only[a8,if_false];rw[aE,aD,aE,q4,aD,aE,kB c2,cm (show 2*(s.len:Int)<=(n:Int) by omega)];simp only[if_true];rw[aE,q5,aD,aE,q6,aD,aE,q7,aD,aE,aD,aE,q8,aD];rfl
   .unfold Sr.step;rw[if_neg h0,if_pos h2];exact⟨_,_,_,V8⟩
  .obtain⟨e8,q8,V8⟩:=V4.asg (T:=T) (i:=1) (show (1:Nat)<8 by decide) (V4.var (i:=7) rfl);refine⟨e8,b1,.inl ?_,?_⟩
   .rw[aE,q2,aD,aE,q3,aD,aE,kB c1,Xg];simp only[a8,if_false];rw[aE,aD,aE,q4,aD,aE,kB c2,bh (show ¬ 2*(s.len:Int)<=(n:Int) by omega)];simp only[a8,if_false];rw[aE,aD,aE,q8,aD];rfl
   .unfold Sr.step;rw[if_neg h0,if_neg h2];exact⟨_,_,_,V8⟩
variable {vs:List (Option D)}
theorem Vw.len {T:Tb}(h:Vw env vs){i:Nat}{l:List Nat}(e:vs[i]? = θ (lD l)):aG T (Ld (.var i)) env (.int (l.length:Int)):=aG.LC (h.var e) (wG l)
theorem rM {n:Nat}(h:aG T e env (.int (n:Int)))(hn:n<=1000):fU T (.Lm e) env=.ok ((υ n).map λ(k:Nat)=>D.int (k:Int),[]):=by
 obtain⟨R,h⟩:=h;rw[oa T env e _ R h (qq hn),bo];have:=fP n 0;rw[show ((0:Nat):Int)=0 from rfl] at this;rw[this,YO]
theorem FN (ht:iV T L8)(hi:zQ T iv)(hg:HV T gp)(hs:HD T sc)(ha:Hb T ad)(hn:Gr nums)(hl:nums.length<=100):∃fr,Pc.ret (aE T (UM L8 iv gp sc ad) (aF [.lst (gD nums)] 8))=.ok (.lst (gD (oM nums nums.length).rule),fr):=by
 have V0:Vw (aF [.lst (gD nums)] 8) [lD nums,η,η,η,η,η,η,η]:=Vw.start [.lst (gD nums)] 8;obtain⟨e1,q1,V1⟩:=V0.asg (T:=T) (i:=1) (show (1:Nat)<8 by decide) (aG.OO (aG.cst (.int 1)));obtain⟨e2,q2,V2⟩:=V1.asg (T:=T) (i:=2) (show (2:Nat)<8 by decide) (aG.cst (.int 0));obtain⟨e3,q3,V3⟩:=V2.asg (T:=T) (i:=3) (show (3:Nat)<8 by decide) (aG.OO (aG.cst (.int 1)));obtain⟨e4,q4,V4⟩:=V3.asg (T:=T) (i:=4) (show (4:Nat)<8 by decide) (aG.cst (.int 1));have V4:Vw e4 [lD nums,lD [1],nD 0,lD [1],nD 1,η,η,η]:=V4;obtain⟨e5,q5,V5⟩:=qd (t:=.nm 5) (R:=[]) (b:=aE T (B5 L8 iv gp sc ad)) (λk env=>k<=nums.length->VB nums (oM nums k) env) ((υ nums.length).map λ(k:Nat)=>D.int (k:Int)) 0 e4 (λ_=>⟨_,_,_,V4⟩) (λi d e hd J=>by
  rw[π] at hd;have Mn:i<nums.length:=by
   cases q:(υ nums.length)[i]? with
   |none=>rw[q] at hd;cases hd
   |some z=>have:=(ο.mp q).1;rwa [bu] at this
  rw[Ψ Mn] at hd;cases hd;rw[en] at J ⊢;obtain⟨x,y,z1,z2,z3⟩:=Ew ht hi hg hs ha hn hl Mn (xk hn i) (J (by omega)) [];exact⟨x,y,z1,z2,λ_=>z3⟩)
 have q5':=cP (rM (V4.len (T:=T) (i:=0) rfl) (by omega)) q5;simp only[ai,bu,en] at V5;obtain⟨v5,v6,v7,V5⟩:=V5 (au _);unfold UM;rw[aE,q1,aD,aE,q2,aD,aE,q3,aD,aE,q4,aD,aE,q5',aD];exact B0 (V5.var (i:=1) rfl)
theorem vC (mi:List Nat)(p:Nat):inD (.int (p:Int)) (.lst (gD mi))=θ (mi.contains p):=by
 show (if (ζ&&(gD mi).all D.LY)=ζ then θ ((gD mi).any λy=>D.Qz y (.int (p:Int))) else η)=_;have h1:(gD mi).all D.LY=ζ:=by rw[XH,cz];intro _ _;rfl
 rw[h1,ik,if_pos rfl,List.any_map];congr 1
 induction mi with
 |nil=>rfl
 |cons a l ih=>
  rw[fv,Zf,ih (by rw[XH,cz];intro _ _;rfl)];congr 1;show ((a:Int)==(p:Int))=(p==a);rw[fk];simp;omega
theorem Dt {T:Tb}{l:List D}(h:aG T e env (.lst l)):∃R,fU T (.seq e) env=.ok (l,R):=by
 obtain⟨R,h⟩:=h;exact⟨R.roots,by rw[fU,h,aB];rfl⟩
variable {R pick:List Nat}{it:tX}
theorem Fk {l:List Nat}{g:Nat->Nat}(hit:fU T it env=.ok (gD l,R))(hl:l.length<=1000)(hg:∀a∈l,aG T e (put (aO env 1 pick) 0 (.int (a:Int)) .own) (.int ((g a:Nat):Int)))(h0:0<(aO env 1 pick).length) :
  aG T (.comp 1 pick (.nm 0) it .none e) env (.lst (gD (l.map g))):=by
 have key:∀(l:List Nat),(∀a∈l,aG T e (put (aO env 1 pick) 0 (.int (a:Int)) .own) (.int ((g a:Nat):Int)))->∃qs:List (D×Rt),fE (λd=>bM (be [] (.nm 0) d (aO env 1 pick)) (nT T .none) (ev T e)) (gD l)=.ok qs/\qs.map (·.1)=gD (l.map g)/\qs.all (λq=>q.1.flat || gC q.2)=ζ:=by
  intro l
  induction l with
  |nil=>exact λ_=>⟨[],rfl,rfl,rfl⟩
  |cons a r ih=>
   intro h;obtain⟨qs,a1,a2,a3⟩:=ih λb hb=>h b (aa _ hb)
   obtain⟨R',hR⟩:=h a ag;refine⟨(.int ((g a:Nat):Int),R')::qs,?_,?_,?_⟩
   .have hb:be [] (.nm 0) (.int (a:Int)) (aO env 1 pick)=θ (put (aO env 1 pick) 0 (.int (a:Int)) .own):=by
     show (if 0<(aO env 1 pick).length then θ (put (aO env 1 pick) 0 (.int (a:Int)) .own) else η)=_;rw[if_pos h0]
    have step:bM (be [] (.nm 0) (.int (a:Int)) (aO env 1 pick)) (nT T .none) (ev T e)=.ok (θ (.int ((g a:Nat):Int),R')):=by
     simp only[hb,bM,nT,aB,if_true,hR]
    rw[gD,av,fE,step,aB,show (r.map λ(g:Nat)=>D.int (g:Int))=gD r from rfl,a1];rfl
   .rw[av,a2];rfl
   .rw[fh,a3];rfl
 obtain⟨qs,a1,a2,a3⟩:=key l hg;rw[aG,ev,hit,aB,a1,aB];dsimp only;rw[if_pos (by rw[aY];exact cY hl),a2];exact⟨_,rfl⟩
theorem A5 {ce:Ex}{l:List Nat}{c:Nat->Bool}(hit:fU T it env=.ok (gD l,R))(hl:l.length<=1000)(hg:∀a∈l,aG T ce (put (aO env 1 pick) 0 (.int (a:Int)) .own) (.bl (c a)))(h0:0<(aO env 1 pick).length) :
  aG T (.comp 1 pick (.nm 0) it (.some ce) KU) env (.lst (gD (l.filter c))):=by
 have key:∀(l:List Nat),(∀a∈l,aG T ce (put (aO env 1 pick) 0 (.int (a:Int)) .own) (.bl (c a)))->∃qs:List (D×Rt),fE (λd=>bM (be [] (.nm 0) d (aO env 1 pick)) (nT T (.some ce)) (ev T KU)) (gD l)=.ok qs/\qs.map (·.1)=gD (l.filter c)/\qs.all (λq=>q.1.flat || gC q.2)=ζ:=by
  intro l
  induction l with
  |nil=>exact λ_=>⟨[],rfl,rfl,rfl⟩
  |cons a r ih=>
   intro h;obtain⟨qs,a1,a2,a3⟩:=ih λb hb=>h b (aa _ hb)
   obtain⟨R',hR⟩:=h a ag;have hb:be [] (.nm 0) (.int (a:Int)) (aO env 1 pick)=θ (put (aO env 1 pick) 0 (.int (a:Int)) .own):=by
    show (if 0<(aO env 1 pick).length then θ (put (aO env 1 pick) 0 (.int (a:Int)) .own) else η)=_;rw[if_pos h0]
   have hv:ev T KU (put (aO env 1 pick) 0 (.int (a:Int)) .own)=.ok (.int (a:Int),.mv []):=aJ (t:=.own) (by
    unfold Pc.put;exact ξ (by rw[ai];exact h0)) rfl
   cases hc:c a with
   |true=>
    refine⟨(.int (a:Int),.mv [])::qs,?_,?_,?_⟩
    .rw[hc] at hR;have step:bM (be [] (.nm 0) (.int (a:Int)) (aO env 1 pick)) (nT T (.some ce)) (ev T KU)=.ok (θ (.int (a:Int),.mv [])):=by
      simp only[hb,bM,nT,hR,aB,truth,aL,if_true,hv]
     rw[gD,av,fE,step,aB,show (r.map λ(g:Nat)=>D.int (g:Int))=gD r from rfl,a1];rfl
    .rw[av,a2,iu hc];rfl
    .rw[fh,a3];rfl
   |false=>
    refine⟨qs,?_,?_,a3⟩
    .rw[hc] at hR;have step:bM (be [] (.nm 0) (.int (a:Int)) (aO env 1 pick)) (nT T (.some ce)) (ev T KU)=.ok η:=by
      simp only[hb,bM,nT,hR,aB,truth,aL,a8,if_false]
     rw[gD,av,fE,step,aB,show (r.map λ(g:Nat)=>D.int (g:Int))=gD r from rfl,a1];rfl
    .rw[a2,iw (by rw[hc];decide)]
 obtain⟨qs,a1,a2,a3⟩:=key l hg;rw[aG,ev,hit,aB,a1,aB];dsimp only;rw[if_pos (by rw[aY];exact cY hl),a2];exact⟨_,rfl⟩
theorem Vw.picked {ws:List (Option D)}(h:Vw env vs){pick:List Nat}(hw:∀(j:Nat) (d:D),ws[j]? = θ (θ d)->∃i,pick[j]? = θ i/\vs[i]? = θ (θ d))(hl:ws.length=pick.length)(a:D) :
  0<(aO env 1 pick).length/\Vw (Pc.put (aO env 1 pick) 0 a .own) (θ a::ws):=by
 have hlen:(aO env 1 pick).length=ws.length+1:=by unfold aO;simp[hl,XO]
 have V:Vw (aO env 1 pick) (η::ws):=by
  refine⟨by rw[hlen];simp,λj d e=>?_⟩;cases j with
  |zero=>cases e
  |succ j=>
   have e:ws[j]? = θ (θ d):=e;obtain⟨i,p1,p2⟩:=hw j d e;refine⟨.sh [],?_⟩;unfold aO;rw[Μ (by simp),bf,show j+1-1=j by omega,π,p1];obtain⟨t,q⟩:=h.2 i d p2;show θ (match env[i]? with|some (θ (d,_))=>θ (d,Tg.sh [])|_=>η:Slot)=_;rw[q]
 exact⟨by omega,V.put 0 a .own⟩
theorem Ag (l:List Nat)(m c:Nat):Ga (.lst (gD l)) (θ (m:Int)) (θ (c:Int))=θ (.lst (gD ((l.take c).drop m))):=by
 show θ (D.lst (cut (gD l) (θ (m:Int)) (θ (c:Int))))=_;unfold cut kZ;simp only;rw[if_neg (by omega),if_neg (by omega),bo,bo,aY,gD,gD,<-Z9,<-List.map_take];congr 3;rw[ZU];by_cases h:m<=l.length
 .rw[X9 h];by_cases h2:c<=l.length
  .rw[X9 h2]
  .rw[ZG (by omega),iz (by rw[gn];omega),iz (by rw[gn];omega)]
 .rw[ZG (show l.length<=m by omega),YC (au _),YC (show l.length<=m by omega)];simp
theorem Fe (l:List Nat)(c:Nat):Ga (.lst (gD l)) η (θ (c:Int))=θ (.lst (gD (l.take c))):=by
 have:=Ag l 0 c;rw[List.drop_zero] at this;rw[<-this];show θ (D.lst (cut (gD l) η (θ (c:Int))))=θ (D.lst (cut (gD l) (θ ((0:Nat):Int)) (θ (c:Int))));unfold cut kZ;simp
variable {a hi:Ex}
theorem aG.sl {lo:Ex}{x z:D}{m c:Int}(h:aG T a env x)(h1:aG T lo env (.int m))(h2:aG T hi env (.int c))(e:Ga x (θ m) (θ c)=θ z):aG T (.sl a (.some lo) (.some hi)) env z:=by
 obtain⟨R,h⟩:=h;obtain⟨R1,h1⟩:=h1;obtain⟨R2,h2⟩:=h2;exact⟨_,by rw[ev,h,aB,jW,h1,aB];dsimp only;rw[aB,jW,h2,aB];dsimp only;rw[aB,e,aL,aB]⟩
theorem aG.slh {x z:D}{c:Int}(h:aG T a env x)(h2:aG T hi env (.int c))(e:Ga x η (θ c)=θ z):aG T (.sl a .none (.some hi)) env z:=by
 obtain⟨R,h⟩:=h;obtain⟨R2,h2⟩:=h2;exact⟨_,by rw[ev,h,aB,jW,aB,jW,h2,aB];dsimp only;rw[aB,e,aL,aB]⟩
def F5 (T:Tb)(su:Nat):Prop:=∀(wo mi:List Nat) (n:Nat),Gr wo->wo.length<=62->mi.length<=63->(∀p∈mi,p<n)->n<=63->∃fr,T.cl su [.lst (gD wo),.lst (gD mi),.int (n:Int)]=.ok (.lst (gD (susp wo mi n)),fr)
noncomputable def UL (wa rp rn lo sr:Nat):bJ:=(.cons (.asg (.nm 3) (.call rn (K9 (.comp 1 [2] (.nm 0) (.seq KW) .none (.call lo (La KU KW))))) ε)
  (.cons (.asg (.nm 4) (.sl (.call rp (La KU KS)) (.some (Ld KW)) (.some (Ld KU))) ε)
  (.cons (.asg (.nm 5) (.call sr (K9 KQ)) ε)
  (.cons (.asg (.nm 6) (.comp 1 [1] (.nm 0) (.Lm KR) (.some (.cmp .NotIn KU KW)) KU) ε)
  (.cons (.ret (.comp 1 [2,5] (.nm 0) (.seq KZ) (.some (.cmp .Eq (.call wa (La KR (.call lo (La KU KW)))) Kw)) KU))
  .nil)))))
variable {lo rn rp wa:Nat}{mi:List Nat}
theorem G8 {sr:Nat}(hw:vK T wa)(S1:zR T rp)(Qc:D9 T rn)(Qk:Gf T lo)(hsr:Iz T sr){wo:List Nat}(gw:Gr wo)(lw:wo.length<=62)(lm:mi.length<=63)(hm:∀p∈mi,p<n)(hn:n<=63) :
  ∃fr,Pc.ret (aE T (UL wa rp rn lo sr) (aF [.lst (gD wo),.lst (gD mi),.int (n:Int)] 7))=.ok (.lst (gD (susp wo mi n)),fr):=by
 have V0:Vw (aF [.lst (gD wo),.lst (gD mi),.int (n:Int)] 7) [lD wo,lD mi,nD n,η,η,η,η]:=Vw.start _ 7;have lg:=mf n mi;obtain⟨R1,i1⟩:=Dt (T:=T) (V0.var (i:=1) rfl);have c1:aG T (.comp 1 [2] (.nm 0) (.seq KW) .none (.call lo (La KU KW))) (aF [.lst (gD wo),.lst (gD mi),.int (n:Int)] 7) (.lst (gD (locs n mi))):=Fk i1 (by omega) (λa ha=>by
  obtain⟨_,W⟩:=V0.picked (pick:=[2]) (ws:=[nD n]) (λj d e=>by cases j with|zero=>exact⟨2,rfl,e⟩|succ j=>cases e) rfl (.int (a:Int));exact aG.cJ (W.var (i:=0) rfl) (W.var (i:=1) rfl) (Qk a n (hm a ha) (by omega))) (V0.picked (pick:=[2]) (ws:=[nD n]) (λj d e=>by cases j with|zero=>exact⟨2,rfl,e⟩|succ j=>cases e) rfl .Lj).1
 obtain⟨e1,q1,V1⟩:=V0.asg (T:=T) (i:=3) (show (3:Nat)<7 by decide) (aG.kC c1 (Qc (locs n mi) (kJ n mi) (by simp[locs];omega)));have V1:Vw e1 [lD wo,lD mi,nD n,lD (kd n mi),η,η,η]:=V1;obtain⟨e2,q2,V2⟩:=V1.asg (T:=T) (i:=4) (show (4:Nat)<7 by decide) (aG.sl (aG.cJ (V1.var (i:=0) rfl) (V1.var (i:=3) rfl) (S1 wo (kd n mi) gw lg.2 (by rw[lg.1];omega) (by rw[lg.1];omega))) (V1.len (i:=1) rfl) (V1.len (i:=0) rfl) (Ag _ _ _));have V2:Vw e2 [lD wo,lD mi,nD n,lD (kd n mi),lD (fF wo mi n),η,η]:=V2;obtain⟨fr,hs⟩:=hsr (fF wo mi n) (pE gw mi n) (by rw[qt];omega);obtain⟨e3,q3,V3⟩:=V2.asg (T:=T) (i:=5) (show (5:Nat)<7 by decide) (aG.kC (V2.var (i:=4) rfl) hs);have V3:Vw e3 [lD wo,lD mi,nD n,lD (kd n mi),lD (fF wo mi n),lD (iM wo mi n),η]:=V3;have c2:aG T (.comp 1 [1] (.nm 0) (.Lm KR) (.some (.cmp .NotIn KU KW)) KU) e3 (.lst (gD (others mi n))):=A5 (l:=υ n) (rM (V3.var (i:=2) rfl) (by omega)) (by rw[bu];omega) (λa ha=>by
  obtain⟨_,W⟩:=V3.picked (pick:=[1]) (ws:=[lD mi]) (λj d e=>by cases j with|zero=>exact⟨1,rfl,e⟩|succ j=>cases e) rfl (.int (a:Int));exact aG.cmp (W.var (i:=0) rfl) (W.var (i:=1) rfl) (by show (inD _ _).map _=_;rw[vC];rfl)) (V3.picked (pick:=[1]) (ws:=[lD mi]) (λj d e=>by cases j with|zero=>exact⟨1,rfl,e⟩|succ j=>cases e) rfl .Lj).1
 obtain⟨e4,q4,V4⟩:=V3.asg (T:=T) (i:=6) (show (6:Nat)<7 by decide) c2;have V4:Vw e4 [lD wo,lD mi,nD n,lD (kd n mi),lD (fF wo mi n),lD (iM wo mi n),lD (others mi n)]:=V4;obtain⟨R6,i6⟩:=Dt (T:=T) (V4.var (i:=6) rfl);have pk:∀(j:Nat) (d:D),[nD n,lD (iM wo mi n)][j]? = θ (θ d)->∃i,[2,5][j]? = θ i/\[lD wo,lD mi,nD n,lD (kd n mi),lD (fF wo mi n),lD (iM wo mi n),lD (others mi n)][i]? = θ (θ d):=λj d e=>by
  cases j with
  |zero=>exact⟨2,rfl,e⟩
  |succ j=>cases j with
   |zero=>exact⟨5,rfl,e⟩
   |succ j=>cases e
 have ol:(others mi n).length<=n:=by
  have:=g9 (λp=>!mi.contains p) (υ n);rw[bu] at this;exact this
 have c3:aG T (.comp 1 [2,5] (.nm 0) (.seq KZ) (.some (.cmp .Eq (.call wa (La KR (.call lo (La KU KW)))) Kw)) KU) e4 (.lst (gD (susp wo mi n))):=A5 (l:=others mi n) i6 (by omega) (λa ha=>by
  obtain⟨_,W⟩:=V4.picked (pick:=[2,5]) (ws:=[nD n,lD (iM wo mi n)]) pk rfl (.int (a:Int));refine aG.cmp (aG.cJ (W.var (i:=2) rfl) (aG.cJ (W.var (i:=0) rfl) (W.var (i:=1) rfl) (Qk a n (fH.mp ha).1 (by omega))) (hw _ _ (iS n a))) (aG.cst _) ?_;show θ (((dP (loc n a) (iM wo mi n):Nat):Int)==0)=_;congr 1;rw[fk];simp) (V4.picked (pick:=[2,5]) (ws:=[nD n,lD (iM wo mi n)]) pk rfl .Lj).1
 unfold UL;rw[aE,q1,aD,aE,q2,aD,aE,q3,aD,aE,q4,aD];exact B0 c3
theorem sU (hx:x<64):∀{l:List Nat}{pr:Nat},Gr l->pr<64->pr≠0->cZ x pr l≠0
 |[],_,_,_,h=>h
 |o::l,pr,hl,hp,h=>by
  have OK:=hl o ag;rw[cZ];refine sU hx (λz hz=>hl z (aa _ hz)) ?_ ?_
  .split
   .exact hp
   .exact bN hp (aZ hx OK)
  .split
   .exact h
   .rename_i ne;exact λe=>(fC hp (aZ hx OK) e).elim h λe=>ne (cX e).symm
def FQ (T:Tb)(ch:Nat):Prop:=∀(g su wo:List Nat),Gr g->Gr wo->g.length<=63->su.length<=130->wo.length<=62->(∀p∈su,p<g.length)->T.cl ch [.lst (gD g),.lst (gD su),.lst (gD wo)]=.ok (.lst (gD (gN g su wo)),ζ)
noncomputable def Ft (L8 iv wa dp:Nat):bJ:=(.cons (.asg (.nm 8) (.call iv (K9 (.call L8 (La K0 (.call dp (La K0 KQ)))))) ε)
  (.cons (.Lv 6 .none KS (.bin .BitXor (.ix KZ KS) (.call L8 (La (.call wa (La KY K0)) K1))))
  .nil))
noncomputable def UZ (L8 iv wa rp rn lo dp:Nat):bJ:=(.cons (.asg (.nm 4) (.comp 1 [0] (.nm 0) (.seq KW) .none (.call lo (La KU (Ld KW)))) ε)
  (.cons (.asg (.nm 5) (.sl (.call rp (La KR (.call rn (K9 KQ)))) .none (.some (Ld KQ))) ε)
  (.cons (.asg (.nm 6) (.blt .list (K9 KU)) ε)
  (.cons (.Li (.tp [3,7]) (.zip KW KQ) (Ft L8 iv wa dp))
  (.cons (.ret KZ)
  .nil)))))
variable {dp:Nat}
theorem xp (ht:iV T L8)(hi:zQ T iv)(hw:vK T wa)(hd:Hv T dp)(g su wo:List Nat){LU:List Nat}(gl:Gr ls)(gh:Gr LU){n:Nat}:∀(r l:List Nat) (o3 o7 o8:Slot),cH o3->cH o7->cH o8->(∀p∈r,p<l.length)->l.length<=1000->∃QU M8 Wf,cH QU/\cH M8/\cH Wf /\
  bU (.tp [3,7]) [4] (aE T (Ft L8 iv wa dp)) (r.map λ(p:Nat)=>D.tup [.int (p:Int),.int ((loc n p:Nat):Int)]) [sG g,sG su,sG wo,o3,θ (.lst (gD ls),.lk),oG LU,oG l,o7,o8]=.nx [sG g,sG su,sG wo,QU,θ (.lst (gD ls),.lk),oG LU,oG (vM n LU ls r l),M8,Wf]
 |[],l,o3,o7,o8,a,b,c,_,_=>⟨o3,o7,o8,a,b,c,rfl⟩
 |p::r,l,o3,o7,o8,t3,t7,t8,hp,hl=>by
  have hx:=iS n p;have Mm:tm (loc n p) (cZ (loc n p) 1 ls)≠0:=λe=>(fC hx (jN hx gl (by decide)) e).elim (sR n p) (sU hx gl (by decide) (by decide))
  have Mz:=bN hx (jN hx gl (pr:=1) (by decide));obtain⟨x,y,z,tx,ty,tz,q⟩:=xp ht hi hw hd g su wo gl gh (n:=n) r (l.set p (l.getD p 0^^^share LU ls (loc n p))) (sN p) (sN (loc n p)) (sN (pw (tm (loc n p) (cZ (loc n p) 1 ls)) 62)) (aC _) (aC _) (aC _) (λz hz=>by rw[ak];exact hp z (aa _ hz)) (by rw[ak];exact hl);refine⟨x,y,z,tx,ty,tz,?_⟩;have te:Tame [sG g,sG su,sG wo,o3,θ (.lst (gD ls),.lk),oG LU,oG l,o7,o8]:=.cons (aM _) (.cons (aM _) (.cons (aM _) (.cons t3 (.cons (iK _) (.cons (aC _) (.cons (aC _) (.cons t7 (.cons t8 .nil))))))));have hb:be [4] (.tp [3,7]) (.tup [.int (p:Int),.int ((loc n p:Nat):Int)]) [sG g,sG su,sG wo,o3,θ (.lst (gD ls),.lk),oG LU,oG l,o7,o8]=θ [sG g,sG su,sG wo,sN p,θ (.lst (gD ls),.lk),oG LU,oG l,sN (loc n p),o8]:=fX te (by simp) (by simp) rfl rfl;have LX:Tame [sG g,sG su,sG wo,sN p,θ (.lst (gD ls),.lk),oG LU,oG l,sN (loc n p),o8]:=.cons (aM _) (.cons (aM _) (.cons (aM _) (.cons (aC _) (.cons (iK _) (.cons (aC _) (.cons (aC _) (.cons (aC _) (.cons t8 .nil))))))));have v7:ev T K0 [sG g,sG su,sG wo,sN p,θ (.lst (gD ls),.lk),oG LU,oG l,sN (loc n p),o8]=.ok (.int ((loc n p:Nat):Int),.mv []):=aJ rfl rfl;have v4:ev T KQ [sG g,sG su,sG wo,sN p,θ (.lst (gD ls),.lk),oG LU,oG l,sN (loc n p),o8]=.ok (.lst (gD ls),.mv [4]):=rfl;have s1:bC T (.asg (.nm 8) (.call iv (K9 (.call L8 (La K0 (.call dp (La K0 KQ)))))) ε) [sG g,sG su,sG wo,sN p,θ (.lst (gD ls),.lk),oG LU,oG l,sN (loc n p),o8]=.nx [sG g,sG su,sG wo,sN p,θ (.lst (gD ls),.lk),oG LU,oG l,sN (loc n p),sN (pw (tm (loc n p) (cZ (loc n p) 1 ls)) 62)] :=
   bI LX (by simp) (Pc.Sm.kC (Pc.Sm.cJ v7 (Pc.Sm.cJ v7 v4 (hd (loc n p) ls hx gl)) (ht _ _ (jN hx gl (by decide)))) (hi _ Mz Mm))
  have Nm:Tame [sG g,sG su,sG wo,sN p,θ (.lst (gD ls),.lk),oG LU,oG l,sN (loc n p),sN (pw (tm (loc n p) (cZ (loc n p) 1 ls)) 62)]:=.cons (aM _) (.cons (aM _) (.cons (aM _) (.cons (aC _) (.cons (iK _) (.cons (aC _) (.cons (aC _) (.cons (aC _) (.cons (aC _) .nil))))))));have w3:ev T KS [sG g,sG su,sG wo,sN p,θ (.lst (gD ls),.lk),oG LU,oG l,sN (loc n p),sN (pw (tm (loc n p) (cZ (loc n p) 1 ls)) 62)]=.ok (.int (p:Int),.mv []):=aJ rfl rfl;have w5:ev T KY [sG g,sG su,sG wo,sN p,θ (.lst (gD ls),.lk),oG LU,oG l,sN (loc n p),sN (pw (tm (loc n p) (cZ (loc n p) 1 ls)) 62)]=.ok (.lst (gD LU),.mv [5]):=bP rfl rfl;have w6:ev T KZ [sG g,sG su,sG wo,sN p,θ (.lst (gD ls),.lk),oG LU,oG l,sN (loc n p),sN (pw (tm (loc n p) (cZ (loc n p) 1 ls)) 62)]=.ok (.lst (gD l),.mv [6]):=bP rfl rfl;have w7:ev T K0 [sG g,sG su,sG wo,sN p,θ (.lst (gD ls),.lk),oG LU,oG l,sN (loc n p),sN (pw (tm (loc n p) (cZ (loc n p) 1 ls)) 62)]=.ok (.int ((loc n p:Nat):Int),.mv []):=aJ rfl rfl;have w8:ev T K1 [sG g,sG su,sG wo,sN p,θ (.lst (gD ls),.lk),oG LU,oG l,sN (loc n p),sN (pw (tm (loc n p) (cZ (loc n p) 1 ls)) 62)]=.ok (.int ((pw (tm (loc n p) (cZ (loc n p) 1 ls)) 62:Nat):Int),.mv []):=aJ rfl rfl;have LQ:p<l.length:=hp p ag;have e1:ev T (.ix KZ KS) [sG g,sG su,sG wo,sN p,θ (.lst (gD ls),.lk),oG LU,oG l,sN (loc n p),sN (pw (tm (loc n p) (cZ (loc n p) 1 ls)) 62)]=.ok (.int ((l.getD p 0:Nat):Int),.mv []):=by
   rw[ev,w6,aB,w3,aB,mX LQ,aL,aB];rfl
  have e2:=Pc.Sm.cJ (Pc.Sm.cJ w5 w7 (hw LU (loc n p) hx)) w8 (ht _ _ (bR Mz 62));have e3:ev T (.bin .BitXor (.ix KZ KS) (.call L8 (La (.call wa (La KY K0)) K1))) [sG g,sG su,sG wo,sN p,θ (.lst (gD ls),.lk),oG LU,oG l,sN (loc n p),sN (pw (tm (loc n p) (cZ (loc n p) 1 ls)) 62)]=.ok (.int ((l.getD p 0^^^share LU ls (loc n p):Nat):Int),.mv []):=by
   rw[ev,e1,aB,e2,aB,aS];show (gQ (θ (D.int (Ρ ((l.getD p 0:Nat):Int) ((share LU ls (loc n p):Nat):Int))))).bind _=_;rw[gG];rfl
  have s2:=lV (T:=T) (x:=6) Nm rfl w3 (hZ (n:=(gD l).length) (by rw[aY];exact LQ)) e3 (by rw[aY];exact cY hl);rw[av,bU,hb];dsimp only;unfold Ft;rw[aE,s1,aD,aE,s2,aD,oE];exact q
variable {g:List Nat}
theorem JQ (ht:iV T L8)(hi:zQ T iv)(hw:vK T wa)(S1:zR T rp)(Qc:D9 T rn)(Qk:Gf T lo)(hd:Hv T dp){su wo:List Nat}(gg:Gr g)(gw:Gr wo)(lg:g.length<=63)(lsu:su.length<=130)(lw:wo.length<=62)(hs:∀p∈su,p<g.length) :
  Pc.ret (aE T (UZ L8 iv wa rp rn lo dp) (aF [.lst (gD g),.lst (gD su),.lst (gD wo)] 9))=.ok (.lst (gD (gN g su wo)),ζ):=by
 have Lu:aF [.lst (gD g),.lst (gD su),.lst (gD wo)] 9=[sG g,sG su,sG wo,η,η,η,η,η,η]:=rfl;have V0:Vw (aF [.lst (gD g),.lst (gD su),.lst (gD wo)] 9) [lD g,lD su,lD wo,η,η,η,η,η,η]:=Vw.start _ 9;rw[Lu] at V0 ⊢;have tn:=aH;have Rz:Tame [sG g,sG su,sG wo,η,η,η,η,η,η]:=.cons (aM _) (.cons (aM _) (.cons (aM _) (.cons tn (.cons tn (.cons tn (.cons tn (.cons tn (.cons tn .nil))))))));let ls:=locs g.length su;have gl:Gr ls:=kJ _ _;have ll:ls.length=su.length:=by simp[ls,locs]
 have hit:fU T (.seq KW) [sG g,sG su,sG wo,η,η,η,η,η,η]=.ok (gD su,[]):=rfl;have c1:ev T (.comp 1 [0] (.nm 0) (.seq KW) .none (.call lo (La KU (Ld KW)))) [sG g,sG su,sG wo,η,η,η,η,η,η]=.ok (.lst (gD ls),.mv []):=by
  rw[l9 (g:=λd=>match d with|.int k=>(.int ((loc g.length k.toNat:Nat):Int),.mv [])|_=>(.Lj,.mv [])) hit (by rw[aY];exact cY (by omega)) (λd hd=>?_) (λd hd=>?_)]
  .show Rs.ok (D.lst _,Rt.mv [])=Rs.ok (D.lst (gD (locs g.length su)),Rt.mv []);rw[gD,locs,gD,aw,aw];rfl
  .obtain⟨x,hx,rfl⟩:=χ.mp hd;have hb:be [] (.nm 0) (.int (x:Int)) (aO [sG g,sG su,sG wo,η,η,η,η,η,η] 1 [0])=θ [sN x,sG g]:=rfl;rw[hb];have w0:ev T KU [sN x,sG g]=.ok (.int (x:Int),.mv []):=aJ rfl rfl;have e1:=Pc.Sm.cJ w0 (iO (T:=T) (env:=[sN x,sG g]) (i:=1) (gs:=g) (t:=.sh []) rfl) (Qk x g.length (hs x hx) (by omega));simp only[bM,nT,aB,if_true,e1,bo]
  .obtain⟨x,hx,rfl⟩:=χ.mp hd;rfl
 have s1:bC T (.asg (.nm 4) (.comp 1 [0] (.nm 0) (.seq KW) .none (.call lo (La KU (Ld KW)))) ε) [sG g,sG su,sG wo,η,η,η,η,η,η]=.nx [sG g,sG su,sG wo,η,oG ls,η,η,η,η]:=bI Rz (by simp) c1;have LX:Tame [sG g,sG su,sG wo,η,oG ls,η,η,η,η]:=.cons (aM _) (.cons (aM _) (.cons (aM _) (.cons tn (.cons (aC _) (.cons tn (.cons tn (.cons tn (.cons tn .nil))))))));have ra:=fR (r:=[1]) gl lq (by decide) rfl;have w2:ev T KR [sG g,sG su,sG wo,η,oG ls,η,η,η,η]=.ok (.lst (gD wo),.sh []):=rfl;have w4:ev T KQ [sG g,sG su,sG wo,η,oG ls,η,η,η,η]=.ok (.lst (gD ls),.mv [4]):=bP rfl rfl;have c2:=Pc.Sm.cJ w2 (Pc.Sm.kC w4 (Qc ls gl (by omega))) (S1 wo (fS [1] ls) gw ra.2.1 (by rw[ra.1];simp;omega) (by rw[ra.1];simp;omega));have c3:ev T (.sl (.call rp (La KR (.call rn (K9 KQ)))) .none (.some (Ld KQ))) [sG g,sG su,sG wo,η,oG ls,η,η,η,η]=.ok (.lst (gD (dE wo ls)),.mv []):=by
  rw[ev,c2,aB,jW,aB,jW,iO (T:=T) (env:=[sG g,sG su,sG wo,η,oG ls,η,η,η,η]) (i:=4) (gs:=ls) (t:=.own) rfl,aB];dsimp only;rw[aB,Fe,aL,aB,cB (eE _)];rfl
 have s2:bC T (.asg (.nm 5) (.sl (.call rp (La KR (.call rn (K9 KQ)))) .none (.some (Ld KQ))) ε) [sG g,sG su,sG wo,η,oG ls,η,η,η,η]=.nx [sG g,sG su,sG wo,η,oG ls,oG (dE wo ls),η,η,η]:=bI LX (by simp) c3;have Nm:Tame [sG g,sG su,sG wo,η,oG ls,oG (dE wo ls),η,η,η]:=.cons (aM _) (.cons (aM _) (.cons (aM _) (.cons tn (.cons (aC _) (.cons (aC _) (.cons tn (.cons tn (.cons tn .nil))))))));have c4:ev T (.blt .list (K9 KU)) [sG g,sG su,sG wo,η,oG ls,oG (dE wo ls),η,η,η]=.ok (.lst (gD g),.mv []):=by
  have h1:bL T (K9 KU) [sG g,sG su,sG wo,η,oG ls,oG (dE wo ls),η,η,η]=.ok [(.lst (gD g),.sh [])]:=rfl;rw[ev,h1,aB];show (Rs.ok (Pc.D.lst (gD g))).bind _=_;rw[aB,cB (eE _)]
 have s3:bC T (.asg (.nm 6) (.blt .list (K9 KU)) ε) [sG g,sG su,sG wo,η,oG ls,oG (dE wo ls),η,η,η]=.nx [sG g,sG su,sG wo,η,oG ls,oG (dE wo ls),oG g,η,η]:=bI Nm (by simp) c4;obtain⟨x,y,z,tx,ty,tz,q⟩:=xp ht hi hw hd g su wo gl (tK gw gl) (n:=g.length) su g η η η tn tn tn hs (by omega);have hz:fU T (.zip KW KQ) [sG g,sG su,sG wo,η,oG ls,oG (dE wo ls),oG g,η,η]=.ok (su.map λ(p:Nat)=>D.tup [.int (p:Int),.int ((loc g.length p:Nat):Int)],[4]):=by
  have v1:ev T KW [sG g,sG su,sG wo,η,oG ls,oG (dE wo ls),oG g,η,η]=.ok (.lst (gD su),.sh []):=rfl;have v4:ev T KQ [sG g,sG su,sG wo,η,oG ls,oG (dE wo ls),oG g,η,η]=.ok (.lst (gD ls),.mv [4]):=bP rfl rfl;rw[fU,v1,aB,v4,aB];show (Rs.ok (gD su)).bind (λl=>(Rs.ok (gD ls)).bind λm=>Rs.ok ((l.zip m).map λz=>D.tup [z.1,z.2],[4]))=_;rw[aB,aB];congr 2;show (Κ (gD su) (gD (su.map (loc g.length)))).map _=_;rw[gD,gD,aw,List.zip_map'];rw[aw];rfl
 have s4:=rW (T:=T) (x:=4) rfl hz q rfl;unfold UZ;rw[aE,s1,aD,aE,s2,aD,aE,s3,aD,aE,s4,aD];show Pc.ret (aE T (.cons (.ret KZ) .nil) [sG g,sG su,sG wo,x,oG ls,oG (dE wo ls),oG (gN g su wo),y,z])=_;generalize gN g su wo=l;simp[aE,bC,ev,aP,D.flat,mH,Pc.ret,bV]
theorem aG.OB {b:Ex}{x y:D}(h:aG T a env x)(h2:aG T b env y):aG T (.tup (.cons a (.cons b .nil))) env (.tup [x,y]):=by
 obtain⟨R,h⟩:=h;obtain⟨R2,h2⟩:=h2;exact⟨_,by rw[ev,bL,h,aB,bL,h2,aB,bL,aB,aB,aB];exact if_pos (by show (2:Nat)<=lim;decide)⟩
def Gb (T:Tb)(ic:Nat):Prop:=∀(gs:List Nat) (c:Nat),c<=900->T.cl ic [.lst (gD gs),.int (c:Int)]=.ok (.bl (decide (vc gs c)),ζ)
noncomputable def Kn:Ex:=.cmp .Gt (Ld KW) KR
noncomputable def IE (ic:Nat):Ex:=.or (.cmp .Gt (.bin .Add (.bin .Mult Ku (Ld KZ)) (Ld KW)) KR) (.not (.call ic (La KY KR)))
noncomputable def US (wa cn ic su ch:Nat):bJ:=(.cons (.ite Kn (.cons (.expr (.neg (.cst .Lj)))
  .nil) .nil)
  (.cons (.asg (.nm 3) (.comp 1 [0] (.nm 0) (.seq (.call cn (K9 KR))) .none (.call wa (La KW KU))) ε)
  (.cons (.asg (.nm 4) (.bin .Add (.blt .list (K9 KW)) (.call su (Lb KS KW (Ld KU)))) ε)
  (.cons (.asg (.nm 5) (.call ch (Lb KU KQ KS)) ε)
  (.cons (.asg (.nm 6) (.comp 1 [0,5,1] (.nm 0) (.Lm (Ld KU)) (.some (.and (.cmp .NotIn KU KS) (.cmp .NotEq (.ix KR KU) (.ix KW KU)))) KU) ε)
  (.cons (.ite (IE ic) (.cons (.expr (.neg (.cst .Lj)))
  .nil) .nil)
  (.cons (.ret (.tup (La KY KZ)))
  .nil)))))))
variable {c:Nat}
theorem Jr {r:List (Option D)}(V:Vw env (lD g::lD mi::nD c::r)):aG T Kn env (.bl (decide (c<mi.length))):=by
 refine aG.cmp (V.len (i:=1) rfl) (V.var (i:=2) rfl) ?_;show θ (decide ((c:Int)<(mi.length:Int)))=_;congr 1;rw[fk];simp
noncomputable abbrev vA (g mi:List Nat)(c:Nat):List Nat:=mi++susp (aU g c) mi g.length
theorem BE {wo:List Nat}(h:p∈susp wo mi n):p<n:=(fH.mp (gx.mp h).1).1
theorem A7 (wo mi:List Nat)(n:Nat):(susp wo mi n).length<=n:=by
 have h1:=g9 (λp=>dP (loc n p) (iM wo mi n)==0) (others mi n);have h2:=g9 (λp=>!mi.contains p) (υ n);rw[bu] at h2;exact cu h1 h2
noncomputable def EF (g mi:List Nat)(c:Nat):Bool:=decide (c<2*(dD g (cT g mi c) mi).length+mi.length) || !decide (vc (cT g mi c) c)
theorem Jf {ic:Nat}(hi:Gb T ic)(lc:c<=62){v3 v4:Option D}(V:Vw env [lD g,lD mi,nD c,v3,v4,lD (cT g mi c),lD (dD g (cT g mi c) mi)]):aG T (IE ic) env (.bl (EF g mi c)):=by
 refine aG.or (k:=decide (c<2*(dD g (cT g mi c) mi).length+mi.length)) (aG.cmp (aG.bin (op:=.Add) (aG.bin (op:=.Mult) (aG.cst _) (V.len (i:=6) rfl) (z:=.int (2*((dD g (cT g mi c) mi).length:Int))) rfl) (V.len (i:=1) rfl) (z:=.int (2*((dD g (cT g mi c) mi).length:Int)+(mi.length:Int))) rfl) (V.var (i:=2) rfl) ?_) (λhk=>?_) (λhk=>?_)
 .show θ (decide ((c:Int)<2*((dD g (cT g mi c) mi).length:Int)+(mi.length:Int)))=_;congr 1;rw[fk];simp;omega
 .unfold EF;rw[hk,Z6];exact aG.not (aG.cJ (V.var (i:=5) rfl) (V.var (i:=2) rfl) (hi _ c (by omega)))
 .unfold EF;rw[hk,YA]
noncomputable abbrev Q3 (g mi:List Nat)(c:Nat):D:=.tup [.lst (gD (cT g mi c)),.lst (gD (dD g (cT g mi c) mi))]
def EO (g y mi:List Nat)(c:Nat):Prop:=Gr y/\y.length=g.length/\vc y c/\2*(dD g y mi).length+mi.length<=c
theorem uZ {y:List Nat}(gg:Gr g)(Pk:g.length<=63)(Rm:c<=62)(mn:mi.Nodup)(ml:∀p∈mi,p<g.length)(N:EO g y mi c):cT g mi c=y/\EF g mi c=ε:=by
 obtain⟨gy,ly,code,le⟩:=N;have e:=found gg gy ly Pk Rm code mn ml le;refine⟨e,?_⟩;unfold EF;rw[e,bh (by omega),cm code];rfl
end Pc.Vw
end
section
namespace Pc.Vw
open PySem Pc Pc.Sm Pc.Gr Pc.Lw Fl64 Md
variable {T:Tb}{a b:Ex}{env:En}{x y:Nat}
theorem aG.xor (h:aG T a env (.int (x:Int)))(h':aG T b env (.int (y:Int))):aG T (.bin .BitXor a b) env (.int ((x^^^y:Nat):Int)):=aG.bin h h' (by
 show θ (D.int (Ρ (x:Int) (y:Int)))=_;rw[gG])
theorem aG.cat {x y:List Nat}(h:aG T a env (.lst (gD x)))(h':aG T b env (.lst (gD y)))(hl:x.length+y.length<=1000):aG T (.bin .Add a b) env (.lst (gD (x++y))):=aG.bin h h' (by
 show ck ((gD x).length+(gD y).length) (.lst (gD x++gD y))=_;unfold ck;rw[if_pos (by rw[aY,aY];exact cY hl),eC])
theorem rj:∀(l:List Nat) (i:Nat),(gD l).eraseIdx i=gD (l.eraseIdx i)
 |[],_=>rfl
 |a::l,0=>rfl
 |a::l,i+1=>by
  show D.int (a:Int)::(gD l).eraseIdx i=_;rw[rj l i];rfl
variable {i:Nat}{l:List Nat}
theorem JT (h:i<l.length)(hl:l.length<=1000):sE (gD l) [.int (i:Int)]=θ (.int ((l.getD i 0:Nat):Int),gD (l.eraseIdx i)):=by
 have e:sE (gD l) [.int (i:Int)]=(kQ (gD l).length (i:Int)).bind (nO (gD l)):=by
  unfold sE;exact if_pos ⟨XS (by decide) (jc i),Int.lt_of_lt_of_le (Int.ofNat_lt.mpr (ay h hl)) (by decide)⟩
 rw[e,hZ (by rw[aY];exact h)];show nO (gD l) i=_;unfold nO;rw[A6 h];dsimp only;rw[if_pos (show (D.int ((l.getD i 0:Nat):Int)).flat=ζ from rfl),rj]
variable {R:Rt}{d:D}{e:Ex}
theorem AZ {xs ys rest:List D}{it:D}(ht:Tame env)(Q9:y≠x)(hx:env[x]? = θ (θ (.lst xs,.own)))(hy:env[y]? = θ (θ (.lst ys,.own)))(h:ev T e env=.ok (d,R))(hp:sE xs [d]=θ (it,rest))(lx:rest.length<=lim)(ly:(ys ++ [it]).length<=lim) :
  bC T (.M6 y x (.cons e .nil)) env=.nx ((env.set x (θ (.lst rest,.own))).set y (θ (.lst (ys ++ [it]),.own))):=by
 have ox:ownAt env x=θ (.lst xs):=by unfold ownAt;rw[hx]
 have Tw:bL T (.cons e .nil) env=.ok [(d,R)]:=by rw[bL,h,aB,bL,aB]
 have m1:dU x η env (.lst xs) rest []=.nx (env.set x (θ (.lst rest,.own))):=by
  unfold dU;show (if (decide ([]:List Nat).Nodup&&bV env [] && !([]:List Nat).contains x&&decide (rest.length<=lim))=ζ then Fl.nx ((kill [x] env).set x (θ (.lst rest,.own))) else .bad)=_;rw[if_pos (by rw[cm lx];rfl),fM ht]
 have LX:Tame (env.set x (θ (.lst rest,.own))):=ht.set (aC _) x;have oy:ownAt (env.set x (θ (.lst rest,.own))) y=θ (.lst ys):=by unfold ownAt;rw[μ (cv Q9),hy]
 have m2:dU y η (env.set x (θ (.lst rest,.own))) (.lst ys) (ys ++ [it]) []=.nx ((env.set x (θ (.lst rest,.own))).set y (θ (.lst (ys ++ [it]),.own))):=by
  unfold dU;show (if (decide ([]:List Nat).Nodup&&bV (env.set x (θ (.lst rest,.own))) [] && !([]:List Nat).contains y&&decide ((ys ++ [it]).length<=lim))=ζ then Fl.nx ((kill [y] (env.set x (θ (.lst rest,.own)))).set y (θ (.lst (ys ++ [it]),.own))) else .bad)=_;rw[if_pos (by rw[cm ly];rfl),fM LX]
 rw[bC,if_neg Q9,ox];dsimp only[D.LL];rw[Tw,aP,ya,hp];dsimp only;rw[m1];dsimp only[Fl.andThen];rw[oy];exact m2
theorem Cq {T:Tb}{x y:Nat}{xs ys:List Nat}(ht:Tame env)(Q9:y≠x)(hx:env[x]? = θ (oG xs))(hy:env[y]? = θ (oG ys))(h:ev T e env=.ok (.int (i:Int),R))(hi:i<xs.length)(lx:xs.length<=1000)(ly:ys.length<1000) :
  bC T (.M6 y x (.cons e .nil)) env=.nx ((env.set x (oG (xs.eraseIdx i))).set y (oG (ys ++ [xs.getD i 0]))):=by
 have ga:gD (ys ++ [xs.getD i 0])=gD ys ++ [D.int ((xs.getD i 0:Nat):Int)]:=eC _ _;have:=AZ ht Q9 hx hy h (JT hi lx) (by rw[aY];exact cY (cu (List.length_eraseIdx_le ..) lx)) (by rw[<-ga,aY];exact cY (by simp;omega));rw[this,<-ga]
theorem Al:∀l:List Nat,mT (gD l)=θ (gI l)
 |[]=>rfl
 |a::l=>by
  show (mT (gD l)).map ((a:Int) :: ·)=_;rw[Al l];rfl
noncomputable def cO (l:List Nat):List Nat:=(fV (gI l)).map ZH
theorem lB (a:Int):∀l:List Int,(insI a l).Perm (a::l)
 |[]=>.refl _
 |b::l=>by
  unfold insI;split
  .exact .refl _
  .exact ((lB a l).cons b).trans (.swap a b l)
theorem jS:∀l:List Int,(fV l).Perm l
 |[]=>.refl _
 |a::l=>(lB a _).trans ((jS l).cons a)
theorem qo (a:Int):∀{l:List Int},l.Pairwise (·<=·)->(insI a l).Pairwise (·<=·)
 |[],_=>Ys _ _
 |b::l,h=>by
  have h':=im.mp h;unfold insI;split
  .rename_i e;refine im.mpr ⟨λx hx=>?_,h⟩;rcases fe.mp hx with rfl|hx
   .exact e
   .exact XS e (h'.1 x hx)
  .rename_i e;refine im.mpr ⟨λx hx=>?_,qo a h'.2⟩;rcases fe.mp ((lB a l).mem_iff.mp hx) with rfl|hx
   .omega
   .exact h'.1 x hx
theorem nM:∀l:List Int,(fV l).Pairwise (·<=·)
 |[]=>.nil
 |a::l=>qo a (nM l)
theorem zX (l:List Nat):(gI l).map ZH=l:=by
 rw[aw]
 conv=>rhs;rw[<-ÿ l]
 exact fu λa _=>bo a
theorem dW (l:List Nat):(cO l).Perm l:=by
 have:=(jS (gI l)).map ZH
 rwa [zX] at this
theorem BX (l:List Nat):(fV (gI l)).map D.int=gD (cO l):=by
 unfold cO;rw[gD,aw];refine fu λz hz=>?_
 obtain⟨a,_,rfl⟩:=χ.mp ((jS (gI l)).mem_iff.mp hz);show D.int (a:Int)=D.int (((a:Int).toNat:Nat):Int);rw[bo]
theorem nr (hn:l.Nodup):(cO l).Pairwise (· < ·):=by
 have h1:(cO l).Pairwise (·<=·):=by
  unfold cO;rw[jg];refine (nM (gI l)).imp λh=>?_
  omega
 have h2:(cO l).Nodup:=(dW l).nodup_iff.mpr hn;exact (h1.and h2).imp λ⟨a,b⟩=>by omega
theorem aG.sorted {T:Tb}(h:aG T a env (.lst (gD l)))(hl:l.length<64):aG T (.blt .sorted (.cons a .nil)) env (.lst (gD (cO l))):=aG.LC h (by
 show (match mT (gD l) with
  |some ns=>if ns.length<64 then θ (D.lst ((fV ns).map .int)) else η
  |none=>η)=_
 rw[Al];dsimp only;rw[if_pos (by rw[ai];exact hl),BX])
theorem vo:∀{a b:List Nat},a.Pairwise (· < ·)->b.Pairwise (· < ·)->(∀p,p∈a↔p∈b)->a=b
 |[],[],_,_,_=>rfl
 |[],y::b,_,_,h=>absurd ((h y).mpr ag) (by simp)
 |x::a,[],_,_,h=>absurd ((h x).mp ag) (by simp)
 |x::a,y::b,ha,hb,h=>by
  have Nb:=im.mp ha;have Mo:=im.mp hb;have e:x=y:=by
   rcases fe.mp ((h x).mp ag) with q|q
   .exact q
   .rcases fe.mp ((h y).mpr ag) with r|r
    .exact r.symm
    .have:=Mo.1 x q;have:=Nb.1 y r;omega
  subst e;rw[vo Nb.2 Mo.2 λp=>⟨λhp=>?_,λhp=>?_⟩]
  .rcases fe.mp ((h p).mp (aa _ hp)) with q|q
   .have:=Nb.1 p hp;omega
   .exact q
  .rcases fe.mp ((h p).mpr (aa _ hp)) with q|q
   .have:=Mo.1 p hp;omega
   .exact q
theorem qX (n:Nat):(υ n).Pairwise (· < ·):=List.pairwise_lt_range
theorem vG (g y mi:List Nat):(dD g y mi).Pairwise (· < ·):=(qX _).filter _
theorem mP {α:Type}{a b:α}(h:Rs.ok a=Rs.ok b):a=b:=by cases h;rfl
theorem cM {α β:Type}{a:Rs α}{f:α->Rs β}{b:β}(h:a.bind f=.ok b):∃x,a=.ok x/\f x=.ok b:=by
 cases a with
 |ok x=>exact⟨x,rfl,h⟩
 |exc e=>cases h
 |bad=>cases h
theorem sZ {k:Cz}{es:nV}(h:aG T (.blt k es) env d)(hd:d.inner=ζ):ev T (.blt k es) env=.ok (d,.mv []):=by
 obtain⟨R,h⟩:=h;have h':=h;rw[ev] at h;obtain⟨p,_,h⟩:=cM h;obtain⟨z,_,h⟩:=cM h;have:=mP h;rw[gm] at this;obtain⟨rfl,e⟩:=this;rw[h',<-e];unfold jC;rw[if_pos hd]
def VC (T:Tb)(pl:Nat):Prop:=∀(ns:List Int) (m s t:Nat),s<=m->m<=63->∃ps:List Nat,ps.Pairwise (· < ·)/\ps.length=s/\(∀p∈ps,p<m)/\T.cl pl [.lst (ns.map D.int),.int (m:Int),.int (s:Int),.int (t:Int)]=.ok (.lst (gD ps),ζ)
noncomputable def Dc (mx ce:Nat):bJ:=(.cons (.asg (.nm 7) (.call mx (La (.call ce (La KU (.bin .Add KZ KS))) (.bin .Add KZ KS))) ε)
  (.cons (.M6 5 4 (K9 (.bin .Mod (.bin .FloorDiv K0 KG) (Ld KQ))))
  .nil))
noncomputable def UQ (mx ce:Nat):bJ:=(.cons (.asg (.nm 4) (.blt .MH (K9 KW)) ε)
  (.cons (.asg (.nm 5) (.lst .nil) ε)
  (.cons (.Li (.nm 6) (.Lm KR) (Dc mx ce))
  (.cons (.ret (.blt .sorted (K9 KY)))
  .nil))))
noncomputable abbrev EP (S:List D)(m s t:Nat)(L P:List Nat)(o6 o7:Slot):En:=[θ (.lst S,.sh []),sN m,sN s,sN t,oG L,oG P,o6,o7]
variable {L P:List Nat}{m s:Nat}{o6 o7:Slot}
theorem rJ {S:List D}{t:Nat}(h6:cH o6)(h7:cH o7):Tame (EP S m s t L P o6 o7):=.cons (aM _) (.cons (aC _) (.cons (aC _) (.cons (aC _) (.cons (aC _) (.cons (aC _) (.cons h6 (.cons h7 .nil)))))))
theorem pO:∀{l:List Nat}{i:Nat},i<l.length->l.Perm (l.getD i 0::l.eraseIdx i)
 |[],i,h=>by cases h
 |a::l,0,h=>.refl _
 |a::l,i+1,h=>by
  have:=pO (l:=l) (i:=i) (by simpa using h);exact (this.cons a).trans (.swap _ _ _)
structure Iw (m k:Nat)(L P:List Nat):Prop where
 nd:(L++P).Nodup
 lt:∀p∈L++P,p<m
 lp:P.length=k
 ll:L.length+k=m
variable {k:Nat}
theorem Iw.step (h:Iw m k L P)(hi:i<L.length):Iw m (k+1) (L.eraseIdx i) (P ++ [L.getD i 0]):=by
 have e:(L.eraseIdx i++(P ++ [L.getD i 0])).Perm (L++P):=by
  have h1:=pO hi;refine Č ?_ (h1.symm.append_right P);rw[<-ef];refine (YK).trans ?_;exact .refl _
 refine⟨e.nodup_iff.mpr h.nd,λp hp=>h.lt p (e.mem_iff.mp hp),by simp[h.lp],?_⟩;have:=h.ll;rw[List.length_eraseIdx_of_lt hi];omega
variable {ce mx:Nat}
theorem CP {T:Tb}(hm:Au T mx)(hc:Gz T ce)(ns:List Int){s t:Nat}(hk:k<m)(Qh:m<=63)(h:Iw m k L P)(h6:cH o6)(h7:cH o7) :
  ∃M8 L' P',cH M8/\Iw m (k+1) L' P'/\be [] (.nm 6) (.int (k:Int)) (EP (ns.map D.int) m s t L P o6 o7)=θ (EP (ns.map D.int) m s t L P (sN k) o7)/\aE T (Dc mx ce) (EP (ns.map D.int) m s t L P (sN k) o7)=.nx (EP (ns.map D.int) m s t L' P' (sN k) M8):=by
 have hL:L.length=m-k:=by have:=h.ll;omega
 have LX:Tame (EP (ns.map D.int) m s t L P (sN k) o7):=rJ (aC _) h7;have v0:ev T KU (EP (ns.map D.int) m s t L P (sN k) o7)=.ok (.lst (ns.map D.int),.sh []):=rfl;have e1:ev T (.bin .Add KZ KS) (EP (ns.map D.int) m s t L P (sN k) o7)=.ok (.int ((k+t:Nat):Int),.mv []):=by
  have v6:ev T KZ (EP (ns.map D.int) m s t L P (sN k) o7)=.ok (.int (k:Int),.mv []):=aJ rfl rfl;have v3:ev T KS (EP (ns.map D.int) m s t L P (sN k) o7)=.ok (.int (t:Int),.mv []):=aJ rfl rfl;rw[ev,v6,aB,v3,aB,aS];show (gQ (θ (D.int ((k:Int)+(t:Int))))).bind _=_;rw[show (k:Int)+(t:Int)=((k+t:Nat):Int) by omega];rfl
 obtain⟨v,hv⟩:=hc ns (k+t);obtain⟨d,hd0,hd⟩:=hm v ((k+t:Nat):Int);have s1:bC T (.asg (.nm 7) (.call mx (La (.call ce (La KU (.bin .Add KZ KS))) (.bin .Add KZ KS))) ε) (EP (ns.map D.int) m s t L P (sN k) o7)=.nx (EP (ns.map D.int) m s t L P (sN k) (sI d)) :=
  bI LX (by simp) (Pc.Sm.cJ (Pc.Sm.cJ v0 e1 hv) e1 hd)
 have Nm:Tame (EP (ns.map D.int) m s t L P (sN k) (sI d)):=rJ (aC _) (aC _);let i:=(d / 31%(L.length:Int)).toNat;have WO:(0:Int)<(L.length:Int):=by omega
 have hi0:0<=d / 31%(L.length:Int):=jz _ (by omega);have hi1:d / 31%(L.length:Int)<(L.length:Int):=jd _ WO;have e2:ev T (.bin .Mod (.bin .FloorDiv K0 KG) (Ld KQ)) (EP (ns.map D.int) m s t L P (sN k) (sI d))=.ok (.int ((i:Nat):Int),.mv []):=by
  have v7:ev T K0 (EP (ns.map D.int) m s t L P (sN k) (sI d))=.ok (.int d,.mv []):=aJ rfl rfl;have f:ev T (.bin .FloorDiv K0 KG) (EP (ns.map D.int) m s t L P (sN k) (sI d))=.ok (.int (d / 31),.mv []):=by
   rw[ev,v7,aB,ev,aB,aS];rfl
  rw[ev,f,aB,iO (T:=T) (env:=EP (ns.map D.int) m s t L P (sN k) (sI d)) (i:=4) (gs:=L) (t:=.own) rfl,aB,aS];show (gQ ((if (0:Int)<(L.length:Int) then θ (d / 31%(L.length:Int)) else η).map D.int)).bind _=_;rw[if_pos WO,show d / 31%(L.length:Int)=((i:Nat):Int) by show _=(((d / 31%(L.length:Int)).toNat:Nat):Int);omega];rfl
 have hi:i<L.length:=by show (d / 31%(L.length:Int)).toNat<L.length;omega
 have s2:=Cq (T:=T) (x:=4) (y:=5) Nm (by decide) rfl rfl e2 hi (by omega) (by have:=h.lp;omega);refine⟨sI d,L.eraseIdx i,P ++ [L.getD i 0],aC _,h.step hi,gH (rJ h6 h7) (by simp),?_⟩;unfold Dc;rw[aE,s1,aD,aE,s2,aD];rfl
theorem FF (hm:Au T mx)(hc:Gz T ce)(ns:List Int){t:Nat}(hs:s<=m)(Qh:m<=63):∃ps:List Nat,ps.Pairwise (· < ·)/\ps.length=s/\(∀p∈ps,p<m)/\Pc.ret (aE T (UQ mx ce) (aF [.lst (ns.map D.int),.int (m:Int),.int (s:Int),.int (t:Int)] 8))=.ok (.lst (gD ps),ζ):=by
 have Lu:aF [.lst (ns.map D.int),.int (m:Int),.int (s:Int),.int (t:Int)] 8=[θ (.lst (ns.map D.int),.sh []),sN m,sN s,sN t,η,η,η,η]:=rfl;have Rz:Tame [θ (.lst (ns.map D.int),.sh []),sN m,sN s,sN t,η,η,η,η]:=.cons (aM _) (.cons (aC _) (.cons (aC _) (.cons (aC _) (.cons aH (.cons aH (.cons aH (.cons aH .nil)))))));have r1:ev T (.blt .MH (K9 KW)) [θ (.lst (ns.map D.int),.sh []),sN m,sN s,sN t,η,η,η,η]=.ok (.lst (gD (υ m)),.mv []):=by
  have h1:bL T (K9 KW) [θ (.lst (ns.map D.int),.sh []),sN m,sN s,sN t,η,η,η,η]=.ok [(.int (m:Int),.mv [])]:=rfl;rw[ev,h1,aB];show (gQ (if me (m:Int)=ζ/\(m:Int)<=1000000 then θ (D.lst (cN 0 1 (m:Int).toNat)) else η)).bind _=_;rw[if_pos ⟨qq (by omega),by omega⟩,bo,aL,aB];have:=fP m 0;rw[show ((0:Nat):Int)=0 from rfl] at this;rw[this,<-YO,cB (eE _)]
 have s1:bC T (.asg (.nm 4) (.blt .MH (K9 KW)) ε) [θ (.lst (ns.map D.int),.sh []),sN m,sN s,sN t,η,η,η,η]=.nx [θ (.lst (ns.map D.int),.sh []),sN m,sN s,sN t,oG (υ m),η,η,η]:=bI Rz (by simp) r1;have s2:bC T (.asg (.nm 5) (.lst .nil) ε) [θ (.lst (ns.map D.int),.sh []),sN m,sN s,sN t,oG (υ m),η,η,η]=.nx (EP (ns.map D.int) m s t (υ m) [] η η):=by
  refine bI (.cons (aM _) (.cons (aC _) (.cons (aC _) (.cons (aC _) (.cons (aC _) (.cons aH (.cons aH (.cons aH .nil)))))))) (by simp) ?_;rw[ev,bL,aB];rfl
 obtain⟨e,q,⟨L,P,o6,o7,t6,t7,inv,rfl⟩⟩:=qd (t:=.nm 6) (R:=[]) (b:=aE T (Dc mx ce)) (λk env=>∃L P o6 o7,cH o6/\cH o7/\(k<=m->Iw m k L P)/\env=EP (ns.map D.int) m s t L P o6 o7) ((υ s).map λ(k:Nat)=>D.int (k:Int)) 0 (EP (ns.map D.int) m s t (υ m) [] η η) ⟨_,_,η,η,aH,aH,λ_=>⟨by rw[bc];exact Zz,λp hp=>by simpa using hp,rfl,by simp⟩,rfl⟩ (λi d e hd J=>by
  rw[π] at hd;have Mn:i<s:=by
   cases q:(υ s)[i]? with
   |none=>rw[q] at hd;cases hd
   |some z=>have:=(ο.mp q).1;rwa [bu] at this
  rw[Ψ Mn] at hd;cases hd;rw[en] at J ⊢;obtain⟨L,P,o6,o7,t6,t7,inv,rfl⟩:=J;obtain⟨M8,L',P',RK,OS,b1,b2⟩:=CP (T:=T) hm hc ns (s:=s) (t:=t) (show i<m by omega) Qh (inv (by omega)) t6 t7;exact⟨_,_,b1,.inl b2,L',P',sN i,M8,aC _,RK,λ_=>OS,rfl⟩)
 have hit:fU T (.Lm KR) (EP (ns.map D.int) m s t (υ m) [] η η)=.ok ((υ s).map λ(k:Nat)=>D.int (k:Int),[]):=rM ⟨_,(aJ rfl rfl:ev T KR (EP (ns.map D.int) m s t (υ m) [] η η)=.ok (.int (s:Int),.mv []))⟩ (by omega);have q':=cP hit q;simp only[ai,bu,en] at inv;have inv:=inv hs;have nP:P.Nodup:=(fi.mp inv.nd).2.1;refine⟨cO P,nr nP,by rw[(dW P).length_eq,inv.lp],λp hp=>inv.lt p (aq _ ((dW P).mem_iff.mp hp)),?_⟩;rw[Lu];unfold UQ;rw[aE,s1,aD,aE,s2,aD,aE,q',aD];exact fY (sZ (aG.sorted ⟨_,(bP rfl rfl:ev T KY (EP (ns.map D.int) m s t L P o6 o7)=.ok (.lst (gD P),.mv [5]))⟩ (by rw[inv.lp];omega)) (eE _))
variable {p:Nat}
theorem rB {q:Nat}(h:q≠p):(l.set p x).getD q 0=l.getD q 0:=by
 rw[ι,μ (cv h),ι]
theorem zm (h:p<l.length):(l.set p x).getD p 0=x:=by
 rw[ι,ξ h];rfl
theorem CI (h:Gr l){g:Nat}(hg:g<64):Gr (l.set p g):=λz hz=>by
 rcases jf hz with q|q
 .exact h z q
 .rw[q];exact hg
theorem BQ {a e:Nat}(h:e≠0):a^^^e≠a:=λq=>h (by
 have:a^^^(a^^^e)=a^^^a:=by rw[q]
 rwa [<-br,gj,cx] at this)
theorem mem_getD {W:List Nat}(hk:k<W.length):W.getD k 0∈W:=by
 rw[ι,τ hk];exact jj hk
theorem r9 {n:Nat}(hd:((υ n).map λ(k:Nat)=>D.int (k:Int))[i]? = θ d):i<n/\d=.int (i:Int):=by
 rw[π] at hd;have Mn:i<n:=by
  cases q:(υ n)[i]? with
  |none=>rw[q] at hd;cases hd
  |some z=>have:=(ο.mp q).1;rwa [bu] at this
 rw[Ψ Mn] at hd;cases hd;exact⟨Mn,rfl⟩
section
variable {T:Tb}{env:En}{d:D}
theorem qf {op:li}(h:aG T (.bin op a b) env d)(hd:d.inner=ζ):ev T (.bin op a b) env=.ok (d,.mv []):=by
 obtain⟨R,h⟩:=h;have h':=h;rw[ev] at h;obtain⟨p,_,h⟩:=cM h;obtain⟨q,_,h⟩:=cM h;obtain⟨z,_,h⟩:=cM h;have:=mP h;rw[gm] at this;obtain⟨rfl,e⟩:=this;rw[h',<-e];unfold jC;rw[if_pos hd]
theorem VS {lo hi:nY}(h:aG T (.sl a lo hi) env d)(hd:d.inner=ζ):ev T (.sl a lo hi) env=.ok (d,.mv []):=by
 obtain⟨R,h⟩:=h;have h':=h;rw[ev] at h;obtain⟨p,_,h⟩:=cM h;obtain⟨q,_,h⟩:=cM h;obtain⟨r,_,h⟩:=cM h;obtain⟨z,_,h⟩:=cM h;have:=mP h;rw[gm] at this;obtain⟨rfl,e⟩:=this;rw[h',<-e];unfold jC;rw[if_pos hd]
theorem SI {i:Ex}(h:aG T (.ix a i) env d)(hd:d.flat=ζ):ev T (.ix a i) env=.ok (d,.mv []):=by
 obtain⟨R,h⟩:=h;have h':=h;rw[ev] at h;obtain⟨p,_,h⟩:=cM h;obtain⟨q,_,h⟩:=cM h;obtain⟨z,_,h⟩:=cM h;have:=mP h;rw[gm] at this;obtain⟨rfl,e⟩:=this;rw[h',<-e];unfold vJ;rw[if_pos hd]
theorem u4 (h:aG T (.var i) env d)(hd:d.flat=ζ):ev T (.var i) env=.ok (d,.mv []):=by
 obtain⟨R,h⟩:=h;cases q:env[i]? with
 |none=>rw[ev,q] at h;cases h
 |some o=>
  cases o with
  |none=>rw[ev,q] at h;cases h
  |some p=>
   obtain⟨d',t⟩:=p;rw[ev,q] at h;have:=mP h;rw[gm] at this;obtain⟨rfl,e⟩:=this;exact aJ q hd
theorem Aj:∀{l:List (D×Rt)}{gs:List Nat},l.map (·.1)=gD gs->l.all (λq=>q.1.flat || gC q.2)=ζ
 |[],_,_=>rfl
 |p::l,[],h=>by cases h
 |p::l,g::gs,h=>by
  have h1:p.1=.int (g:Int):=(Zg h).1;have h2:l.map (·.1)=gD gs:=(Zg h).2;rw[fh,Aj h2,h1];rfl
theorem EY {o:Nat}{pick:List Nat}{t:nQ}{it:tX}{c:nY}{gs:List Nat}(h:aG T (.comp o pick t it c e) env (.lst (gD gs))):ev T (.comp o pick t it c e) env=.ok (.lst (gD gs),.mv []):=by
 obtain⟨R,h⟩:=h;have h':=h;rw[ev] at h;obtain⟨p,_,h⟩:=cM h;obtain⟨q,_,h⟩:=cM h;split at h
 .have:=mP h;rw[gm] at this;obtain⟨e1,e2⟩:=this;have e1:q.map (·.1)=gD gs:=by injection e1
  rw[Aj e1,if_pos rfl] at e2;rw[h',<-e2]
 .cases h
theorem iF (l:List Nat):(D.lst (gD l)).inner=ζ:=eE l
theorem aG.of (h:ev T e env=.ok (d,R)):aG T e env d:=⟨R,h⟩
theorem aG.M2 {x y:D}(h:aG T a env x)(h2:aG T b env y):aG T (.lst (.cons a (.cons b .nil))) env (.lst [x,y]):=by
 obtain⟨R,h⟩:=h;obtain⟨R2,h2⟩:=h2;exact⟨_,by rw[ev,bL,h,aB,bL,h2,aB,bL,aB,aB,aB];exact if_pos (by show (2:Nat)<=lim;decide)⟩
end
structure Tv (env:En)(vs:List (Option (D×Bool))):Prop where
 len:env.length=vs.length
 tm:Tame env
 at':∀(j:Nat) (d:D) (b:Bool),vs[j]? = θ (θ (d,b))->∃t,env[j]? = θ (θ (d,t))/\(b=ζ->t=.own)
section
variable {T:Tb}{env:En}{vs:List (Option (D×Bool))}{d:D}
theorem Tv.vw (h:Tv env vs):Vw env (vs.map λo=>o.map (·.1)):=by
 refine⟨by rw[ai];exact h.len,λj d e=>?_⟩;rw[π] at e;cases q:vs[j]? with
 |none=>rw[q] at e;cases e
 |some o=>
  cases o with
  |none=>rw[q] at e;cases e
  |some p=>
   rw[q] at e;cases e;obtain⟨t,a,_⟩:=h.at' j p.1 p.2 q;exact⟨t,a⟩
theorem Tv.own (h:Tv env vs){i:Nat}(e:vs[i]? = θ (θ (d,ζ))):env[i]? = θ (θ (d,.own)):=by
 obtain⟨t,a,b⟩:=h.at' i d ζ e;rw[a,b rfl]
theorem Tv.var (h:Tv env vs){i:Nat}{b:Bool}(e:vs[i]? = θ (θ (d,b))):aG T (.var i) env d:=by
 obtain⟨t,a,_⟩:=h.at' i d b e;rw[aG,ev,a];exact⟨_,rfl⟩
theorem Tv.set (h:Tv env vs)(i:Nat)(d:D)(t:Tg)(b:Bool)(ht:cH (θ (d,t)))(hb:b=ζ->t=.own):Tv (env.set i (θ (d,t))) (vs.set i (θ (d,b))):=by
 refine⟨by rw[ak,ak];exact h.len,h.tm.set ht i,λj x y e=>?_⟩;by_cases hj:i=j
 .subst hj;have hl:i<vs.length:=by
   have:=(ο.mp e).1
   rwa [ak] at this
  rw[ξ hl] at e;cases e;exact⟨t,ξ (by rw[h.len];exact hl),hb⟩
 .rw[μ hj] at e;rw[μ hj];exact h.at' j x y e
theorem Tv.asg (h:Tv env vs){i:Nat}(hi:i<vs.length){e:Ex}(he:ev T e env=.ok (d,.mv [])):∃env',bC T (.asg (.nm i) e ε) env=.nx env'/\Tv env' (vs.set i (θ (d,ζ))) :=
 ⟨_,bI h.tm (by rw[h.len];exact hi) he,h.set i d .own ζ (aC _) λ_=>rfl⟩
theorem Tv.start (ds:List D)(n:Nat):Tv (aF ds n) (ds.map (λd=>θ (d,ε))++ν (n-ds.length) η):=by
 unfold aF;refine⟨by simp,λs hs=>?_,λj d b e=>?_⟩
 .rcases il.mp hs with q|q
  .obtain⟨d,_,rfl⟩:=χ.mp q;unfold dJ;split
   .exact aC _
   .exact aM _
  .rw[Yo q];exact aH
 .by_cases hj:j<ds.length
  .rw[Θ (by rw[ai];exact hj),π] at e;rw[Θ (by rw[ai];exact hj),π];cases q:ds[j]? with
   |none=>rw[q] at e;cases e
   |some x=>rw[q] at e;cases e;exact⟨_,rfl,λh=>by cases h⟩
  .rw[Μ (by rw[ai];omega),Ω] at e;split at e<;>cases e
end
end Pc.Vw
end
section
namespace K23
open PySem Pc Pc.Sm Pc.Gr Pc.Lw Pc.Vw Fl64 Md
noncomputable def b0:bJ:=(.cons (.asg (.nm 2) (.ix (.MM 3) KU) ε)
  (.cons (.asg (.nm 3) (.bin .FloorDiv (.ix (.MM 2) KU) KR) ε)
  (.cons (.asg (.nm 4) (.bin .Mod (.ix (.MM 2) KU) KR) ε)
  (.cons (.asg (.nm 5) (.bin .Mult Ku (.bin .Add (.bin .FloorDiv (.bin .Mult KS (.bin .Add KW Kv)) KH) Kv)) ε)
  (.cons (.asg (.nm 6) (.lst .nil) ε)
  (.cons (.Li (.nm 7) (.Lm KR) (.cons (.asg (.nm 8) (.ite (.cmp .GtE K0 (.bin .Sub KR KQ)) (.bin .Add KS Kv) KS) ε)
  (.cons (.mut 6 .none .append (K9 (.tup (La (.bin .Sub K1 KY) KY))))
  .nil)))
  (.cons (.ret KZ)
  .nil)))))))
noncomputable def b1:bJ:=(.cons (.asg (.nm 1) (.lst .nil) ε)
  (.cons (.Li (.nm 3) (.Lm (.blt .M1 (La (.comp 1 [] (.nm 0) (.seq KU) .none (Ld KU)) Kw))) (.cons (.Li (.nm 2) (.seq KU) (.cons (.ite (.cmp .Lt KS (Ld KR)) (.cons (.mut 1 .none .append (K9 (.ix KR KS)))
  .nil) .nil)
  .nil))
  .nil))
  (.cons (.ret KW)
  .nil)))
noncomputable def b2:bJ:=(.cons (.asg (.nm 3) (.comp 1 [] (.nm 0) (.seq KW) .none (.lst .nil)) ε)
  (.cons (.asg (.nm 4) Kw ε)
  (.cons (.Li (.nm 5) (.Lm (.blt .M1 (La KW Kw))) (.cons (.Li (.tp [6,2]) (.enum KW) (.cons (.ite (.cmp .Lt KY KR) (.cons (.mut 3 (.some KZ) .append (K9 (.ix KU KQ)))
  (.cons (.aug 4 .Add Kv)
  .nil)) .nil)
  .nil))
  .nil))
  (.cons (.ret KS)
  .nil))))
noncomputable def b3:bJ:=vE 0 1
noncomputable def b4:bJ:=UU 0 5
noncomputable def b5:bJ:=HZ 3
noncomputable def b6:bJ:=Gh 3
noncomputable def b7:bJ:=UO 3
noncomputable def b8:bJ:=UP 7
noncomputable def b9:bJ:=Xm 5
noncomputable def Vr:bJ:=U5 3 8 9
noncomputable def Vq:bJ:=Xl 9 6
noncomputable def Vp:bJ:=US 6 9 11 14 19
noncomputable def Vo:bJ:=Xk 5
noncomputable def Vn:bJ:=UL 6 7 8 13 15
noncomputable def Vm:bJ:=UM 3 4 16 17 18
noncomputable def Vl:bJ:=UW 3
noncomputable def Vk:bJ:=Xj 3
noncomputable def Vj:bJ:=U6
noncomputable def Vi:bJ:=UZ 3 4 6 7 8 13 20
noncomputable def Vh:bJ:=UX 3
noncomputable def Ro:bJ:=(.cons (.asg (.nm 3) (.lst .nil) ε)
  (.cons (.asg (.nm 4) Kw ε)
  (.cons (.Li (.tp [5,6]) (.seq (.call 0 (La KW KR))) (.cons (.asg (.nm 7) (.sl KU (.some KQ) (.some (.bin .Add KQ KY))) ε)
  (.cons (.mut 3 .none .append (K9 (.bin .Add K0 (.call 10 (La K0 KZ)))))
  (.cons (.aug 4 .Add KY)
  .nil))))
  (.cons (.ret (.call 1 (K9 KS)))
  .nil))))
noncomputable def Rn:bJ:=(.cons (.asg (.nm 4) (.call 0 (La KR KS)) ε)
  (.cons (.asg (.nm 5) (.comp 2 [] (.tp [0,1]) (.seq KQ) .none (.bin .Add KU KW)) ε)
  (.cons (.asg (.nm 6) (.call 2 (La KU KY)) ε)
  (.cons (.asg (.nm 7) (.call 2 (La (.comp 1 [1] (.nm 0) (.Lm (Ld KU)) .none (.cmp .In KU KW)) KY)) ε)
  (.cons (.asg (.nm 8) (.lst .nil) ε)
  (.cons (.asg (.nm 9) (.lst .nil) ε)
  (.cons (.Li (.tp [10,11]) (.enum KQ) (.cons (.asg (.nm 12) (.comp 2 [] (.tp [0,1]) (.enum (.ix K0 K2)) (.some KW) KU) ε)
  (.cons (.asg (.nm 13) (.call 23 (Lc (.ix KZ K2) K3 (.ix K4 Kv) K2)) ε)
  (.cons (.mut 8 .none .extend (K9 (.sl (.ix K5 Kw) .none (.some (.ix K4 Kw)))))
  (.cons (.mut 9 .none .append (K9 (.tup (La (Ld (.ix K5 Kv)) (Ld K3)))))
  .nil)))))
  (.cons (.ret (.tup (La K1 K6)))
  .nil))))))))
noncomputable def Jc:bJ:=(.cons (.ite (.cst (.bl ζ)) (.cons (.ret (.call 12 (Lb KU KW KR)))
  .nil) .nil)
  .nil)
noncomputable def Vg:bJ:=Xi
noncomputable def Vf:bJ:=UY
noncomputable def Ve:bJ:=UR
noncomputable def Vd:bJ:=UN 26
noncomputable def Vc:bJ:=UT 24
noncomputable def Im:bJ:=(.cons (.asg (.nm 1) (.ix (.lst (.cons KI (.cons KJ (.cons KI (.cons (KP 23) (Lc KJ (KP 27) KI KG)))))) (.bin .Mod KU KL)) ε)
  (.cons (.asg (.nm 2) (.ix (.lst (.cons KH (Lc (KP 37) KA (KP 96) (KP 133)))) (.bin .FloorDiv (.bin .Sub KW KI) KN)) ε)
  (.cons (.asg (.nm 3) (.ix (.lst (.cons Kv (Lc Kv Ku Ku Ky))) (.bin .FloorDiv (.bin .Sub KW KI) KN)) ε)
  (.cons (.asg (.nm 4) (.bin .Mod (.bin .FloorDiv KU KL) KN) ε)
  (.cons (.ite (.cmp .Gt KW (KP 23)) (.cons (.asg (.nm 4) (.bin .Mod KQ Ku) ε)
  .nil) .nil)
  (.cons (.asg (.nm 5) (.bin .Mult Ku (.bin .Add (.bin .FloorDiv (.bin .Mult (.bin .FloorDiv KR KS) (.bin .Add KQ Kv)) KH) Kv)) ε)
  (.cons (.asg (.nm 6) (.comp 1 [3,2] (.nm 0) (.Lm KS) .none (.bin .Add (.bin .FloorDiv KR KW) (.blt .int (K9 (.cmp .GtE (.bin .Add KU (.bin .Mod KR KW)) KW))))) ε)
  (.cons (.ret (.tup (Lc KW KQ KZ KY)))
  .nil))))))))
noncomputable def Xo:bJ:=(.cons (.asg (.nm 1) (.lst .nil) ε)
  (.cons (.Li (.nm 2) (.Lm KA) (.cons (.Li (.nm 3) (.Lm (Ld KU)) (.cons (.ite (.cmp .Lt KR (.ix KU KS)) (.cons (.mut 1 .none .append (K9 (.tup (La KS KR))))
  .nil) .nil)
  .nil))
  .nil))
  (.cons (.ret KW)
  .nil)))
noncomputable def Vb:bJ:=UQ 26 25
noncomputable def Va:bJ:=(.cons (.asg (.nm 3) (.call 26 (La (.call 25 (La KU KR)) KR)) ε)
  (.cons (.asg (.nm 4) (.bin .Mult (.bin .Mod (.bin .FloorDiv KS KO) (.bin .Add KW Kv)) (.bin .Mod KS Ku)) ε)
  (.cons (.asg (.nm 5) (.bin .FloorDiv (.bin .Sub KW KQ) Ku) ε)
  (.cons (.ite (.cmp .Eq (.bin .Mod (.bin .FloorDiv KS (KP 300)) Ku) Kw) (.cons (.asg (.nm 5) (.bin .Mod (.bin .FloorDiv KS (KP 600)) (.bin .Add KY Kv)) ε)
  .nil) .nil)
  (.cons (.ret (.tup (La KY KQ)))
  .nil)))))
noncomputable def U9:bJ:=.cons .brk .nil
noncomputable def EA:bJ:=(.cons (.asg (.nm 2) (.blt .abs (K9 (.call 25 (La KU KW)))) ε)
  (.cons (.ite (.cmp .Lt KR (.bin .Pow Ku (KP 60))) (.cons (.Li (.nm 3) (.Lm (KP 12)) (.cons (.asg (.nm 2) (.bin .Add (.bin .Mult KR (KP 536870912)) (.call 26 (La KR (.bin .Add KW KS)))) ε)
  .nil))
  .nil) .nil)
  (.cons (.ret KR)
  .nil)))
noncomputable def U8:bJ:=(.cons (.asg (.nm 3) .MO ε)
  (.cons (.asg (.nm 4) Kw ε)
  (.cons (.Li (.nm 5) (.Lm KR) (.cons (.asg (.nm 6) (.bin .Mod KU Ky) ε)
  (.cons (.asg (.nm 7) (.bin .Mod (.bin .FloorDiv KU Ky) KW) ε)
  (.cons (.ite (.and (.cmp .Gt KZ Kw) (.and (.cmp .NotIn K0 KS) (.cmp .LtE (.bin .Sub (.bin .Add KQ Ky) KZ) KR))) (.cons (.MG 3 K0 (.tup (La KZ (.bin .Mod (.bin .FloorDiv KU (.bin .Mult Ky KW)) KA))))
  (.cons (.asg (.nm 4) (.bin .Sub (.bin .Add KQ Ky) KZ) ε)
  .nil)) .nil)
  (.cons (.asg (.nm 0) (.bin .FloorDiv KU (.bin .Mult (KP 192) KW)) ε)
  .nil)))))
  (.cons (.ret KS)
  .nil))))
noncomputable def Xn:bJ:=(.cons (.asg (.nm 2) (.lst .nil) ε)
  (.cons (.asg (.nm 3) Kw ε)
  (.cons (.Li (.nm 4) (.Lm KW) (.cons (.ite (.cmp .Eq (.bin .Mod KQ (KP 40)) Kw) (.cons (.asg (.nm 3) (.ix KU (.bin .FloorDiv KQ (KP 40))) ε)
  .nil) .nil)
  (.cons (.mut 2 .none .append (K9 (.bin .Mod KS KA)))
  (.cons (.asg (.nm 3) (.bin .FloorDiv KS KA) ε)
  .nil))))
  (.cons (.ret KR)
  .nil))))
noncomputable def U7:bJ:=.cons .brk .nil
noncomputable def Em:List D->Option D
 |[.lst l]=>if l.length<=63/\l.all (λd=>match d with|.int _=>ζ|_=>ε)=ζ then θ (.bl ζ) else η
 |_=>η
noncomputable def Ea:Ex:=.call 22 (Lc (.bin .Add (.lst (K9 Kv)) (.bin .Mult (.lst (K9 Kw)) KI)) (.lst .nil) KI Kw)
noncomputable def Iv:bJ:=.cons (.expr Ea) (.cons (.ret (.app Em (K9 KU))) .nil)
noncomputable def fns:List Fn:=[⟨2,9,b0⟩,⟨1,4,b1⟩,⟨2,7,b2⟩,⟨2,5,b3⟩,⟨1,1,b4⟩,⟨2,5,b5⟩,⟨2,4,b6⟩,⟨2,7,b7⟩,⟨1,3,b8⟩,⟨1,1,b9⟩,⟨2,8,Vr⟩,⟨2,2,Vq⟩,⟨3,7,Vp⟩,⟨2,2,Vo⟩,⟨3,7,Vn⟩,⟨1,8,Vm⟩,⟨3,6,Vl⟩,⟨2,2,Vk⟩,⟨2,5,Vj⟩,⟨3,9,Vi⟩,⟨2,4,Vh⟩,⟨3,8,Ro⟩,⟨4,14,Rn⟩,⟨4,4,Jc⟩,⟨1,1,Vg⟩,⟨2,2,Vf⟩,⟨2,3,Ve⟩,⟨2,4,Vd⟩,⟨2,3,Vc⟩,⟨1,7,Im⟩,⟨1,4,Xo⟩,⟨4,8,Vb⟩,⟨3,6,Va⟩,⟨5,17,U9⟩,⟨2,4,EA⟩,⟨3,8,U8⟩,⟨2,5,Xn⟩,⟨5,15,U7⟩,⟨1,14,Iv⟩]
noncomputable def gl:Nat->D
 |0=>.int 64
 |1=>.int 67
 |2=>.Mp [(.inl 15,θ 16),(.inl 19,θ 37),(.inl 23,θ 64),(.inl 27,θ 96),(.inl 31,θ 133)]
 |3=>.Mp [(.inl 15,θ 1),(.inl 19,θ 1),(.inl 23,θ 2),(.inl 27,θ 2),(.inl 31,θ 3)]
 |_=>.Lj
noncomputable abbrev T (n:Nat):Tb:=⟨Pc.run fns gl 1000 n,gl,1000⟩
theorem kW (n:Nat):(T n).cl=Pc.run fns gl 1000 n:=rfl
end K23
end
section
namespace Pc.Vw
open PySem Pc Pc.Sm Pc.Gr Pc.Lw Fl64 Md
variable {e:Ex}{vs:List (Option (D×Bool))}{xs:List D}
section
variable {T:Tb}{env:En}{a b c g:Ex}{x y z w r:D}{f:Nat}
theorem oA (h:aG T a env x)(e:T.cl f [x]=.ok (r,ζ)):ev T (.call f (.cons a .nil)) env=.ok (r,.mv []):=by
 obtain⟨R,h⟩:=h;rw[ev,bL,h,aB,bL,aB,aB];show (T.cl f [x]).bind _=_;rw[e,aB];rfl
theorem dS (h:aG T a env x)(h2:aG T b env y)(e:T.cl f [x,y]=.ok (r,ζ)):ev T (.call f (.cons a (.cons b .nil))) env=.ok (r,.mv []):=by
 obtain⟨R,h⟩:=h;obtain⟨R2,h2⟩:=h2;rw[ev,bL,h,aB,bL,h2,aB,bL,aB,aB,aB];show (T.cl f [x,y]).bind _=_;rw[e,aB];rfl
theorem mV (h:aG T a env x)(h2:aG T b env y)(h3:aG T c env z)(e:T.cl f [x,y,z]=.ok (r,ζ)):ev T (.call f (.cons a (.cons b (.cons c .nil)))) env=.ok (r,.mv []):=by
 obtain⟨R,h⟩:=h;obtain⟨R2,h2⟩:=h2;obtain⟨R3,h3⟩:=h3;rw[ev,bL,h,aB,bL,h2,aB,bL,h3,aB,bL,aB,aB,aB,aB];show (T.cl f [x,y,z]).bind _=_;rw[e,aB];rfl
theorem vg (h:aG T a env x)(h2:aG T b env y)(h3:aG T c env z)(h4:aG T g env w)(e:T.cl f [x,y,z,w]=.ok (r,ζ)):ev T (.call f (.cons a (.cons b (.cons c (.cons g .nil))))) env=.ok (r,.mv []):=by
 obtain⟨R,h⟩:=h;obtain⟨R2,h2⟩:=h2;obtain⟨R3,h3⟩:=h3;obtain⟨R4,h4⟩:=h4;rw[ev,bL,h,aB,bL,h2,aB,bL,h3,aB,bL,h4,aB,bL,aB,aB,aB,aB,aB];show (T.cl f [x,y,z,w]).bind _=_;rw[e,aB];rfl
theorem Tv.app (h:Tv env vs){x:Nat}{d:D}(hx:vs[x]? = θ (θ (.lst xs,ζ)))(he:ev T e env=.ok (d,.mv []))(hl:xs.length<1000):∃env',bC T (.mut x .none .append (.cons e .nil)) env=.nx env'/\Tv env' (vs.set x (θ (.lst (xs ++ [d]),ζ))) :=
 ⟨_,sF h.tm (h.own hx) he (cY (by omega)),h.set x _ .own ζ (aC _) λ_=>rfl⟩
theorem Tv.OH (V:Tv env vs){i j:Nat}{x y:D}(Rc:i≠j)(hi:vs[i]? = θ (θ (x,ζ)))(hj:vs[j]? = θ (θ (y,ζ))):Pc.ret (aE T (.cons (.ret (.tup (La (.var i) (.var j)))) .nil) env)=.ok (.tup [x,y],ζ):=by
 have a:=V.own hi;have b:=V.own hj;have hv:∀{i:Nat}{d:D},env[i]? = θ (θ (d,.own))->∃R,ev T (.var i) env=.ok (d,.mv R)/\(R=[]\/R=[i]):=λ{i d} e=>by
  rw[ev,e];by_cases hf:d.flat=ζ
  .exact⟨[],by simp[hf],.inl rfl⟩
  .exact⟨[i],by simp[hf],.inr rfl⟩
 obtain⟨R,e1,r1⟩:=hv a;obtain⟨R',e2,r2⟩:=hv b;rw[aE,bC,ev,bL,e1,aB,bL,e2,aB,bL,aB,aB,aB,if_pos (show [(x,Rt.mv R),(y,Rt.mv R')].length<=lim from (by show (2:Nat)<=lim;decide)),aP];rcases r1 with rfl|rfl<;>rcases r2 with rfl|rfl<;>simp[a,b,mH,Pc.ret,bV,eW,oU,Rc]
end
variable {T:Tb}{c ch cn su wa:Nat}{env:En}{g mi:List Nat}
theorem CG (hw:vK T wa)(hc:zE T cn)(hs:F5 T su)(MW:FQ T ch)(gg:Gr g)(lg:g.length<=63)(lm:mi.length<=63)(lc:c<=62)(hm:∀p∈mi,p<g.length){v0 v1 v2:Bool}(U:Tv env [θ (.lst (gD g),v0),θ (.lst (gD mi),v1),θ (.int (c:Int),v2),η,η,η,η]) :
  ∃e,(∀r,aE T (.cons (.asg (.nm 3) (.comp 1 [0] (.nm 0) (.seq (.call cn (K9 KR))) .none (.call wa (La KW KU))) ε)
  (.cons (.asg (.nm 4) (.bin .Add (.blt .list (K9 KW)) (.call su (Lb KS KW (Ld KU)))) ε)
  (.cons (.asg (.nm 5) (.call ch (Lb KU KQ KS)) ε)
  (.cons (.asg (.nm 6) (.comp 1 [0,5,1] (.nm 0) (.Lm (Ld KU)) (.some (.and (.cmp .NotIn KU KS) (.cmp .NotEq (.ix KR KU) (.ix KW KU)))) KU) ε) r)))) env=aE T r e)/\Tv e [θ (.lst (gD g),v0),θ (.lst (gD mi),v1),θ (.int (c:Int),v2),θ (.lst (gD (aU g c)),ζ),θ (.lst (gD (vA g mi c)),ζ),θ (.lst (gD (cT g mi c)),ζ),θ (.lst (gD (dD g (cT g mi c) mi)),ζ)]:=by
 have V:Vw env [lD g,lD mi,nD c,η,η,η,η]:=U.vw;have gw:=kN gg c;have lw:=k7 g c;obtain⟨R1,i1⟩:=Dt (T:=T) (aG.kC (V.var (i:=2) rfl) (hc c (by omega)));have We:∀(j:Nat) (d:D),[lD g][j]? = θ (θ d)->∃i,[0][j]? = θ i/\[lD g,lD mi,nD c,η,η,η,η][i]? = θ (θ d):=λj d e=>by
  cases j with
  |zero=>exact⟨0,rfl,e⟩
  |succ j=>cases e
 have c1:aG T (.comp 1 [0] (.nm 0) (.seq (.call cn (K9 KR))) .none (.call wa (La KW KU))) env (.lst (gD (aU g c))):=Fk i1 (by rw[fI];omega) (λa ha=>by
  obtain⟨_,W⟩:=V.picked (pick:=[0]) (ws:=[lD g]) We rfl (.int (a:Int));exact aG.cJ (W.var (i:=1) rfl) (W.var (i:=0) rfl) (hw g a (fD c a ha))) (V.picked (pick:=[0]) (ws:=[lD g]) We rfl .Lj).1
 obtain⟨e1,q1,U1⟩:=U.asg (T:=T) (i:=3) (show (3:Nat)<7 by decide) (EY c1);have V1:Vw e1 [lD g,lD mi,nD c,lD (aU g c),η,η,η]:=U1.vw;obtain⟨fr,h2⟩:=hs (aU g c) mi g.length gw (by omega) lm hm lg;have sl:=A7 (aU g c) mi g.length;obtain⟨e2,q2,U2⟩:=U1.asg (T:=T) (i:=4) (show (4:Nat)<7 by decide) (qf (aG.bin (op:=.Add) (aG.LC (k:=.list) (V1.var (i:=1) rfl) (z:=.lst (gD mi)) rfl) (aG.Ow (V1.var (i:=3) rfl) (V1.var (i:=1) rfl) (V1.len (i:=0) rfl) h2) (z:=.lst (gD (vA g mi c))) (by
  show ck ((gD mi).length+(gD (susp (aU g c) mi g.length)).length) (.lst (gD mi++gD (susp (aU g c) mi g.length)))=_;unfold ck;rw[if_pos (by rw[aY,aY];exact cY (by omega)),eC])) (iF _))
 have V2:Vw e2 [lD g,lD mi,nD c,lD (aU g c),lD (vA g mi c),η,η]:=U2.vw;obtain⟨e3,q3,U3⟩:=U2.asg (T:=T) (i:=5) (show (5:Nat)<7 by decide) (mV (V2.var (i:=0) rfl) (V2.var (i:=4) rfl) (V2.var (i:=3) rfl) (MW g (vA g mi c) (aU g c) gg gw lg (by rw[az];omega) (by omega) (λp hp=>(il.mp hp).elim (hm p) BE)));have V3:Vw e3 [lD g,lD mi,nD c,lD (aU g c),lD (vA g mi c),lD (cT g mi c),η]:=U3.vw;have Wd:∀(j:Nat) (d:D),[lD g,lD (cT g mi c),lD mi][j]? = θ (θ d)->∃i,[0,5,1][j]? = θ i/\[lD g,lD mi,nD c,lD (aU g c),lD (vA g mi c),lD (cT g mi c),η][i]? = θ (θ d):=λj d e=>by
  cases j with
  |zero=>exact⟨0,rfl,e⟩
  |succ j=>cases j with
   |zero=>exact⟨5,rfl,e⟩
   |succ j=>cases j with
    |zero=>exact⟨1,rfl,e⟩
    |succ j=>cases e
 have tl:=x4 g mi c;have c4:aG T (.comp 1 [0,5,1] (.nm 0) (.Lm (Ld KU)) (.some (.and (.cmp .NotIn KU KS) (.cmp .NotEq (.ix KR KU) (.ix KW KU)))) KU) e3 (.lst (gD (dD g (cT g mi c) mi))):=A5 (l:=υ g.length) (rM (V3.len (i:=0) rfl) (by omega)) (by rw[bu];omega) (λa ha=>by
  obtain⟨_,W⟩:=V3.picked (pick:=[0,5,1]) (ws:=[lD g,lD (cT g mi c),lD mi]) Wd rfl (.int (a:Int));have al:=na.mp ha;refine aG.and (k:=!mi.contains a) (aG.cmp (W.var (i:=0) rfl) (W.var (i:=3) rfl) (by show (inD _ _).map _=_;rw[vC];rfl)) (λhk=>aG.cmp (aG.ix (W.var (i:=2) rfl) (W.var (i:=0) rfl) (mX (by omega))) (aG.ix (W.var (i:=1) rfl) (W.var (i:=0) rfl) (mX al)) ?_) (λhk=>by rw[hk];rfl);rw[hk,g8];show θ (!((((cT g mi c).getD a 0:Nat):Int)==((g.getD a 0:Nat):Int)))=_;congr 1;rw[fk];simp only[i3,beq_eq_false_iff_ne,bne_iff_ne,ne_eq];omega) (V3.picked (pick:=[0,5,1]) (ws:=[lD g,lD (cT g mi c),lD mi]) Wd rfl .Lj).1
 obtain⟨e4,q4,U4⟩:=U3.asg (T:=T) (i:=6) (show (6:Nat)<7 by decide) (EY c4);refine⟨e4,λr=>?_,U4⟩;rw[aE,q1,aD,aE,q2,aD,aE,q3,aD,aE,q4,aD]
theorem DV {ic:Nat}(hw:vK T wa)(hc:zE T cn)(hi:Gb T ic)(hs:F5 T su)(MW:FQ T ch)(gg:Gr g)(lg:g.length<=63)(lm:mi.length<=c)(lc:c<=62)(hm:∀p∈mi,p<g.length)(hf:EF g mi c=ε) :
  Pc.ret (aE T (US wa cn ic su ch) (aF [.lst (gD g),.lst (gD mi),.int (c:Int)] 7))=.ok (Q3 g mi c,ζ):=by
 have U0:Tv (aF [.lst (gD g),.lst (gD mi),.int (c:Int)] 7) [θ (.lst (gD g),ε),θ (.lst (gD mi),ε),θ (.int (c:Int),ε),η,η,η,η]:=Tv.start _ 7;obtain⟨e,q,U⟩:=CG hw hc hs MW gg lg (by omega) lc hm U0;have V0:Vw (aF [.lst (gD g),.lst (gD mi),.int (c:Int)] 7) [lD g,lD mi,nD c,η,η,η,η]:=U0.vw;have V:Vw e [lD g,lD mi,nD c,lD (aU g c),lD (vA g mi c),lD (cT g mi c),lD (dD g (cT g mi c) mi)]:=U.vw;unfold US;rw[aE,kB (Jr V0),bh (by omega)];simp only[a8,if_false];rw[aE,aD,q,aE,kB (Jf hi lc V),hf];simp only[a8,if_false];rw[aE,aD];exact U.OH (i:=5) (j:=6) (by decide) rfl rfl
variable {R:List Nat}{it:tX}
theorem tG {α:Type}{T:Tb}{env:En}{own:Nat}{pick:List Nat}{t:nQ}{c:nY}{e:Ex}{l:List α}{g r:α->D}{k:α->Bool}(hit:fU T it env=.ok (l.map g,R))(hl:l.length<=1000)
  (hs:∀a∈l,∃e1,be [] t (g a) (aO env own pick)=θ e1/\nT T c e1=.ok (k a)/\aG T e e1 (r a)/\(r a).flat=ζ):ev T (.comp own pick t it c e) env=.ok (.lst ((l.filter k).map r),.mv []):=by
 have key:∀(l:List α),(∀a∈l,∃e1,be [] t (g a) (aO env own pick)=θ e1/\nT T c e1=.ok (k a)/\aG T e e1 (r a)/\(r a).flat=ζ)->∃qs:List (D×Rt),fE (λd=>bM (be [] t d (aO env own pick)) (nT T c) (ev T e)) (l.map g)=.ok qs/\qs.map (·.1)=(l.filter k).map r/\qs.all (λq=>q.1.flat || gC q.2)=ζ:=by
  intro l
  induction l with
  |nil=>exact λ_=>⟨[],rfl,rfl,rfl⟩
  |cons a l ih=>
   intro h;obtain⟨qs,a1,a2,a3⟩:=ih λb hb=>h b (aa _ hb)
   obtain⟨e1,hb,hc,⟨R',hR⟩,hf⟩:=h a ag;rw[av,fE,hb,bM,hc,aB];cases hk:k a with
   |true=>
    rw[if_pos rfl,hR,aB,aB,a1,aB,iu hk];exact⟨_,rfl,by rw[av,a2];rfl,by rw[fh,a3,hf];rfl⟩
   |false=>
    rw[if_neg (by decide),aB,a1,aB,iw (by rw[hk];decide)];exact⟨_,rfl,a2,a3⟩
 obtain⟨qs,a1,a2,a3⟩:=key l hs;rw[ev,hit,aB,a1,aB];dsimp only;rw[if_pos (by rw[ai];exact cY hl),a2,a3];rfl
theorem T7 {k:Bool}(h:aG T e env (.bl k)):nT T (.some e) env=.ok k:=by
 obtain⟨R,h⟩:=h;rw[nT,h,aB];rfl
theorem HQ {a b:Ex}{x y:D}(h:ev T a env=.ok (x,.mv []))(h':ev T b env=.ok (y,.mv [])):ev T (.tup (.cons a (.cons b .nil))) env=.ok (.tup [x,y],.mv []):=by
 rw[ev,bL,h,aB,bL,h',aB,bL,aB,aB,aB];rfl
theorem Tv.ext {T:Tb}(h:Tv env vs){x:Nat}{ys:List D}(hx:vs[x]? = θ (θ (.lst xs,ζ)))(he:ev T e env=.ok (.lst ys,.mv []))(hf:D.Lh ys=ζ)(hl:xs.length+ys.length<=1000):∃env',bC T (.mut x .none .extend (.cons e .nil)) env=.nx env'/\Tv env' (vs.set x (θ (.lst (xs++ys),ζ))):=by
 have ho:ownAt env x=θ (.lst xs):=by unfold ownAt;rw[h.own hx]
 have hs:bL T (.cons e .nil) env=.ok [(.lst ys,.mv [])]:=by rw[bL,he,aB];rfl
 have O1:(xs++ys).length<=lim:=by rw[az];exact cY hl
 refine⟨_,?_,h.set x (.lst (xs++ys)) .own ζ (aC _) λ_=>rfl⟩;rw[bC,ho];simp only[jW,aP,D.LL,hs,av,jw,zL,hf,bF,Rt.roots,dz,jm,bc,i0,a8,if_false,if_true,sj.Lz,dU,eW,bw];simp only[bj,decide_true,bV,jb,je,ik,O1,if_true,D.LO,g8];rw[fM h.tm]
theorem DI {t:nQ}{b:bJ}{e:En}{l:List D}(hit:fU T it env=.ok (l,R))(h:bU t R (aE T b) l (lock R env)=.nx e):bC T (.Li t it b) env=.nx (unlock R env e):=by
 rw[bC,hit,aP];dsimp only;rw[h]
theorem Tv.unlock {e env:En}(V:Tv e vs)(R:List Nat):Tv (unlock R env e) vs:=by
 have ln:(Pc.unlock R env e).length=e.length:=by unfold Pc.unlock;rw[List.length_mapIdx]
 have LL:∀(i:Nat) (s:Slot),e[i]? = θ s->∃s',(Pc.unlock R env e)[i]? = θ s'/\(cH s->cH s')/\∀d t,s=θ (d,t)->∃t',s'=θ (d,t')/\(t=.own->t'=.own):=λi s h=>by
  unfold Pc.unlock;rw[Τ,h];refine⟨_,rfl,?_⟩;cases s with
  |none=>exact⟨λh=>h,λd t h=>by cases h⟩
  |some p=>
   obtain⟨d,t⟩:=p;cases t with
   |own=>exact⟨λh=>h,λd t h=>by cases h;exact⟨_,rfl,λh=>h⟩⟩
   |sh Q=>exact⟨λh=>h,λd t h=>by cases h;exact⟨_,rfl,λh=>h⟩⟩
   |lk=>
    dsimp only;split
    .split
     .exact⟨λ_=>aC _,λd t h=>by cases h;exact⟨_,rfl,λ_=>rfl⟩⟩
     .exact⟨λh=>h,λd t h=>by cases h;exact⟨_,rfl,λh=>h⟩⟩
    .exact⟨λh=>h,λd t h=>by cases h;exact⟨_,rfl,λh=>h⟩⟩
 refine⟨ln.trans V.len,λs hs=>?_,λj d b h=>?_⟩
 .obtain⟨i,hi,rfl⟩:=Pi.mp hs;rw[ln] at hi;obtain⟨s',a1,a2,_⟩:=LL i e[i] (τ hi);have:=ο.mp a1;obtain⟨_,rfl⟩:=this;exact a2 (V.tm _ (jj _))
 .obtain⟨t,h1,h2⟩:=V.at' j d b h;obtain⟨s',a1,_,a3⟩:=LL j _ h1;obtain⟨t',rfl,h3⟩:=a3 d t rfl;exact⟨t',a1,λhb=>h3 (h2 hb)⟩
structure jA (y:Nat)(d:D)(env:En)(vs:List (Option (D×Bool))):Prop where
 tv:Tv env vs
 lk:env[y]? = θ (θ (d,.lk))
variable {u w z:D}
section
variable {T:Tb}{y:Nat}{d x:D}{env:En}{vs:List (Option (D×Bool))}
theorem jA.set (h:jA y d env vs){i:Nat}(hi:i≠y)(x:D)(t:Tg)(b:Bool)(ht:cH (θ (x,t)))(hb:b=ζ->t=.own):jA y d (env.set i (θ (x,t))) (vs.set i (θ (x,b))) :=
 ⟨h.tv.set i x t b ht hb,by rw[μ hi];exact h.lk⟩
theorem jA.own (h:jA y d env vs){i:Nat}(hi:i≠y)(x:D):jA y d (env.set i (θ (x,.own))) (vs.set i (θ (x,ζ))):=h.set hi x .own ζ (aC _) λ_=>rfl
theorem jA.asg (h:jA y d env vs){i:Nat}(hi:i<vs.length)(hy:i≠y){e:Ex}(he:ev T e env=.ok (x,.mv [])):∃env',bC T (.asg (.nm i) e ε) env=.nx env'/\jA y d env' (vs.set i (θ (x,ζ))) :=
 ⟨_,bI h.tv.tm (by rw[h.tv.len];exact hi) he,h.own hy x⟩
theorem jA.QF (h:jA y d env vs){i j:Nat}(hi:i<vs.length)(hj:j<vs.length)(yi:i≠y)(yj:j≠y)(he:ev T e env=.ok (.tup [u,w],.mv [])):∃env',bC T (.asg (.tp [i,j]) e ε) env=.nx env'/\jA y d env' ((vs.set i (θ (u,ζ))).set j (θ (w,ζ))) :=
 ⟨_,AY h.tv.tm (by rw[h.tv.len];exact hi) (by rw[h.tv.len];exact hj) he,(h.own yi u).own yj w⟩
theorem jA.Oy (h:jA y d env vs){i:Nat}(hi:i<vs.length)(hy:i≠y)(k:Int):∃env',be [] (.nm i) (.int k) env=θ env'/\jA y d env' (vs.set i (θ (.int k,ζ))) :=
 ⟨_,gH h.tv.tm (by rw[h.tv.len];exact hi),h.own hy _⟩
theorem jA.OE (h:jA y d env vs){x:Nat}(hy:x≠y){l:List Nat}(hx:vs[x]? = θ (θ (.lst (gD l),ζ))){k:Ex}{p z:Nat}(hk:aG T k env (.int (p:Int)))(hp:p<l.length)(hl:l.length<=1000)(he:ev T e env=.ok (.int (z:Int),.mv [])):∃env',bC T (.Lv x .none k e) env=.nx env'/\jA y d env' (vs.set x (θ (.lst (gD (l.set p z)),ζ))):=by
 obtain⟨R,hk⟩:=hk;have:=lV (T:=T) (x:=x) h.tv.tm (h.tv.own hx) hk (hZ (n:=(gD l).length) (by rw[aY];exact hp)) he (by rw[aY];exact cY hl);rw[oE] at this;exact⟨_,this,h.own hy _⟩
theorem jA.app (h:jA y d env vs){x:Nat}(hy:x≠y)(hx:vs[x]? = θ (θ (.lst xs,ζ)))(he:ev T e env=.ok (z,.mv []))(hl:xs.length<1000):∃env',bC T (.mut x .none .append (.cons e .nil)) env=.nx env'/\jA y d env' (vs.set x (θ (.lst (xs ++ [z]),ζ))) :=
 ⟨_,sF h.tv.tm (h.tv.own hx) he (cY (by omega)),h.own hy _⟩
theorem jA.L4 (h:jA y d env vs){x:Nat}(hy:x≠y){ks:List (Int×MV)}(hx:vs[x]? = θ (θ (.Lx ks,ζ))):jA y d (tq env x) (vs.set x (θ (.LJ ks,ζ))):=by
 have ho:ownAt env x=θ (.Lx ks):=by unfold ownAt;rw[h.tv.own hx]
 unfold tq;rw[ho];dsimp only;rw[fM h.tv.tm];exact h.own hy _
theorem jA.grow (h:jA y (.lst xs) env vs){z:D}{e:Ex}(hl:xs.length<1000)(he:ev T e (env.set y (θ (.lst xs,.own)))=.ok (z,.mv [])):bC T (.mut y .none .append (.cons e .nil)) (env.set y (θ (.lst xs,.own)))=.nx (env.set y (θ (.lst (xs ++ [z]),.own)))/\jA y (.lst (xs ++ [z])) (env.set y (θ (.lst (xs ++ [z]),.lk))) (vs.set y (θ (.lst (xs ++ [z]),ε))):=by
 have ly:y<env.length:=(ο.mp h.lk).1;have V:=h.tv.set y (.lst xs) .own ζ (aC _) λ_=>rfl
 refine⟨?_,h.tv.set y _ .lk ε (iK _) (λh=>by cases h),ξ ly⟩;have:=sF (T:=T) V.tm (x:=y) (ξ ly) he (cY (by omega))
 rwa [YD] at this
theorem G6 {m:Pc.Rp}{o:Ex}(h:aG T o env u)(h':aG T e env w)(hm:yd m u [w]=θ z)(hz:z.inner=ζ):ev T (.NQ m o (.cons e .nil)) env=.ok (z,.mv []):=by
 obtain⟨R,h⟩:=h;obtain⟨R',h'⟩:=h';rw[ev,h,aB,bL,h',aB,bL,aB,aB];show (gQ (yd m u [w])).bind _=_;rw[hm,aL,aB,jC,if_pos hz]
end
end Pc.Vw
end
section
namespace K16
open PySem Pc Pc.Sm Pc.Gr Pc.Lw Pc.Vw Fl64 Md
theorem Ed (f:Int):mR .Mult (.int f) (.int 536870912)=θ (.int (f*536870912)):=by
 rw[aS];show ((if (small f || small 536870912)=ζ then θ (f*536870912) else η).map D.int)=_;rw[show small 536870912=ζ from rfl,Bool.or_true,if_pos rfl];rfl
variable {T:Tb}{env:En}
theorem Ez {i:Nat}{d:D}(h:env[i]? = θ (θ (d,.own)))(hf:d.flat=ε):Pc.ret (aE T (.cons (.ret (.var i)) .nil) env)=.ok (d,ζ):=by
 simp[aE,bC,ev,h,aP,hf,mH,Pc.ret,bV]
theorem fA {op:li}{a b:Ex}{x y z:Int}(h:aG T a env (.int x))(h':aG T b env (.int y))(e:Pc.binI op x y=θ z):ev T (.bin op a b) env=.ok (.int z,.mv []):=by
 obtain⟨R,h⟩:=h;obtain⟨R',h'⟩:=h';rw[ev,h,aB,h',aB,aS,e];rfl
noncomputable abbrev Tr:=Nat×Nat×Nat
noncomputable def kP (ts:List Tr):List (Int×MV):=ts.map λt=>((t.1:Int),MV.tup [(t.2.1:Int),(t.2.2:Int)])
noncomputable def cost (ts:List Tr):Nat:=(ts.map λt=>3-t.2.1).sum
structure BI (n c:Nat)(ts:List Tr):Prop where
 nd:(ts.map (·.1)).Nodup
 ok:∀t∈ts,t.1<n/\(t.2.1=1\/t.2.1=2)/\t.2.2<64
 le:cost ts<=c
theorem wU (ts:List Tr)(p:Nat):((kP ts).any λq=>decide (q.1=(p:Int)))=(ts.map (·.1)).contains p:=by
 induction ts with
 |nil=>rfl
 |cons t r ih=>
  show (decide ((t.1:Int)=(p:Int)) || (kP r).any _)=(t.1::r.map (·.1)).contains p;rw[ih,Zf];congr 1;rw[fk];simp;omega
variable {p w:Nat}{ts:List Tr}
theorem D7 {g:Nat}(h:(ts.map (·.1)).contains p=ε):rY (kP ts) (p:Int) (.tup [(w:Int),(g:Int)])=kP (ts ++ [(p,w,g)]):=by
 unfold rY;rw[wU,h,if_neg (by decide)];unfold kP;rw[bq];rfl
theorem zD (ts:List Tr)(t:Tr):cost (ts ++ [t])=cost ts+(3-t.2.1):=by
 unfold cost;rw[bq,X3];simp
variable {c n:Nat}
theorem BI.len (h:BI n c ts):ts.length<=c:=by
 have:∀ts:List Tr,(∀t∈ts,t.2.1=1\/t.2.1=2)->ts.length<=cost ts:=by
  intro ts
  induction ts with
  |nil=>exact λ_=>au _
  |cons t r ih=>
   intro h;have h1:=ih λx hx=>h x (aa _ hx)
   have h2:=h t ag;show r.length+1<=(3-t.2.1)+cost r;omega
 exact cu (this ts λt ht=>(h.ok t ht).2.1) h.le
noncomputable abbrev EB (x:Int)(n c:Nat)(ts:List Tr)(o5 o6 o7:Slot):En:=[sI x,sN n,sN c,θ (.Lx (kP ts),.own),sN (cost ts),o5,o6,o7]
variable {o5 o6 o7:Slot}
theorem mq {x:Int}{n c:Nat}{ts:List Tr}(h5:cH o5)(h6:cH o6)(h7:cH o7):Tame (EB x n c ts o5 o6 o7):=.cons (aC _) (.cons (aC _) (.cons (aC _) (.cons (aC _) (.cons (aC _) (.cons h5 (.cons h6 (.cons h7 .nil)))))))
noncomputable def Kd:bJ:=(.cons (.MG 3 K0 (.tup (La KZ (.bin .Mod (.bin .FloorDiv KU (.bin .Mult Ky KW)) KA))))
  (.cons (.asg (.nm 4) (.bin .Sub (.bin .Add KQ Ky) KZ) ε)
  .nil))
noncomputable def W7:Ex:=.and (.cmp .Gt KZ Kw) (.and (.cmp .NotIn K0 KS) (.cmp .LtE (.bin .Sub (.bin .Add KQ Ky) KZ) KR))
noncomputable def Ao:bJ:=(.cons (.asg (.nm 6) (.bin .Mod KU Ky) ε)
  (.cons (.asg (.nm 7) (.bin .Mod (.bin .FloorDiv KU Ky) KW) ε)
  (.cons (.ite W7 Kd .nil)
  (.cons (.asg (.nm 0) (.bin .FloorDiv KU (.bin .Mult (KP 192) KW)) ε)
  .nil))))
theorem jJ {a:Int}(ha:small a=ζ):Pc.binI .Mult a (n:Int)=θ (a*(n:Int)):=by
 show (if (small a || small (n:Int))=ζ then θ (a*(n:Int)) else η)=_;rw[ha,YA,if_pos rfl]
theorem zI (T:Tb){x:Int}{k:Nat}(hn:0<n)(LZ:n<=63)(hc:c<=62)(h:BI n c ts)(h5:cH o5)(h6:cH o6)(h7:cH o7) :
  ∃x' Od QT M8,cH QT/\cH M8/\BI n c Od/\be [] (.nm 5) (.int (k:Int)) (EB x n c ts o5 o6 o7)=θ (EB x n c ts (sN k) o6 o7)/\aE T Ao (EB x n c ts (sN k) o6 o7)=.nx (EB x' n c Od (sN k) QT M8):=by
 have w0:0<=x%3:=jz _ (by decide);have w1:x%3<3:=jd _ (by decide);obtain⟨w,hw⟩:∃w:Nat,x%3=(w:Int):=⟨(x%3).toNat,by omega⟩;have p0:0<=x / 3%(n:Int):=jz _ (by omega);have p1:x / 3%(n:Int)<(n:Int):=jd _ (by omega);obtain⟨p,hp⟩:∃p:Nat,x / 3%(n:Int)=(p:Int):=⟨(x / 3%(n:Int)).toNat,by omega⟩;have hpn:p<n:=by omega
 have LX:Tame (EB x n c ts (sN k) o6 o7):=mq (aC _) h6 h7;have v:∀{i:Nat}{d:D}{t:Tg}{env:En},env[i]? = θ (θ (d,t))->aG T (.var i) env d:=λh=>wI h
 have s1:bC T (.asg (.nm 6) (.bin .Mod KU Ky) ε) (EB x n c ts (sN k) o6 o7)=.nx (EB x n c ts (sN k) (sN w) o7):=bI LX (by simp) (fA (v rfl) (aG.cst _) (by show (if (0:Int)<3 then θ (x%3) else η)=_;rw[if_pos (by decide),hw]));have Nm:Tame (EB x n c ts (sN k) (sN w) o7):=mq (aC _) (aC _) h7;have s2:bC T (.asg (.nm 7) (.bin .Mod (.bin .FloorDiv KU Ky) KW) ε) (EB x n c ts (sN k) (sN w) o7)=.nx (EB x n c ts (sN k) (sN w) (sN p)):=bI Nm (by simp) (fA (x:=x / 3) ⟨_,fA (v rfl) (aG.cst _) rfl⟩ (v (i:=1) rfl) (by show (if (0:Int)<(n:Int) then θ (x / 3%(n:Int)) else η)=_;rw[if_pos (by omega),hp]));have Ry:Tame (EB x n c ts (sN k) (sN w) (sN p)):=mq (aC _) (aC _) (aC _);have ld:aG T (.bin .Sub (.bin .Add KQ Ky) KZ) (EB x n c ts (sN k) (sN w) (sN p)) (.int ((cost ts:Int)+3-(w:Int))):=⟨_,fA (x:=(cost ts:Int)+3) ⟨_,fA (v (i:=4) rfl) (aG.cst _) rfl⟩ (v (i:=6) rfl) rfl⟩;have c0:aG T W7 (EB x n c ts (sN k) (sN w) (sN p)) (.bl (decide ((0:Int)<(w:Int))&&(!((ts.map (·.1)).contains p)&&decide ((cost ts:Int)+3-(w:Int)<=(c:Int))))):=by
  refine aG.and (k:=decide ((0:Int)<(w:Int))) (aG.cmp (v (i:=6) rfl) (aG.cst _) rfl) (λhk=>?_) (λhk=>by rw[hk];rfl);rw[hk,g8];refine aG.and (k:=!((ts.map (·.1)).contains p)) (aG.cmp (v (i:=7) rfl) (v (i:=3) rfl) ?_) (λhk=>?_) (λhk=>by rw[hk];rfl)
  .show ((θ ((kP ts).any λq=>decide (q.1=(p:Int)))).map (!·))=_;rw[wU];rfl
  .rw[hk,g8];exact aG.cmp ld (v (i:=2) rfl) rfl
 have last:∀Od:List Tr,∃x',bC T (.asg (.nm 0) (.bin .FloorDiv KU (.bin .Mult (KP 192) KW)) ε) (EB x n c Od (sN k) (sN w) (sN p))=.nx (EB x' n c Od (sN k) (sN w) (sN p)):=λOd=>by
  refine⟨x / (192*(n:Int)),bI (mq (aC _) (aC _) (aC _)) (by simp) (fA (v (i:=0) rfl) ⟨_,fA (aG.cst _) (v (i:=1) rfl) (jJ rfl)⟩ ?_)⟩;show (if 0<192*(n:Int)/\192*(n:Int)<1073741824 then θ (x / (192*(n:Int))) else η)=_;rw[if_pos (by omega)]
 have hb:=gH (d:=.int (k:Int)) (i:=5) (mq (x:=x) (n:=n) (c:=c) (ts:=ts) h5 h6 h7) (by simp);by_cases hk:(decide ((0:Int)<(w:Int))&&(!((ts.map (·.1)).contains p)&&decide ((cost ts:Int)+3-(w:Int)<=(c:Int))))=ζ
 .rw[aj,aj] at hk;have k1:=bt hk.1;have k2:(ts.map (·.1)).contains p=ε:=by simpa using hk.2.1
  have k3:=bt hk.2.2;have g0:0<=x / (3*(n:Int))%64:=jz _ (by decide);have g1:x / (3*(n:Int))%64<64:=jd _ (by decide);obtain⟨g,hg⟩:∃g:Nat,x / (3*(n:Int))%64=(g:Int):=⟨(x / (3*(n:Int))%64).toNat,by omega⟩;have eg:ev T (.bin .Mod (.bin .FloorDiv KU (.bin .Mult Ky KW)) KA) (EB x n c ts (sN k) (sN w) (sN p))=.ok (.int (g:Int),.mv []):=fA (x:=x / (3*(n:Int))) ⟨_,fA (v (i:=0) rfl) ⟨_,fA (aG.cst _) (v (i:=1) rfl) (jJ rfl)⟩ (by
   show (if 0<3*(n:Int)/\3*(n:Int)<1073741824 then θ (x / (3*(n:Int))) else η)=_;rw[if_pos (by omega)])⟩ (aG.cst _) (by show (if (0:Int)<64 then θ (x / (3*(n:Int))%64) else η)=_;rw[if_pos (by decide),hg])
  obtain⟨R,et⟩:=aG.OB (v (i:=6) (env:=EB x n c ts (sN k) (sN w) (sN p)) rfl) ⟨_,eg⟩;have pt:=Pc.Nw.BB (T:=T) (x:=3) (m:=.tup [(w:Int),(g:Int)]) Ry rfl (by have:=h.len;unfold kP;rw[ai];exact iq (cu this hc) (by decide)) (aJ rfl rfl:ev T K0 (EB x n c ts (sN k) (sN w) (sN p))=.ok (.int (p:Int),.mv [])) et rfl;rw[D7 k2] at pt;have cw:cost (ts ++ [(p,w,g)])=cost ts+(3-w):=zD ts (p,w,g);let L5:En:=[sI x,sN n,sN c,θ (.Lx (kP (ts ++ [(p,w,g)])),.own),sN (cost ts),sN k,sN w,sN p];have pt:bC T (.MG 3 K0 (.tup (La KZ (.bin .Mod (.bin .FloorDiv KU (.bin .Mult Ky KW)) KA)))) (EB x n c ts (sN k) (sN w) (sN p))=.nx L5:=pt;have te4:Tame L5:=.cons (aC _) (.cons (aC _) (.cons (aC _) (.cons (aC _) (.cons (aC _) (.cons (aC _) (.cons (aC _) (.cons (aC _) .nil)))))));have s4:bC T (.asg (.nm 4) (.bin .Sub (.bin .Add KQ Ky) KZ) ε) L5=.nx (EB x n c (ts ++ [(p,w,g)]) (sN k) (sN w) (sN p)):=by
   have e:ev T (.bin .Sub (.bin .Add KQ Ky) KZ) L5=.ok (.int ((cost (ts ++ [(p,w,g)]):Nat):Int),.mv []):=fA (x:=(cost ts:Int)+3) ⟨_,fA (v (i:=4) rfl) (aG.cst _) rfl⟩ (v (i:=6) rfl) (by
    show θ ((cost ts:Int)+3-(w:Int))=_;rw[cw];congr 1;omega)
   exact bI te4 (by simp[L5]) e
  obtain⟨x',s5⟩:=last (ts ++ [(p,w,g)]);refine⟨x',ts ++ [(p,w,g)],sN w,sN p,aC _,aC _,⟨?_,λt ht=>?_,by rw[cw];omega⟩,hb,?_⟩
  .rw[bq,fi];refine⟨h.nd,by simp,λa ha b Mo e=>?_⟩;have:b=p:=by simpa using Mo
   subst this;subst e;have:=AC.mpr ha;rw[k2] at this;cases this
  .rcases il.mp ht with q|q
   .exact h.ok t q
   .obtain rfl:=gu.mp q;exact⟨hpn,by show w=1\/w=2;omega,by show g<64;omega⟩
  .unfold Ao;rw[aE,s1,aD,aE,s2,aD,aE,kB c0,hk.1,hk.2.1,hk.2.2];simp only[ik,if_true];unfold Kd;rw[aE,pt,aD,aE,s4,aD,aE,aD,aE,s5,aD];rfl
 .obtain⟨x',s5⟩:=last ts;refine⟨x',ts,sN w,sN p,aC _,aC _,h,hb,?_⟩;unfold Ao;rw[aE,s1,aD,aE,s2,aD,aE,kB c0,(jo _).mp hk];simp only[a8,if_false];rw[aE,aD,aE,s5,aD];rfl
structure Case (c:Nat)(row sp W M:List Nat):Prop where
 Xe:c<=26
 gr:Gr row
 gs:Gr sp
 len:sp.length=row.length
 Q5:row.length<=63
 code:vc row c
 nd:M.Nodup
 lt:∀p∈M,p<row.length
 wr:W=dD sp row M
 le:2*W.length+M.length<=c
noncomputable def jB (ts:List Tr):List Nat:=ts.map (·.1)
theorem DA (ts:List Tr):((kP ts).map λq=>D.int q.1)=gD (jB ts):=by
 unfold kP jB gD;rw[aw,aw];rfl
theorem jL:∀{ts:List Tr},(ts.map (·.1)).Nodup->∀t∈ts,ts.find? (λq=>decide (q.1=t.1))=θ t
 |[],_,t,h=>by cases h
 |a::ts,hn,t,h=>by
  have LZ:=jy.mp hn;rw[u8];rcases fe.mp h with rfl|h
  .rw[cm rfl]
  .have:a.1≠t.1:=λe=>LZ.1 (by show a.1∈_;rw[e];exact SZ h)
   rw[bh this];exact jL LZ.2 t h
variable {t:Tr}
theorem E5 (hn:(ts.map (·.1)).Nodup)(h:t∈ts):EN (.LJ (kP ts)) (.int (t.1:Int))=θ (.tup [.int (t.2.1:Int),.int (t.2.2:Int)]):=by
 show ((kP ts).find? λq=>decide (q.1=(t.1:Int))).map (λq=>Q2 q.2)=_;unfold kP;rw[List.find?_map];have e:((λq:Int×MV=>decide (q.1=(t.1:Int)))∘λt:Tr=>((t.1:Int),MV.tup [(t.2.1:Int),(t.2.2:Int)]))=λq:Tr=>decide (q.1=t.1):=by
  funext q;show decide ((q.1:Int)=(t.1:Int))=decide (q.1=t.1);rw[decide_eq_decide];omega
 rw[e,jL hn t h];rfl
noncomputable def wQ (ts:List Tr)(p:Nat):Nat:=((ts.find? λq=>decide (q.1=p)).map (·.2.1)).getD 0
theorem AK (hn:(ts.map (·.1)).Nodup)(h:t∈ts):wQ ts t.1=t.2.1:=by
 unfold wQ;rw[jL hn t h];rfl
noncomputable def gY (ts:List Tr)(w:Nat):List Nat:=(jB ts).filter λp=>wQ ts p==w
theorem nX (hn:(ts.map (·.1)).Nodup)(w:Nat):gY ts w=(ts.filter λt=>t.2.1==w).map (·.1):=by
 unfold gY jB;rw[ZI];congr 1;refine jh λt ht=>?_
 show (wQ ts t.1==w)=_;rw[AK hn ht]
theorem mj (hn:(ts.map (·.1)).Nodup):p∈gY ts w↔∃t∈ts,t.1=p/\t.2.1=w:=by
 rw[nX hn,χ];constructor
 .rintro⟨t,h,rfl⟩;have:=gx.mp h;exact⟨t,this.1,rfl,by simpa using this.2⟩
 .rintro⟨t,h,rfl,e⟩;exact⟨t,gx.mpr ⟨h,by simpa using e⟩,rfl⟩
theorem kX (hn:(ts.map (·.1)).Nodup)(w:Nat):(gY ts w).Nodup:=À _ hn
theorem mQ:∀(ts:List Tr),(∀t∈ts,t.2.1=1\/t.2.1=2)->2*(ts.filter λt=>t.2.1==1).length+(ts.filter λt=>t.2.1==2).length=cost ts
 |[],_=>rfl
 |t::ts,h=>by
  have ih:=mQ ts λx hx=>h x (aa _ hx)
  have e:cost (t::ts)=(3-t.2.1)+cost ts:=rfl;rw[e,i8,i8];rcases h t ag with w|w
  .rw[w];simp only[show ((1:Nat)==1)=ζ from rfl,show ((1:Nat)==2)=ε from rfl,if_true,a8,if_false,cg];omega
  .rw[w];simp only[show ((2:Nat)==1)=ε from rfl,show ((2:Nat)==2)=ζ from rfl,if_true,a8,if_false,cg];omega
structure qc (row:List Nat)(S:List Tr)(l:List Nat):Prop where
 gr:Gr l
 len:l.length=row.length
 ne:∀t∈S,t.2.1=1->l.getD t.1 0≠row.getD t.1 0
 eq:∀p,p∉S.map (·.1)->l.getD p 0=row.getD p 0
theorem uz {row sp:List Nat}(h:BI row.length c ts)(i:qc row ts sp)(Xe:c<=26)(gr:Gr row)(Q5:row.length<=63)(code:vc row c):Case c row sp (cO (gY ts 1)) (cO (gY ts 2)):=by
 have p1:=dW (gY ts 1);have p2:=dW (gY ts 2);refine⟨Xe,gr,i.gr,i.len,Q5,code,p2.nodup_iff.mpr (kX h.nd 2),λp hp=>?_,?_,?_⟩
 .obtain⟨t,ht,rfl,_⟩:=(mj h.nd).mp (p2.mem_iff.mp hp);exact (h.ok t ht).1
 .refine vo (nr (kX h.nd 1)) (vG _ _ _) λp=>?_
  rw[p1.mem_iff,mj h.nd];unfold dD;rw[gx,na];simp only[aj,i3,bne_iff_ne,ne_eq];have c2:(cO (gY ts 2)).contains p=ε↔¬ ∃t∈ts,t.1=p/\t.2.1=2:=by
   rw[<-jo,AC,p2.mem_iff,mj h.nd]
  rw[c2];constructor
  .rintro⟨t,ht,rfl,e⟩;refine⟨by rw[i.len];exact (h.ok t ht).1,?_,λq=>i.ne t ht e q.symm⟩;rintro⟨u,hu,e1,e2⟩;have a:=jL h.nd t ht;have b:=jL h.nd u hu;rw[e1,a] at b;cases b;omega
  .rintro⟨_,n2,ne⟩;by_cases hp:p∈ts.map (·.1)
   .obtain⟨t,ht,rfl⟩:=χ.mp hp;rcases (h.ok t ht).2.1 with w|w
    .exact⟨t,ht,rfl,w⟩
    .exact absurd ⟨t,ht,rfl,w⟩ n2
   .exact absurd (i.eq p hp).symm ne
 .rw[p1.length_eq,p2.length_eq,nX h.nd,nX h.nd,ai,ai,mQ ts λt ht=>(h.ok t ht).2.1];exact h.le
end K16
end
section
namespace K23
open PySem Pc Pc.Sm Pc.Gr Pc.Lw Pc.Vw Fl64 Md
theorem h3 (n:Nat):iV (T (n+1)) 3:=λa b hb=>by
 rw[kW,bE (F:=⟨2,5,b3⟩) rfl rfl];exact BZ (T:=T n) rfl rfl (by show 7<=1000;decide) a b hb
theorem h5 (n:Nat):Di (T (n+2)) 5:=λa k ha hk=>by
 rw[kW,bE (F:=⟨2,5,b5⟩) rfl rfl];exact HG (h3 n) (by show 41<=1000;decide) a k ha hk
theorem h4 (n:Nat):zQ (T (n+3)) 4:=λa ha h=>by
 rw[kW,bE (F:=⟨1,1,b4⟩) rfl rfl];exact Ju (T:=T (n+2)) rfl (h5 n) ha h
theorem h6 (n:Nat):vK (T (n+2)) 6:=λgs x hx=>by
 rw[kW,bE (F:=⟨2,4,K23.b6⟩) rfl rfl];exact Ih (h3 n) gs x hx
theorem h7 (n:Nat):zR (T (n+2)) 7:=λa b ha hb O4 hl=>by
 rw[kW,bE (F:=⟨2,7,K23.b7⟩) rfl rfl];exact II (h3 n) ha hb O4 hl
theorem h8 (n:Nat):D9 (T (n+3)) 8:=λns hn hl=>by
 rw[kW,bE (F:=⟨1,3,K23.b8⟩) rfl rfl];exact IL (h7 n) hn hl
theorem h9 (n:Nat):zE (T (n+3)) 9:=λc hc=>by
 rw[kW,bE (F:=⟨1,1,K23.b9⟩) rfl rfl];exact IP (h5 n) c hc
theorem h10 (n:Nat){d:List Nat}(hd:Gr d)(c:Nat)(hl:d.length+c<=900):(T (n+4)).cl 10 [.lst (gD d),.int (c:Int)]=.ok (.lst (gD (ve d c)),ζ):=by
 rw[kW,bE (F:=⟨2,8,Vr⟩) rfl rfl];exact Kj (h3 (n+2)) (h8 n) (h9 n) hd c hl
theorem h11 (n:Nat):Gb (T (n+4)) 11:=λgs c hc=>by
 rw[kW,bE (F:=⟨2,2,Vq⟩) rfl rfl];exact Kg (h9 n) (h6 (n+1)) gs c hc
theorem WW (n:Nat):Gf (T (n+3)) 13:=λp m h hm=>by
 rw[kW,bE (F:=⟨2,2,Vo⟩) rfl rfl];exact Jl (h5 n) h hm
theorem h16 (n:Nat):HV (T (n+2)) 16:=λr ns p a b c d=>by
 rw[kW,bE (F:=⟨3,6,Vl⟩) rfl rfl];exact Jy (h3 n) a b c d
theorem h17 (n:Nat):HD (T (n+2)) 17:=λr f a b c=>by
 rw[kW,bE (F:=⟨2,2,Vk⟩) rfl rfl];exact Jn (h3 n) a b c
theorem h18 (n:Nat):Hb (T (n+1)) 18:=λa b ha hb=>by
 rw[kW,bE (F:=⟨2,5,Vj⟩) rfl rfl];exact Vw.I0 ha hb
theorem h15 (n:Nat):Iz (T (n+4)) 15:=λns hn hl=>by
 obtain⟨fr,h⟩:=FN (h3 (n+2)) (h4 n) (h16 (n+1)) (h17 (n+1)) (h18 (n+2)) hn hl;exact⟨fr,by rw[kW,bE (F:=⟨1,8,Vm⟩) rfl rfl];exact h⟩
theorem h20 (n:Nat):Hv (T (n+2)) 20:=λx ls hx hl=>by
 rw[kW,bE (F:=⟨2,4,Vh⟩) rfl rfl];exact J9 (h3 n) hx hl
theorem h14 (n:Nat):F5 (T (n+5)) 14:=λwo mi m a b c d e=>by
 obtain⟨fr,h⟩:=G8 (h6 (n+2)) (h7 (n+2)) (h8 (n+1)) (WW (n+1)) (h15 n) a b c d e;exact⟨fr,by rw[kW,bE (F:=⟨3,7,Vn⟩) rfl rfl];exact h⟩
theorem h19 (n:Nat):FQ (T (n+4)) 19:=λg su wo a b c d e f=>by
 rw[kW,bE (F:=⟨3,9,Vi⟩) rfl rfl];exact JQ (h3 (n+2)) (h4 n) (h6 (n+1)) (h7 (n+1)) (h8 n) (WW n) (h20 (n+1)) a b c d e f
variable {g:List Nat}
theorem h12 (n:Nat){mi:List Nat}{c:Nat}(gg:Gr g)(lg:g.length<=63)(lm:mi.length<=c)(lc:c<=62)(hm:∀p∈mi,p<g.length)(hf:Vw.EF g mi c=ε):(T (n+6)).cl 12 [.lst (gD g),.lst (gD mi),.int (c:Int)]=.ok (Q3 g mi c,ζ):=by
 rw[kW,bE (F:=⟨3,7,Vp⟩) rfl rfl];exact DV (h6 (n+3)) (h9 (n+2)) (h11 (n+1)) (h14 n) (h19 (n+1)) gg lg lm lc hm hf
theorem h23 (n:Nat){mi:List Nat}{c:Nat}(j:Int)(gg:Gr g)(lg:g.length<=63)(lm:mi.length<=c)(lc:c<=62)(hm:∀p∈mi,p<g.length)(hf:Vw.EF g mi c=ε):(T (n+7)).cl 23 [.lst (gD g),.lst (gD mi),.int (c:Int),.int j]=.ok (Q3 g mi c,ζ):=by
 have V:Vw (aF [.lst (gD g),.lst (gD mi),.int (c:Int),.int j] 4) [lD g,lD mi,nD c,θ (.int j)]:=Vw.start _ 4;rw[kW,bE (F:=⟨4,4,Jc⟩) rfl rfl];show Pc.ret (aE (T (n+6)) Jc _)=_;unfold Jc;rw[aE,kB (aG.cst (.bl ζ))];simp only[if_true];rw[aE,bC,mV (V.var (i:=0) rfl) (V.var (i:=1) rfl) (V.var (i:=2) rfl) (h12 n gg lg lm lc hm hf),aP];rfl
theorem WU (n:Nat):IZ (T (n+1)) 24:=λx=>by
 rw[kW,bE (F:=⟨1,1,Vg⟩) rfl rfl];exact Kt x
theorem F8 (n:Nat):Gz (T (n+1)) 25:=λns k=>by
 obtain⟨v,h⟩:=Ko (T:=T n) ns k;exact⟨v,by rw[kW,bE (F:=⟨2,2,Vf⟩) rfl rfl];exact h⟩
theorem GI (n:Nat):Au (T (n+1)) 26:=λc k=>by
 obtain⟨v,h',h⟩:=Jm (T:=T n) c k;exact⟨v,h',by rw[kW,bE (F:=⟨2,3,Ve⟩) rfl rfl];exact h⟩
theorem h27 (k:Nat)(ns:List Int)(hl:ns.length<=63)(n:Nat)(hn:0<n)(LZ:n<=1000):∃gs,Gr gs/\gs.length=n/\(T (k+2)).cl 27 [.lst (ns.map D.int),.int (n:Int)]=.ok (.lst (gD gs),ζ):=by
 obtain⟨gs,a,b,h⟩:=IU (GI k) ns hl n hn LZ;exact⟨gs,a,b,by rw[kW,bE (F:=⟨2,4,Vd⟩) rfl rfl];exact h⟩
theorem h28 (n:Nat){gs:List Nat}(hg:Gr gs)(m:Nat)(hm:gs.length=m):(T (n+2)).cl 28 [.lst (gD gs),.int (m:Int)]=.ok (.bl ζ,ζ):=by
 rw[kW,bE (F:=⟨2,3,Vc⟩) rfl rfl];exact JY (WU n) hg m hm
theorem h31 (n:Nat):VC (T (n+2)) 31:=λns m s t hs hm=>by
 obtain⟨ps,a,b,c,h⟩:=FF (GI n) (F8 n) ns (t:=t) hs hm;exact⟨ps,a,b,c,by rw[kW,bE (F:=⟨4,8,Vb⟩) rfl rfl];exact h⟩
noncomputable def nb:Nat->Nat
 |0=>1|1=>1|2=>2|3=>2|_=>3
noncomputable def rm:Nat->Nat
 |0=>16|1=>37|2=>64|3=>96|_=>133
noncomputable def C (a b:Nat):Nat:=2*(rm a / nb a*(b+1) / 16+1)
noncomputable def CT (a:Nat):List Nat:=(υ (nb a)).map λj=>rm a / nb a+(if nb a-rm a%nb a<=j then 1 else 0)
noncomputable def DU (a b:Nat):List Nat:=(CT a).map λx=>x-C a b
noncomputable def SP (a:Nat):List (Nat×Nat):=((υ 64).map λk=>((υ (nb a)).filter λj=>decide (k<(CT a).getD j 0)).map λj=>(j,k)).flatten
noncomputable def AT (a:Nat):List (List Nat):=(υ (nb a)).map λj=>(υ ((CT a).getD j 0)).map λk=>(SP a).idxOf (j,k)
noncomputable abbrev QP (l:List (Nat×Nat)):List D:=l.map λ(s:Nat×Nat)=>D.tup [.int (s.1:Int),.int (s.2:Int)]
theorem facts:allB 5 (λa=>allB 4 λb=>decide ((CT a).length=nb a/\nb a<=3/\0<nb a/\(∀x∈CT a,x<=48/\C a b<x)/\C a b<=26/\0<C a b/\0<(DU a b).sum/\(DU a b).sum<=120/\(CT a).sum=(DU a b).sum+C a b*nb a/\(CT a).sum=rm a/\(a<3\/b<2->C a b*nb a<=60)))=ζ:=by decide +kernel
variable {a:Nat}
theorem fact {b:Nat}(ha:a<5)(hb:b<4):(CT a).length=nb a/\nb a<=3/\0<nb a/\(∀x∈CT a,x<=48/\C a b<x)/\C a b<=26/\0<C a b/\0<(DU a b).sum/\(DU a b).sum<=120/\(CT a).sum=(DU a b).sum+C a b*nb a/\(CT a).sum=rm a/\(a<3\/b<2->C a b*nb a<=60) :=
 bt (aX (aX facts a ha) b hb)
noncomputable def pos (a j k:Nat):Nat:=((AT a).getD j []).getD k 0
theorem JJ:allB 5 (λa=>decide ((AT a).map ul=CT a)&&allB (nb a) λj=>allB ((CT a).getD j 0) λk=>decide (pos a j k<rm a)&&decide ((SP a)[pos a j k]? = θ (j,k)))=ζ:=by decide +kernel
theorem SN:allB 5 (λa=>allB (nb a) λj=>allB ((CT a).getD j 0) λk=>(match yd .LG (.lst (QP (SP a))) [.tup [.int (j:Int),.int (k:Int)]] with|some (.int i)=>decide (i=(pos a j k:Int))|_=>ε))=ζ:=by decide +kernel
theorem n5 (h:a<5):a=0\/a=1\/a=2\/a=3\/a=4:=by omega
theorem n4 (h:a<4):a=0\/a=1\/a=2\/a=3:=by omega
theorem up {f:Nat}{ds:List D}{r:D×Bool}(h:∀n,Pc.run fns gl 1000 (n+1) f ds=.ok r)(m:Nat)(hm:1<=m):(T m).cl f ds=.ok r:=by
 cases m with
 |zero=>omega
 |succ m=>exact h m
theorem r30 (a:Nat)(h:a<5)(n:Nat):Pc.run fns gl 1000 (n+1) 30 [.lst (gD (CT a))]=.ok (.lst (QP (SP a)),ζ):=by
 rcases n5 h with rfl|rfl|rfl|rfl|rfl<;>kernel_rfl
theorem r1 (g:Nat->Nat)(a:Nat)(h:a<5)(n:Nat):Pc.run fns gl 1000 (n+1) 1 [.lst ((AT a).map λr=>.lst (gD (r.map g)))]=.ok (.lst (gD ((υ (rm a)).map g)),ζ):=by
 rcases n5 h with rfl|rfl|rfl|rfl|rfl<;>kernel_rfl
theorem r2 (g:Nat->Nat)(a:Nat)(h:a<5)(n:Nat):Pc.run fns gl 1000 (n+1) 2 [.lst (gD ((υ (rm a)).map g)),.lst (gD (CT a))]=.ok (.lst ((AT a).map λr=>.lst (gD (r.map g))),ζ):=by
 rcases n5 h with rfl|rfl|rfl|rfl|rfl<;>kernel_rfl
theorem r2b (g:Nat->Bool)(a:Nat)(h:a<5)(n:Nat):Pc.run fns gl 1000 (n+1) 2 [.lst ((υ (rm a)).map λk=>.bl (g k)),.lst (gD (CT a))]=.ok (.lst ((AT a).map λr=>.lst (r.map λk=>.bl (g k))),ζ):=by
 rcases n5 h with rfl|rfl|rfl|rfl|rfl<;>kernel_rfl
noncomputable def J4 (c:Nat->Int):Nat->List Int×Int
 |0=>([],0)
 |k+1=>(λ(p:List Int×Int)=>(λ(x:Int)=>(p.1 ++ [x%64],x / 64)) (if k%40=0 then c (k / 40) else p.2)) (J4 c k)
theorem BW (c:Nat->Int):∀m,∃gs:List Nat,Gr gs/\gs.length=m/\(J4 c m).1.map D.int=gD gs
 |0=>⟨[],Gr.nil,rfl,rfl⟩
 |m+1=>by
  obtain⟨gs,a,b,e⟩:=BW c m;have h:∀x:Int,∃g:Nat,g<64/\x%64=(g:Int):=λx=>⟨(x%64).toNat,by omega,by omega⟩
  obtain⟨g,g1,g2⟩:=h (if m%40=0 then c (m / 40) else (J4 c m).2);refine⟨gs ++ [g],a.append (.cons g1 .nil),by simp[b],?_⟩;show ((J4 c m).1 ++ [_]).map D.int=_;rw[bq,e,eC,g2];rfl
noncomputable abbrev Xa (c:Nat->Int):D:=.lst [.int (c 0),.int (c 1),.int (c 2),.int (c 3)]
theorem r36 (c:Nat->Int)(a b:Nat)(h:a<5)(h':b<4)(n:Nat):Pc.run fns gl 1000 (n+1) 36 [Xa c,.int ((DU a b).sum:Nat)]=.ok (.lst ((J4 c (DU a b).sum).1.map D.int),ζ):=by
 rcases n5 h with rfl|rfl|rfl|rfl|rfl<;>rcases n4 h' with rfl|rfl|rfl|rfl<;>kernel_rfl
end K23
end
section
namespace K16
open PySem Pc Pc.Sm Pc.Gr Pc.Lw Pc.Vw Fl64 Md
variable {T:Tb}{env:En}
theorem sq {e:En}{s:St}{r:bJ}{x:Rs (D×Bool)}(h:bC T s env=.nx e)(h':Pc.ret (aE T r e)=x):Pc.ret (aE T (.cons s r) env)=x:=by
 rw[aE,h,aD];exact h'
variable {a:Ex}{x:Nat}
theorem kH (b:Nat)(hb:0<b)(Mo:b<1000)(h:aG T a env (.int (x:Int))):aG T (.bin .FloorDiv a (.cst (.int (b:Int)))) env (.int ((x / b:Nat):Int)):=aG.bin h (aG.cst _) (by
 rw[aS];show ((if 0<(b:Int)/\(b:Int)<1073741824 then θ ((x:Int) / (b:Int)) else η).map D.int)=_;rw[if_pos (by omega),Int.natCast_ediv];rfl)
variable {e:Ex}
theorem kz {b:Nat}(hb:0<b)(h:aG T a env (.int (x:Int)))(h':aG T e env (.int (b:Int))):aG T (.bin .Mod a e) env (.int ((x%b:Nat):Int)):=aG.bin h h' (by
 rw[aS];show ((if 0<(b:Int) then θ ((x:Int)%(b:Int)) else η).map D.int)=_;rw[if_pos (by omega),Int.natCast_emod];rfl)
theorem gX {x b:Nat}(h:aG T a env (.int (x:Int)))(h':aG T e env (.int (b:Int))):aG T (.bin .Add a e) env (.int ((x+b:Nat):Int)):=aG.bin h h' (by
 show θ (D.int ((x:Int)+(b:Int)))=_;congr 2)
theorem zM {b:Nat}(hb:b<=x)(h:aG T a env (.int (x:Int)))(h':aG T e env (.int (b:Int))):aG T (.bin .Sub a e) env (.int ((x-b:Nat):Int)):=aG.bin h h' (by
 show θ (D.int ((x:Int)-(b:Int)))=_;congr 2;omega)
theorem lit (b:Nat):aG T (.cst (.int (b:Int))) env (.int (b:Int)):=aG.cst _
end K16
end
section
namespace K23
open PySem Pc Pc.Sm Pc.Gr Pc.Lw Pc.Vw Fl64 Md
noncomputable abbrev sh (xs:List Nat)(c:Nat):List D:=xs.map λ(x:Nat)=>D.tup [.int (x:Int),.int (c:Int)]
noncomputable abbrev m5 (a:Nat):D:=.int (15+4*(a:Int))
variable {a b:Nat}
theorem r0 (ha:a<5)(hb:b<4)(n:Nat):Pc.run fns gl 1000 (n+1) 0 [m5 a,.int (b:Int)]=.ok (.lst (sh (DU a b) (C a b)),ζ):=by
 rcases n5 ha with rfl|rfl|rfl|rfl|rfl<;>rcases n4 hb with rfl|rfl|rfl|rfl<;>kernel_rfl
noncomputable def part (a b:Nat)(dt:List Nat)(j:Nat):List Nat:=(dt.drop ((DU a b).take j).sum).take ((DU a b).getD j 0)
noncomputable def row (a b:Nat)(dt:List Nat)(j:Nat):List Nat:=part a b dt j++ve (part a b dt j) (C a b)
noncomputable def rows (a b:Nat)(dt:List Nat)(k:Nat):List (List Nat):=(υ k).map (row a b dt)
noncomputable abbrev rD (rows:List (List Nat)):List D:=rows.map λr=>D.lst (gD r)
theorem pC (l:List Nat)(k:Nat)(h:k<l.length):(l.take (k+1)).sum=(l.take k).sum+l.getD k 0:=by
 rw[List.take_succ_eq_append_getElem h,X3,ι,τ h];simp
theorem Hr (l:List Nat)(k:Nat):(l.take k).sum<=l.sum:=by
 conv=>rhs;rw[<-YL k l,X3]
 omega
variable {j k:Nat}
section
variable {a b:Nat}{dt:List Nat}
theorem gM (ha:a<5)(hb:b<4):(DU a b).length=nb a:=by unfold DU;rw[ai,(fact ha hb).1]
theorem ky (ha:a<5)(hb:b<4)(hl:dt.length=(DU a b).sum)(hj:j<nb a):((DU a b).take j).sum+(DU a b).getD j 0<=dt.length/\(part a b dt j).length=(DU a b).getD j 0:=by
 have h1:=pC (DU a b) j (by rw[gM ha hb];exact hj);have h2:=Hr (DU a b) (j+1);refine⟨by omega,?_⟩;unfold part;rw[dk,gn];omega
theorem sL (hd:Gr dt)(j:Nat):Gr (part a b dt j):=λg hg=>hd g (Ps (i9 hg))
theorem oC (hd:Gr dt)(j:Nat):Gr (row a b dt j)/\vc (row a b dt j) (C a b)/\(row a b dt j).length=(part a b dt j).length+C a b:=by
 obtain⟨c1,c2,c3⟩:=xr (sL hd j (a:=a) (b:=b)) (C a b);exact⟨(sL hd j).append c2,c3,by unfold row;rw[az,c1]⟩
theorem pb (ha:a<5)(hb:b<4)(hj:j<nb a):(CT a).getD j 0=(DU a b).getD j 0+C a b/\(CT a).getD j 0<=48:=by
 obtain⟨f1,f2,f3,f4,_⟩:=fact ha hb;have e:(CT a)[j]? = θ ((CT a).getD j 0):=by rw[ι,τ (by omega)];rfl
 obtain⟨g1,g2⟩:=f4 _ (Α e);refine⟨?_,g1⟩;unfold DU;rw[ι (l:=XI _ _),π,e];show _=_-_+_;omega
theorem A4 (ha:a<5):(AT a).map ul=CT a:=bt (aj _ _ ▸ aX JJ a ha).1
theorem m6 (ha:a<5)(hj:j<nb a)(hk:k<(CT a).getD j 0):pos a j k<rm a/\(SP a)[pos a j k]? = θ (j,k):=by
 have h:=aX JJ a ha;rw[aj] at h;have h:=aX (aX h.2 j hj) k hk;rw[aj] at h;exact⟨bt h.1,bt h.2⟩
theorem n9 (ha:a<5){j' k':Nat}(hj:j<nb a)(hk:k<(CT a).getD j 0)(M4:j'<nb a)(MJ:k'<(CT a).getD j' 0)(e:pos a j k=pos a j' k'):j=j'/\k=k':=by
 have h:=(m6 ha hj hk).2;rw[e,(m6 ha M4 MJ).2] at h;cases h;exact⟨rfl,rfl⟩
theorem Jt (ha:a<5){j:Nat}(hj:j<nb a):∃h:j<(AT a).length,((AT a)[j]'h).length=(CT a).getD j 0/\∀k (hk:k<((AT a)[j]'h).length),((AT a)[j]'h)[k]'hk=pos a j k:=by
 have e:=A4 ha;have l1:(AT a).length=nb a:=by
  have:=fm ul e
  rwa [ai,(fact ha (show 0<4 by decide)).1] at this
 have h:j<(AT a).length:=by omega
 refine⟨h,?_,λk hk=>?_⟩
 .rw[<-e,ι,π,τ h];rfl
 .unfold pos;rw[ι (l:=AT a),τ h,ι];show _=((AT a)[j][k]?).getD 0;rw[τ hk];rfl
noncomputable def wv (a:Nat)(RR:List (List Nat))(p:Nat):Nat:=(RR.getD ((SP a).getD p (0,0)).1 []).getD ((SP a).getD p (0,0)).2 0
theorem Bj (ha:a<5)(RR:List (List Nat))(hj:j<nb a)(hk:k<(CT a).getD j 0):wv a RR (pos a j k)=(RR.getD j []).getD k 0:=by
 unfold wv;rw[ι (l:=SP a),(m6 ha hj hk).2];rfl
noncomputable def xR (a:Nat)(f:Nat->Nat)(j:Nat):List Nat:=(υ ((CT a).getD j 0)).map λk=>f (pos a j k)
theorem vh {β:Type}(ha:a<5)(f:Nat->β):(AT a).map (λr=>r.map f)=(υ (nb a)).map λj=>(υ ((CT a).getD j 0)).map λk=>f (pos a j k):=by
 have l1:(AT a).length=nb a:=by
  have:=fm ul (A4 ha)
  rwa [ai,(fact ha (show 0<4 by decide)).1] at this
 refine cj (by simp[l1]) λj h1 h2=>?_
 obtain⟨h,g1,g2⟩:=Jt ha (j:=j) (by simpa using h2);rw[dm,dm,gv];refine cj (by simp[g1]) λk h3 h4=>?_
 rw[dm,dm,gv,g2]
theorem CB (ha:a<5){RR:List (List Nat)}(hl:RR.map ul=CT a):RR=(AT a).map (λr=>r.map (wv a RR)):=by
 rw[vh ha];have l1:RR.length=nb a:=by
  have:=fm ul hl
  rwa [ai,(fact ha (show 0<4 by decide)).1] at this
 refine cj (by simp[l1]) λj h1 h2=>?_
 have lj:(CT a).getD j 0=RR[j].length:=by
  rw[<-hl,ι,π,τ h1];rfl
 rw[dm,gv];refine cj (by rw[ai,bu,lj]) λk h3 h4=>?_
 rw[dm,gv,Bj ha RR (by simpa using h2) (by simpa using h4),ι (l:=RR),τ h1,ι];show _=(RR[j][k]?).getD 0;rw[τ h3];rfl
noncomputable def wrap (a b:Nat)(dt:List Nat):List Nat:=(υ (rm a)).map (wv a (rows a b dt (nb a)))
theorem AL (ha:a<5)(hb:b<4)(hl:dt.length=(DU a b).sum)(hd:Gr dt):(rows a b dt (nb a)).map ul=CT a:=by
 refine cj (by simp[rows,(fact ha hb).1]) λj h1 h2=>?_
 have hj:j<nb a:=by rw[(fact ha hb).1] at h2;exact h2
 simp only[rows,dm,gv];rw[(oC hd j).2.2,(ky ha hb hl hj).2,<-(pb ha hb hj).1,ι,τ h2];rfl
theorem BA (l:List Nat)(s x:Nat)(h:s+x<=l.length):Ga (.lst (gD l)) (θ (s:Int)) (θ ((s+x:Nat):Int))=θ (.lst (gD ((l.drop s).take x))):=by
 rw[Ag,ZU,Nat.add_sub_cancel_left]
theorem WV (m:Nat)(ha:a<5)(hb:b<4)(hl:dt.length=(DU a b).sum)(hd:Gr dt):(T (m+5)).cl 21 [.lst (gD dt),m5 a,.int (b:Int)]=.ok (.lst (gD (wrap a b dt)),ζ):=by
 obtain⟨f1,f2,f3,f4,f5,f6,f7,f8,_⟩:=fact ha hb;have V0:Tv (aF [.lst (gD dt),m5 a,.int (b:Int)] 8) [θ (.lst (gD dt),ε),θ (m5 a,ε),θ (.int (b:Int),ε),η,η,η,η,η]:=Tv.start _ 8;obtain⟨e1,q1,V1⟩:=V0.asg (T:=T (m+4)) (i:=3) (e:=.lst .nil) (d:=.lst (rD (rows a b dt 0))) (show (3:Nat)<8 by decide) (by rw[ev,bL,aB];rfl);obtain⟨e2,q2,V2⟩:=V1.asg (T:=T (m+4)) (i:=4) (e:=.cst (.int 0)) (d:=.int ((((DU a b).take 0).sum:Nat):Int)) (show (4:Nat)<8 by decide) (by rw[ev];rfl);have V2:Tv e2 [θ (.lst (gD dt),ε),θ (m5 a,ε),θ (.int (b:Int),ε),θ (.lst (rD (rows a b dt 0)),ζ),θ (.int ((((DU a b).take 0).sum:Nat):Int),ζ),η,η,η]:=V2;have hit:fU (T (m+4)) (.seq (.call 0 (La KW KR))) e2=.ok (sh (DU a b) (C a b),[]):=by
  rw[fU,dS (V2.var (i:=1) rfl) (V2.var (i:=2) rfl) (up (r0 ha hb) (m+4) (by omega)),aB];rfl
 obtain⟨e3,q3,v5,v6,v7,V3⟩:=qd (t:=.tp [5,6]) (R:=[]) (b:=aE (T (m+4)) (.cons (.asg (.nm 7) (.sl KU (.some KQ) (.some (.bin .Add KQ KY))) ε)
  (.cons (.mut 3 .none .append (K9 (.bin .Add K0 (.call 10 (La K0 KZ)))))
  (.cons (.aug 4 .Add KY) .nil)))) (λk env=>∃v5 v6 v7,Tv env [θ (.lst (gD dt),ε),θ (m5 a,ε),θ (.int (b:Int),ε),θ (.lst (rD (rows a b dt k)),ζ),θ (.int ((((DU a b).take k).sum:Nat):Int),ζ),v5,v6,v7]) (sh (DU a b) (C a b)) 0 e2 ⟨_,_,_,V2⟩ (λi d e Mv ⟨v5,v6,v7,W⟩=>by
  rw[en] at W ⊢;rw[π] at Mv;have hi:i<nb a:=by
   rw[<-gM ha hb];cases q:(DU a b)[i]? with
   |none=>rw[q] at Mv;cases Mv
   |some z=>exact (ο.mp q).1
  obtain⟨p1,p2⟩:=ky ha hb hl hi;have ed:(DU a b)[i]? = θ ((DU a b).getD i 0):=by rw[ι,τ (by rw[gM ha hb];exact hi)];rfl
  rw[ed] at Mv;cases Mv;have hx:∀x c:Nat,be [] (.tp [5,6]) (.tup [.int (x:Int),.int (c:Int)]) e=θ ((e.set 5 (θ (.int (x:Int),.own))).set 6 (θ (.int (c:Int),.own))):=λx c=>fX W.tm (by rw[W.len];exact (by decide:(5:Nat)<8)) (by rw[W.len];exact (by decide:(6:Nat)<8)) rfl rfl
  have W1:Tv ((e.set 5 (θ (.int ((DU a b).getD i 0:Nat),.own))).set 6 (θ (.int (C a b:Nat),.own))) [θ (.lst (gD dt),ε),θ (m5 a,ε),θ (.int (b:Int),ε),θ (.lst (rD (rows a b dt i)),ζ),θ (.int ((((DU a b).take i).sum:Nat):Int),ζ),θ (.int ((DU a b).getD i 0:Nat),ζ),θ (.int (C a b:Nat),ζ),v7]:=(W.set 5 (.int ((DU a b).getD i 0:Nat)) .own ζ (aC _) λ_=>rfl).set 6 (.int (C a b:Nat)) .own ζ (aC _) λ_=>rfl
  have s1:aG (T (m+4)) (.bin .Add KQ KY) ((e.set 5 (θ (.int ((DU a b).getD i 0:Nat),.own))).set 6 (θ (.int (C a b:Nat),.own))) (.int ((((DU a b).take i).sum+(DU a b).getD i 0:Nat):Int)):=K16.gX (W1.var (i:=4) rfl) (W1.var (i:=5) rfl);obtain⟨e4,q4,W4⟩:=W1.asg (T:=T (m+4)) (i:=7) (show (7:Nat)<8 by decide) (VS (aG.sl (W1.var (i:=0) rfl) (W1.var (i:=4) rfl) s1 (BA dt _ _ p1)) (iF _));have W4:Tv e4 [θ (.lst (gD dt),ε),θ (m5 a,ε),θ (.int (b:Int),ε),θ (.lst (rD (rows a b dt i)),ζ),θ (.int ((((DU a b).take i).sum:Nat):Int),ζ),θ (.int ((DU a b).getD i 0:Nat),ζ),θ (.int (C a b:Nat),ζ),θ (.lst (gD (part a b dt i)),ζ)]:=W4;have gp:=sL hd i (a:=a) (b:=b);have c10:=aG.of (dS (T:=T (m+4)) (W4.var (i:=7) rfl) (W4.var (i:=6) rfl) (h10 m gp (C a b) (by omega)));obtain⟨e5,q5,W5⟩:=W4.app (T:=T (m+4)) (x:=3) rfl (qf (aG.cat (W4.var (i:=7) rfl) c10 (by rw[(xr gp (C a b)).1];omega)) (iF _)) (by unfold rows;simp;omega);have eR:rD (rows a b dt i) ++ [.lst (gD (part a b dt i++ve (part a b dt i) (C a b)))]=rD (rows a b dt (i+1)):=by unfold rows;rw[ZJ,bq,rD,rD,bq];rfl
  rw[eR] at W5;have W5:Tv e5 [θ (.lst (gD dt),ε),θ (m5 a,ε),θ (.int (b:Int),ε),θ (.lst (rD (rows a b dt (i+1))),ζ),θ (.int ((((DU a b).take i).sum:Nat):Int),ζ),θ (.int ((DU a b).getD i 0:Nat),ζ),θ (.int (C a b:Nat),ζ),θ (.lst (gD (part a b dt i)),ζ)]:=W5;obtain⟨R5,y5⟩:=W5.var (T:=T (m+4)) (i:=5) rfl;have q6:=Pc.Nw.Dl (T:=T (m+4)) (x:=4) W5.tm (W5.own (i:=4) rfl) y5;have W6:=W5.set 4 (.int ((((DU a b).take i).sum:Nat)+((DU a b).getD i 0:Nat):Int)) .own ζ (aC _) λ_=>rfl
  rw[show ((((DU a b).take i).sum:Nat):Int)+((DU a b).getD i 0:Nat)=((((DU a b).take (i+1)).sum:Nat):Int) by rw[pC _ _ (by rw[gM ha hb];exact hi)];omega] at q6 W6;refine⟨_,_,hx _ _,.inl ?_,_,_,_,W6⟩;rw[aE,q4,aD,aE,q5,aD,aE,q6,aD];rfl)
 have q3:=cP hit q3;rw[en,ai,gM ha hb] at V3;have er:=CB ha (AL ha hb hl hd);have c1:(T (m+4)).cl 1 [.lst (rD (rows a b dt (nb a)))]=.ok (.lst (gD (wrap a b dt)),ζ):=by
  have e2:rD (rows a b dt (nb a))=(AT a).map λr=>.lst (gD (r.map (wv a (rows a b dt (nb a))))):=by
   conv=>lhs;rw[er]
   rw[rD,aw];rfl
  rw[e2];exact up (r1 (wv a (rows a b dt (nb a))) a ha) (m+4) (by omega)
 rw[kW,bE (F:=⟨3,8,Ro⟩) rfl rfl];show Pc.ret (aE (T (m+4)) Ro _)=_;refine K16.sq q1 (K16.sq q2 (K16.sq q3 (fY (oA (V3.var (i:=3) rfl) c1))))
end
theorem filter_tt {β:Type}(l:List β):l.filter (λ_=>ζ)=l:=List.filter_eq_self.mpr λ_ _=>rfl
theorem qY {β:Type}(n:Nat)(f:Nat->β):((υ n).map f).zipIdx=(υ n).map λk=>(f k,k) :=
 cj (by simp) λi h1 h2=>by simp
theorem oo (l:List Nat):l=(υ l.length).map λk=>l.getD k 0 :=
 cj (by simp) λi h1 h2=>by simp[h1]
noncomputable def ud (a:Nat)(M:List Nat)(j:Nat):List Nat:=(υ ((CT a).getD j 0)).filter λk=>M.contains (pos a j k)
noncomputable abbrev bD (p:Nat×Nat):D:=.tup [.int (p.1:Int),.int (p.2:Int)]
variable {dt:List Nat}
theorem zh (ha:a<5)(hb:b<4)(hl:dt.length=(DU a b).sum)(hj:j<nb a):(row a b dt j).take ((DU a b).getD j 0)=part a b dt j:=by
 rw[<-(ky ha hb hl hj).2];exact List.take_left
theorem h22 (m:Nat){sp M:List Nat}{w:Nat->List Nat}(ha:a<5)(hb:b<4)(hl:dt.length=(DU a b).sum)(hd:Gr dt)(ls:sp.length=rm a)
  (hC:∀j,j<nb a->K16.Case (C a b) (row a b dt j) (xR a (λp=>sp.getD p 0) j) (w j) (ud a M j)) :
  (T (m+8)).cl 22 [.lst (gD sp),.lst (gD M),m5 a,.int (b:Int)]=.ok (.tup [.lst (gD dt),.lst ((υ (nb a)).map λj=>bD ((w j).length,(ud a M j).length))],ζ):=by
 obtain⟨f1,f2,f3,f4,f5,f6,f7,f8,f9,f10,_⟩:=fact ha hb;have Oh:rm a<=133:=by rcases n5 ha with rfl|rfl|rfl|rfl|rfl<;>decide
 have V0:Tv (aF [.lst (gD sp),.lst (gD M),m5 a,.int (b:Int)] 14) [θ (.lst (gD sp),ε),θ (.lst (gD M),ε),θ (m5 a,ε),θ (.int (b:Int),ε),η,η,η,η,η,η,η,η,η,η]:=Tv.start _ 14;obtain⟨e1,q1,V1⟩:=V0.asg (T:=T (m+7)) (i:=4) (show (4:Nat)<14 by decide) (dS (V0.var (i:=2) rfl) (V0.var (i:=3) rfl) (up (r0 ha hb) (m+7) (by omega)));obtain⟨R1,i1⟩:=Dt (V1.var (T:=T (m+7)) (i:=4) rfl);have c5:=tG (T:=T (m+7)) (env:=e1) (own:=2) (pick:=[]) (t:=.tp [0,1]) (c:=.none) (e:=.bin .Add KU KW) (r:=λx=>.int ((x+C a b:Nat):Int)) (k:=λ_=>ζ) i1 (by rw[gM ha hb];omega) (λx hx=>⟨[θ (.int (x:Int),.own),θ (.int (C a b:Int),.own)],rfl,rfl,K16.gX (x:=x) (b:=C a b) ⟨_,rfl⟩ ⟨_,rfl⟩,rfl⟩);have ec:((DU a b).filter λ_=>ζ).map (λx=>D.int ((x+C a b:Nat):Int))=gD (CT a):=by
  rw[filter_tt];refine cj (by simp[gM ha hb,f1]) λj h1 h2=>?_
  have hj:j<nb a:=by simpa[gM ha hb] using h1
  have:=(pb ha hb hj).1;rw[ι,τ (by omega),ι,τ (by rw[gM ha hb];exact hj)] at this;simp only[gD,dm];exact fm (λn:Nat=>D.int (n:Int)) this.symm
 rw[ec] at c5;obtain⟨e2,q2,V2⟩:=V1.asg (T:=T (m+7)) (i:=5) (show (5:Nat)<14 by decide) c5;have es:gD sp=gD ((υ (rm a)).map λp=>sp.getD p 0):=by rw[<-ls,<-oo]
 have p2:=up (r2 (λp=>sp.getD p 0) a ha) (m+7) (by omega);rw[<-es] at p2;have eA:((AT a).map λr=>D.lst (gD (r.map λp=>sp.getD p 0)))=rD ((υ (nb a)).map (xR a λp=>sp.getD p 0)):=by
  have:=vh (a:=a) ha (λp=>sp.getD p 0);show (AT a).map _=((υ (nb a)).map λj=>(υ ((CT a).getD j 0)).map λk=>sp.getD (pos a j k) 0).map _;rw[<-this,aw];rfl
 rw[eA] at p2;obtain⟨e3,q3,V3⟩:=V2.asg (T:=T (m+7)) (i:=6) (show (6:Nat)<14 by decide) (dS (V2.var (i:=0) rfl) (V2.var (i:=5) rfl) p2);have pk:∀(j:Nat) (d:D),[lD M][j]? = θ (θ d)->∃i,[1][j]? = θ i/\([θ (.lst (gD sp),ε),θ (.lst (gD M),ε),θ (m5 a,ε),θ (.int (b:Int),ε),θ (.lst (sh (DU a b) (C a b)),ζ),θ (.lst (gD (CT a)),ζ),θ (.lst (rD ((υ (nb a)).map (xR a λp=>sp.getD p 0))),ζ),η,η,η,η,η,η,η].map λ(o:Option (D×Bool))=>o.map (·.1))[i]? = θ (θ d):=λj d e=>by
  cases j with
  |zero=>exact⟨1,rfl,e⟩
  |succ j=>cases e
 have Tn:fU (T (m+7)) (.Lm (Ld KU)) e3=.ok ((υ (rm a)).map λ(k:Nat)=>D.int (k:Int),[]):=rM (by have:=V3.vw.len (T:=T (m+7)) (i:=0) (l:=sp) rfl;rwa [ls] at this) (by omega);have c7:=tG (T:=T (m+7)) (env:=e3) (own:=1) (pick:=[1]) (t:=.nm 0) (c:=.none) (e:=.cmp .In KU KW) (r:=λp=>.bl (M.contains p)) (k:=λ_=>ζ) Tn (by rw[bu];omega) (λp hp=>by
  obtain⟨h0,W⟩:=V3.vw.picked (pick:=[1]) (ws:=[lD M]) pk rfl (.int (p:Int));refine⟨_,?_,rfl,aG.cmp (W.var (i:=0) rfl) (W.var (i:=1) rfl) (vC M p),rfl⟩;show (if 0<(aO e3 1 [1]).length then θ (put (aO e3 1 [1]) 0 (.int (p:Int)) .own) else η)=_;rw[if_pos h0])
 rw[filter_tt] at c7;have p7:=up (r2b (λp=>M.contains p) a ha) (m+7) (by omega);obtain⟨e4,q4,V4⟩:=V3.asg (T:=T (m+7)) (i:=7) (show (7:Nat)<14 by decide) (dS (aG.of c7) (V3.var (i:=5) rfl) p7);have eG:((AT a).map λr=>D.lst (r.map λp=>D.bl (M.contains p)))=(υ (nb a)).map λj=>D.lst ((υ ((CT a).getD j 0)).map λk=>D.bl (M.contains (pos a j k))):=by
  have:=fm (XI D.lst) (vh (a:=a) ha (λp=>D.bl (M.contains p)));rw[aw,aw] at this;exact this
 rw[eG] at V4;obtain⟨e5,q5,V5⟩:=V4.asg (T:=T (m+7)) (i:=8) (e:=.lst .nil) (d:=.lst (gD (dt.take ((DU a b).take 0).sum))) (show (8:Nat)<14 by decide) (by rw[ev,bL,aB];rfl);obtain⟨e6,q6,V6⟩:=V5.asg (T:=T (m+7)) (i:=9) (e:=.lst .nil) (d:=.lst ((υ 0).map λj=>bD ((w j).length,(ud a M j).length))) (show (9:Nat)<14 by decide) (by rw[ev,bL,aB];rfl);let J:Nat->En->Prop:=λk env=>∃v10 v11 L7 LW,Tv env [θ (.lst (gD sp),ε),θ (.lst (gD M),ε),θ (m5 a,ε),θ (.int (b:Int),ε),θ (.lst (sh (DU a b) (C a b)),ε),θ (.lst (gD (CT a)),ζ),θ (.lst (rD ((υ (nb a)).map (xR a λp=>sp.getD p 0))),ζ),θ (.lst ((υ (nb a)).map λj=>D.lst ((υ ((CT a).getD j 0)).map λk=>D.bl (M.contains (pos a j k)))),ζ),θ (.lst (gD (dt.take ((DU a b).take k).sum)),ζ),θ (.lst ((υ k).map λj=>bD ((w j).length,(ud a M j).length)),ζ),v10,v11,L7,LW]
 have o4:e6[4]? = θ (θ (.lst (sh (DU a b) (C a b)),.own)):=V6.own rfl;have hit:fU (T (m+7)) (.enum KQ) e6=.ok ((υ (nb a)).map (λ(j:Nat)=>D.tup [.int (j:Int),.tup [.int ((DU a b).getD j 0:Nat),.int (C a b:Nat)]]),[4]):=by
  have eS:sh (DU a b) (C a b)=(υ (nb a)).map λj=>D.tup [.int ((DU a b).getD j 0:Nat),.int (C a b:Nat)]:=by
   conv=>lhs;rw[oo (DU a b)]
   rw[sh,aw,gM ha hb];rfl
  have v4:ev (T (m+7)) KQ e6=.ok (.lst (sh (DU a b) (C a b)),.mv [4]):=bP o4 rfl;rw[fU,v4,aB];show Rs.ok ((sh (DU a b) (C a b)).zipIdx.map λq=>D.tup [.int q.2,q.1],[4])=_;rw[eS,qY,aw];rfl
 obtain⟨e7,q7,v10,v11,L7,LW,V7⟩:=qd (t:=.tp [10,11]) (R:=[4]) (b:=aE (T (m+7)) (.cons (.asg (.nm 12) (.comp 2 [] (.tp [0,1]) (.enum (.ix K0 K2)) (.some KW) KU) ε)
  (.cons (.asg (.nm 13) (.call 23 (Lc (.ix KZ K2) K3 (.ix K4 Kv) K2)) ε)
  (.cons (.mut 8 .none .extend (K9 (.sl (.ix K5 Kw) .none (.some (.ix K4 Kw)))))
  (.cons (.mut 9 .none .append (K9 (.tup (La (Ld (.ix K5 Kv)) (Ld K3)))))
  .nil))))) J ((υ (nb a)).map (λ(j:Nat)=>D.tup [.int (j:Int),.tup [.int ((DU a b).getD j 0:Nat),.int (C a b:Nat)]])) 0 (e6.set 4 (θ (.lst (sh (DU a b) (C a b)),.lk))) ⟨_,_,_,_,V6.set 4 (.lst (sh (DU a b) (C a b))) .lk ε (iK _) (λh=>by cases h)⟩ (λj d e Mv ⟨v10,v11,L7,LW,W⟩=>by
  rw[en] at W ⊢;obtain⟨hj,rfl⟩:j<nb a/\d=D.tup [.int (j:Int),.tup [.int ((DU a b).getD j 0:Nat),.int (C a b:Nat)]]:=by
   rw[π] at Mv;cases q:(υ (nb a))[j]? with
   |none=>rw[q] at Mv;cases Mv
   |some z=>
    have h:=(ο.mp q).1;rw[bu] at h;rw[Ψ h] at Mv;cases Mv;exact⟨h,rfl⟩
  have K:=hC j hj;have l48:=(pb ha hb hj).2;have Rf:be [4] (.tp [10,11]) (.tup [.int (j:Int),.tup [.int ((DU a b).getD j 0:Nat),.int (C a b:Nat)]]) e=θ ((e.set 10 (θ (.int (j:Int),.own))).set 11 (θ (.tup [.int ((DU a b).getD j 0:Nat),.int (C a b:Nat)],.own))):=fX W.tm (by rw[W.len];exact (by decide:(10:Nat)<14)) (by rw[W.len];exact (by decide:(11:Nat)<14)) rfl rfl;have W1:=(W.set 10 (.int (j:Int)) .own ζ (aC _) λ_=>rfl).set 11 (.tup [.int ((DU a b).getD j 0:Nat),.int (C a b:Nat)]) .own ζ (aC _) λ_=>rfl
  generalize (e.set 10 (θ (.int (j:Int),.own))).set 11 (θ (.tup [.int ((DU a b).getD j 0:Nat),.int (C a b:Nat)],.own))=e8 at Rf W1;have g7:aG (T (m+7)) (.ix K0 K2) e8 (.lst ((υ ((CT a).getD j 0)).map λk=>D.bl (M.contains (pos a j k)))):=aG.ix (W1.var (i:=7) rfl) (W1.var (i:=10) rfl) (by
   show (Pc.kQ _ (j:Int)).bind _=_;rw[ai,bu,hZ hj];show ((υ (nb a)).map _)[j]? = _;rw[π,Ψ hj];rfl)
  obtain⟨R7,g7⟩:=g7;have Tj:fU (T (m+7)) (.enum (.ix K0 K2)) e8=.ok ((υ ((CT a).getD j 0)).map (λ(k:Nat)=>D.tup [.int (k:Int),.bl (M.contains (pos a j k))]),R7.roots):=by
   rw[fU,g7,aB];show Rs.ok (((υ ((CT a).getD j 0)).map λk=>D.bl (M.contains (pos a j k))).zipIdx.map λq=>D.tup [.int q.2,q.1],R7.roots)=_;rw[qY,aw];rfl
  have c8:=tG (T:=T (m+7)) (env:=e8) (own:=2) (pick:=[]) (t:=.tp [0,1]) (c:=.some KW) (e:=.var 0) (r:=λ(k:Nat)=>.int (k:Int)) (k:=λk=>M.contains (pos a j k)) Tj (by rw[bu];omega) (λk hk=>⟨[θ (.int (k:Int),.own),θ (.bl (M.contains (pos a j k)),.own)],rfl,T7 ⟨_,rfl⟩,⟨_,rfl⟩,rfl⟩);obtain⟨e9,q9,W2⟩:=W1.asg (T:=T (m+7)) (i:=12) (d:=.lst (gD (ud a M j))) (show (12:Nat)<14 by decide) c8;have near:EO (xR a (λp=>sp.getD p 0) j) (row a b dt j) (ud a M j) (C a b):=⟨K.gr,K.len.symm,K.code,by rw[<-K.wr];exact K.le⟩;have Wk:∀p∈ud a M j,p<(xR a (λp=>sp.getD p 0) j).length:=λp hp=>by rw[K.len];exact K.lt p hp
  have le:=K.le;obtain⟨tr,fa⟩:=uZ K.gs (by rw[K.len];exact K.Q5) (by omega) K.nd Wk near;have Xf:=h23 m (j:Int) K.gs (by rw[K.len];exact K.Q5) (mi:=ud a M j) (c:=C a b) (by omega) (by omega) Wk fa;have em:Q3 (xR a (λp=>sp.getD p 0) j) (ud a M j) (C a b)=.tup [.lst (gD (row a b dt j)),.lst (gD (w j))]:=by
   show D.tup [.lst (gD (cT _ _ _)),.lst (gD (dD _ (cT _ _ _) _))]=_;rw[tr,<-K.wr]
  rw[em] at Xf;obtain⟨O8,q10,W3⟩:=W2.asg (T:=T (m+7)) (i:=13) (show (13:Nat)<14 by decide) (vg (aG.ix (W2.var (i:=6) rfl) (W2.var (i:=10) rfl) (z:=.lst (gD (xR a (λp=>sp.getD p 0) j))) (by
   show (Pc.kQ _ (j:Int)).bind _=_;rw[ai,ai,bu,hZ hj];show (XI _ ((υ (nb a)).map _))[j]? = _;rw[π,π,Ψ hj];rfl)) (W2.var (i:=12) rfl) (aG.ix (W2.var (i:=11) rfl) (aG.cst (.int 1)) (z:=.int (C a b:Nat)) rfl) (W2.var (i:=10) rfl) Xf)
  have x0:aG (T (m+7)) (.ix K4 Kw) O8 (.int ((DU a b).getD j 0:Nat)):=aG.ix (W3.var (i:=11) rfl) (aG.cst (.int 0)) rfl;have y0:aG (T (m+7)) (.ix K5 Kw) O8 (.lst (gD (row a b dt j))):=aG.ix (W3.var (i:=13) rfl) (aG.cst (.int 0)) rfl;have y1:aG (T (m+7)) (.ix K5 Kv) O8 (.lst (gD (w j))):=aG.ix (W3.var (i:=13) rfl) (aG.cst (.int 1)) rfl;have sl:=aG.slh y0 x0 (Fe (row a b dt j) _);rw[zh ha hb hl hj] at sl;have pl:=ky ha hb hl hj;obtain⟨T9,q11,W4⟩:=W3.ext (T:=T (m+7)) (x:=8) rfl (VS sl (iF _)) (eE _) (by rw[aY,aY,dk];omega);have eT:gD (dt.take ((DU a b).take j).sum)++gD (part a b dt j)=gD (dt.take ((DU a b).take (j+1)).sum):=by
   rw[<-eC,pC _ _ (by rw[gM ha hb];exact hj),List.take_add];rfl
  rw[eT] at W4;have z1:aG (T (m+7)) (.ix K5 Kv) T9 (.lst (gD (w j))):=aG.ix (W4.var (i:=13) rfl) (aG.cst (.int 1)) rfl;obtain⟨T8,q12,W5⟩:=W4.app (T:=T (m+7)) (x:=9) rfl (HQ (sZ (aG.LC (k:=.len) z1 (wG _)) rfl) (sZ (aG.LC (k:=.len) (W4.var (i:=12) rfl) (wG _)) rfl)) (by simp;omega);have eB:(υ j).map (λj=>bD ((w j).length,(ud a M j).length)) ++ [.tup [.int ((w j).length:Int),.int ((ud a M j).length:Int)]]=(υ (j+1)).map λj=>bD ((w j).length,(ud a M j).length):=by
   rw[ZJ,bq];rfl
  rw[eB] at W5;refine⟨e8,T8,Rf,.inl ?_,_,_,_,_,W5⟩;rw[aE,q9,aD,aE,q10,aD,aE,q11,aD,aE,q12,aD];rfl)
 rw[<-tL o4] at q7;have q7:=DI hit q7;have V8:=V7.unlock (env:=e6) [4];rw[en,ai,bu] at V8;have eD:dt.take ((DU a b).take (nb a)).sum=dt:=by
  rw[iz (l:=DU a b) (by rw[gM ha hb];exact au _),<-hl,ji]
 rw[eD] at V8;rw[kW,bE (F:=⟨4,14,Rn⟩) rfl rfl];show Pc.ret (aE (T (m+7)) Rn _)=_;exact K16.sq q1 (K16.sq q2 (K16.sq q3 (K16.sq q4 (K16.sq q5 (K16.sq q6 (K16.sq q7 (V8.OH (i:=8) (j:=9) (by decide) rfl rfl)))))))
theorem ix8 (j:Int):∃a:Nat,a<5/\EN (.lst [.int 15,.int 19,.int 15,.int 23,.int 19,.int 27,.int 15,.int 31]) (.int (j%8))=θ (m5 a):=by
 have h:j%8=0\/j%8=1\/j%8=2\/j%8=3\/j%8=4\/j%8=5\/j%8=6\/j%8=7:=by omega
 rcases h with h|h|h|h|h|h|h|h<;>rw[h]
 .exact⟨0,by omega,rfl⟩
 .exact⟨1,by omega,rfl⟩
 .exact⟨0,by omega,rfl⟩
 .exact⟨2,by omega,rfl⟩
 .exact⟨1,by omega,rfl⟩
 .exact⟨3,by omega,rfl⟩
 .exact⟨0,by omega,rfl⟩
 .exact⟨4,by omega,rfl⟩
noncomputable def s1:St:=(.asg (.nm 1) (.ix (.lst (.cons KI (.cons KJ (.cons KI (.cons (KP 23) (Lc KJ (KP 27) KI KG)))))) (.bin .Mod KU KL)) ε)
noncomputable def s2:St:=(.asg (.nm 2) (.ix (.lst (.cons KH (Lc (KP 37) KA (KP 96) (KP 133)))) (.bin .FloorDiv (.bin .Sub KW KI) KN)) ε)
noncomputable def s3:St:=(.asg (.nm 3) (.ix (.lst (.cons Kv (Lc Kv Ku Ku Ky))) (.bin .FloorDiv (.bin .Sub KW KI) KN)) ε)
noncomputable def s4:St:=(.asg (.nm 4) (.bin .Mod (.bin .FloorDiv KU KL) KN) ε)
noncomputable def s5:bJ:=match Im with
 |.cons _ (.cons _ (.cons _ (.cons _ r)))=>r
 |_=>.nil
theorem GN:Im=.cons s1 (.cons s2 (.cons s3 (.cons s4 s5))):=rfl
noncomputable def lv (a b:Nat):Nat:=if a<3 then b else b%2
theorem Fc {a:Nat}(hb:b<4):lv a b<4/\(a<3\/lv a b<2):=by
 unfold lv;split<;>omega
noncomputable abbrev VT (a b:Nat):D:=.tup [m5 a,.int (b:Int),.lst (gD (CT a)),.int (C a b:Int)]
variable {n:Nat}
theorem tail (d:Int)(ha:a<5)(hb:b<4):Pc.ret (aE (T n) s5 [sI d,θ (m5 a,.own),sN (rm a),sN (nb a),sN b,η,η])=.ok (VT a (lv a b),ζ):=by
 rcases n5 ha with rfl|rfl|rfl|rfl|rfl<;>rcases n4 hb with rfl|rfl|rfl|rfl<;>kernel_rfl
theorem mid (d:Int)(ha:a<5):bC (T n) s2 [sI d,θ (m5 a,.own),η,η,η,η,η]=.nx [sI d,θ (m5 a,.own),sN (rm a),η,η,η,η]/\bC (T n) s3 [sI d,θ (m5 a,.own),sN (rm a),η,η,η,η]=.nx [sI d,θ (m5 a,.own),sN (rm a),sN (nb a),η,η,η]:=by
 rcases n5 ha with rfl|rfl|rfl|rfl|rfl<;>exact⟨by kernel_rfl,by kernel_rfl⟩
theorem WT (m:Nat)(d:Int):∃a b:Nat,a<5/\b<4/\(a<3\/b<2)/\(T (m+1)).cl 29 [.int d]=.ok (VT a b,ζ):=by
 obtain⟨a,ha,hx⟩:=ix8 d;obtain⟨b,hb,Mo⟩:∃b:Nat,b<4/\d / 8%4=(b:Int):=⟨(d / 8%4).toNat,by omega,by omega⟩;refine⟨a,lv a b,ha,(Fc hb).1,(Fc (a:=a) hb).2,?_⟩;rw[kW];rw[bE (F:=⟨1,7,Im⟩) rfl rfl];have Lu:aF [.int d] 7=[sI d,η,η,η,η,η,η]:=rfl;show Pc.ret (aE (T m) Im (aF [.int d] 7))=_;rw[Lu,GN];have tn:=aH;have q1:bC (T m) s1 [sI d,η,η,η,η,η,η]=.nx [sI d,θ (m5 a,.own),η,η,η,η,η]:=bI (d:=m5 a) (i:=1) (.cons (aC _) (.cons tn (.cons tn (.cons tn (.cons tn (.cons tn (.cons tn .nil))))))) (by simp) (SI (aG.ix ⟨_,rfl⟩ (aG.bin (z:=.int (d%8)) ⟨_,rfl⟩ (aG.cst _) rfl) hx) rfl);have q4:bC (T m) s4 [sI d,θ (m5 a,.own),sN (rm a),sN (nb a),η,η,η]=.nx [sI d,θ (m5 a,.own),sN (rm a),sN (nb a),sN b,η,η]:=by
  show _=Fl.nx [sI d,θ (m5 a,.own),sN (rm a),sN (nb a),θ (.int (b:Int),.own),η,η];rw[<-Mo];rfl
 exact K16.sq q1 (K16.sq (mid d ha).1 (K16.sq (mid d ha).2 (K16.sq q4 (tail d ha hb))))
theorem h32 (m:Nat)(ns:List Int)(c t:Nat)(hc:c<=62):∃w l:Nat,2*w+l<=c/\(T (m+2)).cl 32 [.lst (ns.map D.int),.int (c:Int),.int (t:Int)]=.ok (.tup [.int (w:Int),.int (l:Int)],ζ):=by
 have V0:Tv (aF [.lst (ns.map D.int),.int (c:Int),.int (t:Int)] 6) [θ (.lst (ns.map D.int),ε),θ (.int (c:Int),ε),θ (.int (t:Int),ε),η,η,η]:=Tv.start _ 6;obtain⟨v,hv⟩:=F8 m ns t;obtain⟨d,d0,hd⟩:=GI m v t;obtain⟨dr,rfl⟩:∃dr:Nat,d=(dr:Int):=⟨d.toNat,by omega⟩;obtain⟨e1,q1,V1⟩:=V0.asg (T:=T (m+1)) (i:=3) (show (3:Nat)<6 by decide) (dS (aG.of (dS (V0.var (i:=0) rfl) (V0.var (i:=2) rfl) hv)) (V0.var (i:=2) rfl) hd);have l0:dr / 5%(c+1)*(dr%2)<=c:=by
  have:dr / 5%(c+1)<c+1:=ip _ (jr c);rcases eh dr with h|h<;>rw[h]<;>omega
 obtain⟨e2,q2,V2⟩:=V1.asg (T:=T (m+1)) (i:=4) (show (4:Nat)<6 by decide) (qf (aG.bin (op:=.Mult) (K16.kz (jr c) (K16.kH 5 (by decide) (by decide) (V1.var (i:=3) rfl)) (K16.gX (V1.var (i:=1) rfl) (K16.lit 1))) (K16.kz (b:=2) (by decide) (V1.var (i:=3) rfl) (K16.lit 2)) (z:=.int ((dr / 5%(c+1)*(dr%2):Nat):Int)) (by
  have:dr / 5%(c+1)<c+1:=ip _ (jr c);rw[aS];show (Pc.binI .Mult ((dr / 5%(c+1):Nat):Int) ((dr%2:Nat):Int)).map D.int=_;rw[K16.jJ (pL (by omega) (by omega))];show θ (D.int _)=_;rw[ZV])) rfl)
 generalize dr / 5%(c+1)*(dr%2)=l at l0 V2 q2;obtain⟨e3,q3,V3⟩:=V2.asg (T:=T (m+1)) (i:=5) (show (5:Nat)<6 by decide) (qf (K16.kH 2 (by decide) (by decide) (K16.zM l0 (V2.var (i:=1) rfl) (V2.var (i:=4) rfl))) rfl);have c4:aG (T (m+1)) (.cmp .Eq (.bin .Mod (.bin .FloorDiv KS (KP 300)) Ku) Kw) e3 (.bl (((dr / 300%2:Nat):Int)==0)):=aG.cmp (K16.kz (b:=2) (by decide) (K16.kH 300 (by decide) (by decide) (V3.var (i:=3) rfl)) (K16.lit 2)) (aG.cst _) rfl;obtain⟨w,e4,q4,hw,V4⟩:∃w e4,bC (T (m+1)) (.ite (.cmp .Eq (.bin .Mod (.bin .FloorDiv KS (KP 300)) Ku) Kw) (.cons (.asg (.nm 5) (.bin .Mod (.bin .FloorDiv KS (KP 600)) (.bin .Add KY Kv)) ε) .nil) .nil) e3=.nx e4/\w<=(c-l) / 2/\Tv e4 [θ (.lst (ns.map D.int),ε),θ (.int (c:Int),ε),θ (.int (t:Int),ε),θ (.int (dr:Int),ζ),θ (.int (l:Int),ζ),θ (.int (w:Int),ζ)]:=by
  rw[kB c4];split
  .obtain⟨e,q,V⟩:=V3.asg (T:=T (m+1)) (i:=5) (show (5:Nat)<6 by decide) (qf (K16.kz (jr _) (K16.kH 600 (by decide) (by decide) (V3.var (i:=3) rfl)) (K16.gX (V3.var (i:=5) rfl) (K16.lit 1))) rfl);exact⟨_,e,Pc.Nw.mF q,Nat.le_of_lt_succ (ip _ (jr _)),V⟩
  .exact⟨_,e3,Pc.Nw.eX,au _,V3⟩
 refine⟨w,l,by omega,?_⟩;rw[kW,bE (F:=⟨3,6,Va⟩) rfl rfl];exact K16.sq q1 (K16.sq q2 (K16.sq q3 (K16.sq q4 (V4.OH (i:=5) (j:=4) (by decide) rfl rfl))))
theorem WS (n:Nat)(ns:List Int)(k:Nat):∃v:Int,∃fr,(T (n+2)).cl 34 [.lst (ns.map D.int),.int (k:Int)]=.ok (.int v,fr):=by
 have V0:Vw (aF [.lst (ns.map D.int),.int (k:Int)] 4) [θ (.lst (ns.map D.int)),nD k,η,η]:=Vw.start _ 4;obtain⟨c,hc⟩:=F8 n ns k;obtain⟨a,MK⟩:∃a:Int,kS .abs [.int c]=θ (.int a):=⟨_,rfl⟩;obtain⟨e1,q1,V1⟩:=V0.asg (T:=T (n+1)) (i:=2) (show (2:Nat)<4 by decide) (aG.LC (k:=.abs) (aG.cJ (V0.var (i:=0) rfl) (V0.var (i:=1) rfl) hc) MK);have V1:Vw e1 [θ (.lst (ns.map D.int)),nD k,θ (.int a),η]:=V1;obtain⟨z,hz⟩:∃z:Int,mR .Pow (.int 2) (.int 60)=θ (.int z):=⟨_,rfl⟩;have W9:aG (T (n+1)) (.cmp .Lt KR (.bin .Pow Ku (KP 60))) e1 (.bl (decide (a<z))):=aG.cmp (V1.var (i:=2) rfl) (aG.bin (aG.cst _) (aG.cst _) hz) rfl;obtain⟨e2,q2,⟨a2,v3,V2⟩⟩:=qd (t:=.nm 3) (R:=[]) (b:=aE (T (n+1)) (.cons (.asg (.nm 2) (.bin .Add (.bin .Mult KR (KP 536870912)) (.call 26 (La KR (.bin .Add KW KS)))) ε) .nil)) (λ_ env=>∃a v3,Vw env [θ (.lst (ns.map D.int)),nD k,θ (.int a),v3]) ((υ 12).map λ(k:Nat)=>D.int (k:Int)) 0 e1 ⟨a,η,V1⟩ (λi d e hd J=>by
  obtain⟨hi,rfl⟩:=r9 hd;obtain⟨a,v3,W⟩:=J;obtain⟨d1,b1,W1⟩:=W.bind (i:=3) (show (3:Nat)<4 by decide) [] (.int (i:Int));have W1:Vw d1 [θ (.lst (ns.map D.int)),nD k,θ (.int a),nD i]:=W1;obtain⟨m,hm0,hm⟩:=GI n a ((k:Int)+(i:Int));obtain⟨d2,b2,W2⟩:=W1.asg (T:=T (n+1)) (i:=2) (show (2:Nat)<4 by decide) (aG.bin (op:=.Add) (aG.bin (op:=.Mult) (W1.var (i:=2) rfl) (aG.cst (.int 536870912)) (K16.Ed a)) (aG.cJ (W1.var (i:=2) rfl) (aG.bin (op:=.Add) (W1.var (i:=1) rfl) (W1.var (i:=3) rfl) (z:=.int ((k:Int)+(i:Int))) rfl) hm) (z:=.int (a*536870912+m)) rfl);refine⟨d1,d2,b1,.inl ?_,a*536870912+m,nD i,W2⟩;rw[aE,b2,aD];rfl)
 have hit:fU (T (n+1)) (.Lm (KP 12)) e1=.ok ((υ 12).map λ(k:Nat)=>D.int (k:Int),[]):=rM (n:=12) (aG.cst _) (by decide);have q2':=cP hit q2;rw[kW];by_cases hh:a<z
 .obtain⟨fr,h⟩:=B0 (V2.var (T:=T (n+1)) (i:=2) rfl);refine⟨a2,fr,?_⟩;rw[bE (F:=⟨2,4,EA⟩) rfl rfl];show Pc.ret (aE (T (n+1)) EA _)=_;unfold EA;rw[aE,q1,aD,aE,kB W9,cm hh];simp only[if_true];rw[aE,q2',aD,aE,aD];exact h
 .obtain⟨fr,h⟩:=B0 (V1.var (T:=T (n+1)) (i:=2) rfl);refine⟨a,fr,?_⟩;rw[bE (F:=⟨2,4,EA⟩) rfl rfl];show Pc.ret (aE (T (n+1)) EA _)=_;unfold EA;rw[aE,q1,aD,aE,kB W9,bh hh];simp only[a8,if_false];rw[aE,aD];exact h
theorem h35 (m:Nat)(x:Int){n c:Nat}(hn:0<n)(LZ:n<=63)(hc:c<=62):∃ts,K16.BI n c ts/\(T (m+1)).cl 35 [.int x,.int (n:Int),.int (c:Int)]=.ok (.Lx (K16.kP ts),ζ):=by
 have Lu:aF [.int x,.int (n:Int),.int (c:Int)] 8=[sI x,sN n,sN c,η,η,η,η,η]:=rfl;have tn:=aH;have s1:bC (T m) (.asg (.nm 3) .MO ε) [sI x,sN n,sN c,η,η,η,η,η]=.nx [sI x,sN n,sN c,θ (.Lx [],.own),η,η,η,η]:=bI (.cons (aC _) (.cons (aC _) (.cons (aC _) (.cons tn (.cons tn (.cons tn (.cons tn (.cons tn .nil)))))))) (by simp) (by rw[ev]);have s2:bC (T m) (.asg (.nm 4) Kw ε) [sI x,sN n,sN c,θ (.Lx [],.own),η,η,η,η]=.nx (K16.EB x n c [] η η η):=bI (.cons (aC _) (.cons (aC _) (.cons (aC _) (.cons (aC _) (.cons tn (.cons tn (.cons tn (.cons tn .nil)))))))) (by simp) rfl;obtain⟨e,q,⟨x',ts,o5,o6,o7,t5,t6,t7,inv,rfl⟩⟩:=qd (t:=.nm 5) (R:=[]) (b:=aE (T m) K16.Ao) (λk env=>∃x ts o5 o6 o7,cH o5/\cH o6/\cH o7/\K16.BI n c ts/\env=K16.EB x n c ts o5 o6 o7) ((υ c).map λ(k:Nat)=>D.int (k:Int)) 0 (K16.EB x n c [] η η η) ⟨x,[],η,η,η,tn,tn,tn,⟨bj,λt ht=>(nomatch ht),dn _⟩,rfl⟩ (λi d e hd J=>by
  obtain⟨hi,rfl⟩:=r9 hd;obtain⟨x,ts,o5,o6,o7,t5,t6,t7,inv,rfl⟩:=J;obtain⟨x',Od,QT,M8,t6',RK,OS,b1,b2⟩:=K16.zI (T m) (k:=i) hn LZ hc inv t5 t6 t7;exact⟨_,_,b1,.inl b2,x',Od,sN i,QT,M8,aC _,t6',RK,OS,rfl⟩)
 have hit:fU (T m) (.Lm KR) (K16.EB x n c [] η η η)=.ok ((υ c).map λ(k:Nat)=>D.int (k:Int),[]):=rM ⟨_,(aJ rfl rfl:ev (T m) KR (K16.EB x n c [] η η η)=.ok (.int (c:Int),.mv []))⟩ (by omega);have q':=cP hit q;refine⟨ts,inv,?_⟩;rw[kW,bE (F:=⟨3,8,U8⟩) rfl rfl,Lu];show Pc.ret (aE (T m) (.cons (.asg (.nm 3) .MO ε) (.cons (.asg (.nm 4) Kw ε) (.cons (.Li (.nm 5) (.Lm KR) K16.Ao) (.cons (.ret KS) .nil)))) _)=_;rw[aE,s1,aD,aE,s2,aD,aE,q',aD];rw[K16.Ez (i:=3) (d:=.Lx (K16.kP ts)) rfl rfl]
open K16 (Tr BI qc cost gY kP jB)
noncomputable def ft (a j:Nat)(t:Tr):Tr:=(pos a j t.1,t.2.1,t.2.2)
noncomputable def FT (a:Nat)(TS:List (List Tr)):List Tr:=(TS.zipIdx.map λq=>q.1.map (ft a q.2)).flatten
noncomputable def cn (w:Nat)(ts:List Tr):Nat:=(ts.filter λt=>t.2.1==w).length
noncomputable def ms (S:List Tr):List Nat:=(S.filter λt=>t.2.1==2).map (·.1)
theorem rT (a:Nat)(TS:List (List Tr))(ts:List Tr):FT a (TS ++ [ts])=FT a TS++ts.map (ft a TS.length):=by
 unfold FT;rw[List.zipIdx_append,bq,List.flatten_append];simp
variable {TS:List (List Tr)}
theorem wg {a:Nat}{s:Tr}(h:s∈FT a TS):∃j ts t,TS[j]? = θ ts/\t∈ts/\s=ft a j t:=by
 unfold FT at h;obtain⟨l,hl,hs⟩:=XW.mp h;obtain⟨q,hq,rfl⟩:=χ.mp hl;obtain⟨t,ht,rfl⟩:=χ.mp hs;exact⟨q.2,q.1,t,X4.mp hq,ht,rfl⟩
variable {t:Tr}{ts:List Tr}
theorem E4 {a j:Nat}(h:TS[j]? = θ ts)(ht:t∈ts):ft a j t∈FT a TS :=
 XW.mpr ⟨_,χ.mpr ⟨(ts,j),X4.mpr h,rfl⟩,χ.mpr ⟨t,ht,rfl⟩⟩
def Bd (a c:Nat)(TS:List (List Tr)):Prop:=∀j ts,TS[j]? = θ ts->j<nb a/\BI ((CT a).getD j 0) c ts
variable {c:Nat}
theorem Bd.snoc {a:Nat}(h:Bd a c TS)(hl:TS.length<nb a)(hb:BI ((CT a).getD TS.length 0) c ts):Bd a c (TS ++ [ts]):=λj u e=>by
 rw[List.getElem?_append] at e;split at e
 .exact h j u e
 .rename_i hn;have hj:j-TS.length=0:=by
   have:=(ο.mp e).1;simp at this;omega
  have Qn:j=TS.length:=by omega
  rw[hj] at e;cases e;rw[Qn];exact⟨hl,hb⟩
theorem step {row l:List Nat}{S:List Tr}{t:Tr}{z:Nat}(i:qc row S l)(pl:t.1<l.length)(np:t.1∉S.map (·.1))(hz:z<64)(Mm:t.2.1=1->z≠row.getD t.1 0):qc row (S ++ [t]) (l.set t.1 z):=by
 refine⟨CI i.gr hz,by rw[ak,i.len],λu hu hw=>?_,λp hp=>?_⟩
 .rcases il.mp hu with h|h
  .have:u.1≠t.1:=λe=>np (by rw[<-e];exact SZ h)
   rw[rB this];exact i.ne u h hw
  .rw[gu.mp h] at hw ⊢;rw[zm pl];exact Mm hw
 .rw[bq,il,not_or] at hp;have h1:p≠t.1:=λe=>hp.2 (by rw[e];simp)
  rw[rB h1];exact i.eq p hp.1
theorem fresh {a:Nat}(ha:a<5)(h:Bd a c TS)(hl:TS.length<nb a)(hb:BI ((CT a).getD TS.length 0) c ts){k:Nat}(ht:ts[k]? = θ t):pos a TS.length t.1∉(FT a TS++(ts.take k).map (ft a TS.length)).map (·.1):=λhm=>by
 have tm:=Α ht;have t1:=(hb.ok t tm).1;rw[bq,il] at hm;rcases hm with hm|hm
 .obtain⟨s,hs,e⟩:=χ.mp hm;obtain⟨j,us,u,h1,h2,rfl⟩:=wg hs;obtain⟨j1,j2⟩:=h j us h1;have:=(n9 ha j1 (j2.ok u h2).1 hl t1 e).1;have:=(ο.mp h1).1;omega
 .rw[aw] at hm;obtain⟨u,hu,e⟩:=χ.mp hm;have um:=i9 hu;have e:=(n9 ha hl (hb.ok u um).1 hl t1 e).2;obtain⟨j,hj,e'⟩:=Pi.mp hu;rw[List.getElem_take] at e';have M4:j<k:=by rw[dk] at hj;omega
  obtain⟨hk,ek⟩:=ο.mp ht;have:=Yi.mp hb.nd j k (by rw[ai];omega) (by rw[ai];exact hk) M4;rw[dm,dm,e',ek] at this;exact this e
theorem xo {a b:Nat}{dt:List Nat}(ha:a<5){j k:Nat}(hj:j<nb a)(hk:k<(CT a).getD j 0):(wrap a b dt).getD (pos a j k) 0=(row a b dt j).getD k 0:=by
 have h:=(m6 ha hj hk).1;unfold wrap;rw[ι,π,Ψ h];show wv a _ _=_;rw[Bj ha _ hj hk];congr 1;unfold rows;rw[ι,π,Ψ hj];rfl
theorem cases {a b:Nat}{dt sp:List Nat}(ha:a<5)(hb:b<4)(hl:dt.length=(DU a b).sum)(hd:Gr dt)(hB:Bd a (C a b) TS)(hT:TS.length=nb a)(i:qc (wrap a b dt) (FT a TS) sp){j:Nat}(hj:TS[j]? = θ ts) :
  K16.Case (C a b) (row a b dt j) (xR a (λp=>sp.getD p 0) j) (cO (gY ts 1)) (ud a (cO (ms (FT a TS))) j)/\(cO (gY ts 1)).length=cn 1 ts/\(ud a (cO (ms (FT a TS))) j).length=cn 2 ts:=by
 obtain⟨M4,L0⟩:=hB j ts hj;have pl:=ky ha hb hl M4;obtain⟨r1,r2,r3⟩:=oC (a:=a) (b:=b) hd j;have lr:(row a b dt j).length=(CT a).getD j 0:=by rw[r3,pl.2,(pb ha hb M4).1]
 have lb:(xR a (λp=>sp.getD p 0) j).length=(CT a).getD j 0:=by unfold xR;simp
 have Xh:∀k,k<(CT a).getD j 0->(xR a (λp=>sp.getD p 0) j).getD k 0=sp.getD (pos a j k) 0:=λk hk=>by
  unfold xR;rw[ι,π,Ψ hk];rfl
 have k:qc (row a b dt j) ts (xR a (λp=>sp.getD p 0) j):=by
  refine⟨λg hg=>?_,by rw[lb,lr],λt ht hw=>?_,λp hp=>?_⟩
  .obtain⟨q,_,rfl⟩:=χ.mp hg;exact dN i.gr _
  .have t1:=(L0.ok t ht).1;rw[Xh _ t1,<-xo ha M4 t1];exact i.ne (ft a j t) (E4 hj ht) hw
  .by_cases hk:p<(CT a).getD j 0
   .rw[Xh _ hk,<-xo ha M4 hk];refine i.eq _ λhm=>hp ?_
    obtain⟨s,hs,e⟩:=χ.mp hm;obtain⟨j2,us,u,h1,h2,rfl⟩:=wg hs;obtain⟨g1,g2⟩:=hB j2 us h1;obtain⟨rfl,rfl⟩:=n9 ha g1 (g2.ok u h2).1 M4 hk e;rw[hj] at h1;cases h1;exact SZ h2
   .rw[ι,nw (by omega),ι,nw (by omega)]
 have TH:BI (row a b dt j).length (C a b) ts:=by rw[lr];exact L0
 have f:=fact ha hb;have l48:=(pb ha hb M4).2;have cs:=K16.uz TH k f.2.2.2.2.1 r1 (by omega) r2;have em:ud a (cO (ms (FT a TS))) j=cO (gY ts 2):=by
  refine vo ((qX _).filter _) (nr (K16.kX L0.nd 2)) λp=>?_
  rw[(dW _).mem_iff,K16.mj L0.nd];unfold ud;rw[gx,na,AC,(dW _).mem_iff];unfold ms;rw[χ];constructor
  .rintro⟨hp,s,hs,e⟩;obtain⟨SX,Pm⟩:=gx.mp hs;obtain⟨j2,us,u,h1,h2,rfl⟩:=wg SX;obtain⟨g1,g2⟩:=hB j2 us h1;obtain⟨rfl,rfl⟩:=n9 ha g1 (g2.ok u h2).1 M4 hp e;rw[hj] at h1;cases h1;exact⟨u,h2,rfl,beq_iff_eq.mp Pm⟩
  .rintro⟨t,ht,rfl,e⟩;exact⟨(L0.ok t ht).1,ft a j t,gx.mpr ⟨E4 hj ht,beq_iff_eq.mpr e⟩,rfl⟩
 have cw:∀w,(cO (gY ts w)).length=cn w ts:=λw=>by rw[(dW _).length_eq,K16.nX L0.nd,ai];rfl
 rw[em];exact⟨cs,cw 1,cw 2⟩
theorem rL (S T:List Tr):ms (S++T)=ms S++ms T:=by unfold ms;rw[List.filter_append,bq]
theorem wC {a n:Nat}(h:(ms (FT a TS)).length<=c*TS.length)(hb:BI n c ts):(ms (FT a (TS ++ [ts]))).length<=c*(TS ++ [ts]).length:=by
 have h2:(ms (ts.map (ft a TS.length))).length<=ts.length:=by
  unfold ms;rw[ai];exact cu (g9 _ _) (by simp)
 have h3:=hb.len;rw[rT,rL,az,az,i4,Nat.mul_add];omega
open K16 (Tr BI qc cost gY kP jB)
theorem zK {a:Nat}(ha:a<5){j k:Nat}(hj:j<nb a)(hk:k<(CT a).getD j 0):yd .LG (.lst (QP (SP a))) [.tup [.int (j:Int),.int (k:Int)]]=θ (.int (pos a j k:Int)):=by
 have h:=aX (aX (aX SN a ha) j hj) k hk;split at h
 .rename_i i e;rw[e,bt h]
 .cases h
noncomputable abbrev tD (ts:List Tr):D:=bD (cn 1 ts,cn 2 ts)
theorem Cb (w:Nat):∀ts:List Tr,uq (w:Int) (gD (ts.map (·.2.1)))=θ (cn w ts)
 |[]=>rfl
 |t::ts=>by
  show (uq (w:Int) (gD (ts.map (·.2.1)))).map (λc=>if ((t.2.1:Int)==(w:Int))=ζ then c+1 else c)=_;rw[Cb w ts];unfold cn;rw[i8];by_cases h:t.2.1=w
  .rw[if_pos (show (t.2.1==w)=ζ from beq_iff_eq.mpr h)];exact fm θ (if_pos (by rw[h];exact fw _))
  .rw[if_neg (show ¬ (t.2.1==w)=ζ from λz=>h (beq_iff_eq.mp z))];exact fm θ (if_neg λz=>h (č (beq_iff_eq.mp z)))
noncomputable def d1:Ex:=.call 35 (Lb (.ix KU K1) (.ix KR K1) KS)
noncomputable def dL:bJ:=(.cons (.asg (.nm 11) (.NQ .LG KY (K9 (.tup (La K1 K2)))) ε)
  (.cons (.asg (.tp [12,13]) (.ix K6 K2) ε)
  (.cons (.Lv 6 .none K4 (.ix (.lst (La (.bin .BitXor (.ix KZ K4) (.bin .Add Kv (.bin .Mod K5 KD))) K5)) (.bin .Sub K3 Kv)))
  (.cons (.ite (.cmp .Eq K3 Ku) (.cons (.mut 7 .none .append (K9 K4))
  .nil) .nil)
  .nil))))
noncomputable def d3:Ex:=.comp 1 [9] (.nm 0) (.seq K6) .none (.ix (.ix KW KU) Kw)
noncomputable def dB:bJ:=.cons (.asg (.nm 9) d1 ε) (.cons (.NI 9 (.Li (.nm 10) (.seq K6) dL)) (.cons (.asg (.nm 14) d3 ε) .nil))
noncomputable def dA:Ex:=.tup (La (.NQ .LP K7 (K9 Kv)) (.NQ .LP K7 (K9 Ku)))
variable {env:En}{Me:Option (D×Bool)}
section
variable {a b:Nat}{dt:List Nat}{cs:List Int}{Ln:List D}
noncomputable abbrev VD (a b:Nat)(dt:List Nat)(cs:List Int)(Ln:List D)(sp M:List Nat)(r:List (Option (D×Bool))):List (Option (D×Bool)):=θ (.lst (cs.map D.int),ε)::θ (.lst (gD (wrap a b dt)),ε)::θ (.lst (gD (CT a)),ε)::θ (.int (C a b:Nat),ε)::θ (.lst Ln,ε)::θ (.lst (QP (SP a)),ζ)::θ (.lst (gD sp),ζ)::θ (.lst (gD M),ζ)::r
theorem kh:(wrap a b dt).length=rm a:=by unfold wrap;simp
theorem SM (T:Tb)(ha:a<5)(hb:b<4)(hB:Bd a (C a b) TS)(hl:TS.length<nb a)(L0:BI ((CT a).getD TS.length 0) (C a b) ts){k:Nat}(ht:ts[k]? = θ t){sp:List Nat}(i:qc (wrap a b dt) (FT a TS++(ts.take k).map (ft a TS.length)) sp){v10 v11 L7 LW:Option (D×Bool)}(hM:(ms (FT a TS++(ts.take k).map (ft a TS.length))).length<1000)
  (V:jA 4 (.lst Ln) env (VD a b dt cs Ln sp (ms (FT a TS++(ts.take k).map (ft a TS.length))) [θ (.int (TS.length:Int),ζ),θ (.LJ (kP ts),ζ),v10,v11,L7,LW,Me])) :
  ∃Mj e1 e2 Nk Nj Ni Nh,qc (wrap a b dt) (FT a TS++(ts.take (k+1)).map (ft a TS.length)) Mj/\be [] (.nm 10) (.int (t.1:Int)) env=θ e1/\aE T dL e1=.nx e2/\jA 4 (.lst Ln) e2 (VD a b dt cs Ln Mj (ms (FT a TS++(ts.take (k+1)).map (ft a TS.length))) [θ (.int (TS.length:Int),ζ),θ (.LJ (kP ts),ζ),Nk,Nj,Ni,Nh,Me]):=by
 have tm:=Α ht;obtain⟨o1,o2,o3⟩:=L0.ok t tm;have Oh:rm a<=133:=by rcases n5 ha with rfl|rfl|rfl|rfl|rfl<;>decide
 have pl:pos a TS.length t.1<sp.length:=by rw[i.len,kh];exact (m6 ha hl o1).1
 have np:=fresh ha hB hl L0 ht;have eS:FT a TS++(ts.take (k+1)).map (ft a TS.length)=(FT a TS++(ts.take k).map (ft a TS.length)) ++ [ft a TS.length t]:=by
  rw[ZW,ht,bq,ef];rfl
 generalize FT a TS++(ts.take k).map (ft a TS.length)=S at *;obtain⟨e1,q1,V1⟩:=V.Oy (i:=10) (show (10:Nat)<15 by decide) (by decide) (t.1:Int);obtain⟨e2,q2,V2⟩:=V1.asg (T:=T) (i:=11) (show (11:Nat)<15 by decide) (by decide) (G6 (V1.tv.var (i:=5) rfl) (aG.OB (V1.tv.var (i:=8) rfl) (V1.tv.var (i:=10) rfl)) (zK ha hl o1) rfl);obtain⟨e3,q3,V3⟩:=V2.QF (T:=T) (i:=12) (j:=13) (show (12:Nat)<15 by decide) (show (13:Nat)<15 by decide) (by decide) (by decide) (SI (aG.ix (V2.tv.var (i:=9) rfl) (V2.tv.var (i:=10) rfl) (K16.E5 L0.nd tm)) rfl);have x1:aG T (.bin .Add Kv (.bin .Mod K5 KD)) e3 (.int ((1+t.2.2%63:Nat):Int)):=K16.gX (K16.lit 1) (K16.kz (b:=63) (by decide) (V3.tv.var (i:=13) rfl) (K16.lit 63));have x2:aG T (.bin .BitXor (.ix KZ K4) (.bin .Add Kv (.bin .Mod K5 KD))) e3 (.int ((sp.getD (pos a TS.length t.1) 0^^^(1+t.2.2%63):Nat):Int)):=aG.xor (aG.ix (V3.tv.var (i:=6) rfl) (V3.tv.var (i:=11) rfl) (mX pl)) x1;have x3:aG T (.bin .Sub K3 Kv) e3 (.int ((t.2.1-1:Nat):Int)):=K16.zM (by omega) (V3.tv.var (i:=12) rfl) (K16.lit 1);have gl:sp.getD (pos a TS.length t.1) 0<64:=dN i.gr _;obtain⟨z,hz,Mm,ez⟩:∃z:Nat,z<64/\(t.2.1=1->z≠(wrap a b dt).getD (pos a TS.length t.1) 0)/\aG T (.ix (.lst (La (.bin .BitXor (.ix KZ K4) (.bin .Add Kv (.bin .Mod K5 KD))) K5)) (.bin .Sub K3 Kv)) e3 (.int (z:Int)):=by
  rcases o2 with w|w
  .refine⟨sp.getD (pos a TS.length t.1) 0^^^(1+t.2.2%63),aZ gl (by omega),λ_=>?_,aG.ix (aG.M2 x2 (V3.tv.var (i:=13) rfl)) x3 (by rw[w];rfl)⟩;rw[<-i.eq _ np];exact BQ (by omega)
  .exact⟨t.2.2,o3,λh=>by omega,aG.ix (aG.M2 x2 (V3.tv.var (i:=13) rfl)) x3 (by rw[w];rfl)⟩
 obtain⟨e4,q4,V4⟩:=V3.OE (T:=T) (x:=6) (by decide) rfl (V3.tv.var (i:=11) rfl) pl (by rw[i.len,kh];omega) (SI ez rfl);have c5:aG T (.cmp .Eq K3 Ku) e4 (.bl ((t.2.1:Int)==2)):=aG.cmp (V4.tv.var (i:=12) rfl) (aG.cst _) rfl;have st:=step (t:=ft a TS.length t) i pl np hz Mm;obtain⟨e5,q5,V5⟩:∃e5,bC T (.ite (.cmp .Eq K3 Ku) (.cons (.mut 7 .none .append (K9 K4)) .nil) .nil) e4=.nx e5/\jA 4 (.lst Ln) e5 (VD a b dt cs Ln (sp.set (pos a TS.length t.1) z) (ms (S ++ [ft a TS.length t])) [θ (.int (TS.length:Int),ζ),θ (.LJ (kP ts),ζ),θ (.int (t.1:Int),ζ),θ (.int (pos a TS.length t.1:Int),ζ),θ (.int (t.2.1:Int),ζ),θ (.int (t.2.2:Int),ζ),Me]):=by
  rw[kB c5,rL];rcases o2 with w|w
  .rw[w];refine⟨e4,by rw[if_neg (by decide)];exact Pc.Nw.eX,?_⟩;have:ms [ft a TS.length t]=[]:=by unfold ms ft;rw[iw (by rw[w];decide)];rfl
   rw[this,bc,<-w];exact V4
  .rw[w];obtain⟨e5,q,V5⟩:=V4.app (T:=T) (x:=7) (by decide) rfl (u4 (V4.tv.var (i:=11) rfl) rfl) (by rw[aY];exact hM);refine⟨e5,by rw[if_pos (by decide)];exact Pc.Nw.mF q,?_⟩;have:ms [ft a TS.length t]=[pos a TS.length t.1]:=by unfold ms ft;rw[iu (by rw[w];decide)];rfl
   rw[this,VD,eC,<-w];exact V5
 refine⟨_,e1,e5,_,_,_,_,by rw[eS];exact st,q1,?_,by rw[eS];exact V5⟩;unfold dL;rw[aE,q2,aD,aE,q3,aD,aE,q4,aD,aE,q5,aD];rfl
end
open K16 (Tr BI qc cost gY kP jB)
theorem kg:∀TS:List (List Tr),D.Lh (TS.map tD)=ζ
 |[]=>rfl
 |_::TS=>kg TS
theorem EJ (S l:List Tr):(ms (S++l)).length<=(ms S).length+l.length:=by
 rw[rL,az];unfold ms;rw[ai (as:=l.filter _)];have:=g9 (λt:Tr=>t.2.1==2) l;omega
structure CU (a b:Nat)(dt:List Nat)(TS:List (List Tr))(sp:List Nat):Prop where
 bd:Bd a (C a b) TS
 Qx:(ms (FT a TS)).length<=C a b*TS.length
 sk:qc (wrap a b dt) (FT a TS) sp
section
variable {a b:Nat}{dt:List Nat}{cs:List Int}
def JD (a b:Nat)(dt:List Nat)(cs:List Int)(k:Nat)(xs:List D)(e:En):Prop:=∃TS sp v8 v9 v10 v11 L7 LW Me,TS.length=k/\xs=TS.map tD/\CU a b dt TS sp/\jA 4 (.lst xs) e (VD a b dt cs xs sp (ms (FT a TS)) [v8,v9,v10,v11,L7,LW,Me])
theorem HY (m:Nat)(ha:a<5)(hb:b<4)(WK:cs.length=3)(k:Nat)(xs:List D)(e:En)(hk:k<nb a)(J:JD a b dt cs k xs e):8<e.length/\∃e2 ys zs,aE (T (m+1)) dB (put e 8 (.int (k:Int)) .own)=.nx e2/\e2[4]? = θ (θ (.lst ys,.lk))/\bC (T (m+1)) (.mut 4 .none .append (.cons dA .nil)) (e2.set 4 (θ (.lst ys,.own)))=.nx (e2.set 4 (θ (.lst zs,.own)))/\D.Lh zs=ζ/\JD a b dt cs (k+1) zs (e2.set 4 (θ (.lst zs,.lk))):=by
 obtain⟨TS,sp,v8,v9,v10,v11,L7,LW,Me,rfl,rfl,I,V⟩:=J;obtain⟨f1,f2,f3,f4,f5,f6,_⟩:=fact ha hb;have ct:=pb ha hb hk;have l3:C a b*TS.length<=26*3:=à f5 (by omega);refine⟨by rw[V.tv.len];exact (by decide:(8:Nat)<15),?_⟩;rw[bT V.tv.tm];have V1:=V.own (i:=8) (by decide) (.int (TS.length:Int));generalize e.set 8 (θ (.int (TS.length:Int),.own))=e1 at V1;obtain⟨x,hx⟩:∃x,cs[TS.length]? = θ x:=⟨_,τ (by omega)⟩;have y0:aG (T (m+1)) (.ix KU K1) e1 (.int x):=aG.ix (V1.tv.var (i:=0) rfl) (V1.tv.var (i:=8) rfl) (by
  show (Pc.kQ _ (TS.length:Int)).bind _=_;rw[ai,hZ (by omega)];show (cs.map D.int)[TS.length]? = _;rw[π,hx];rfl)
 have y2:aG (T (m+1)) (.ix KR K1) e1 (.int ((CT a).getD TS.length 0:Nat)):=aG.ix (V1.tv.var (i:=2) rfl) (V1.tv.var (i:=8) rfl) (mX (by omega));obtain⟨ts,L0,TR⟩:=h35 m x (n:=(CT a).getD TS.length 0) (c:=C a b) (by omega) (by omega) (by omega);obtain⟨e2,q2,V2⟩:=V1.asg (T:=T (m+1)) (i:=9) (show (9:Nat)<15 by decide) (by decide) (mV y0 y2 (V1.tv.var (i:=3) rfl) TR);have V3:=V2.L4 (x:=9) (by decide) (ks:=kP ts) rfl;have key:∀{env:En}{vs:List (Option (D×Bool))},Tv env vs->vs[9]? = θ (θ (.LJ (kP ts),ζ))->fU (T (m+1)) (.seq K6) env=.ok (ts.map λt=>D.int (t.1:Int),[]):=λV h=>by
  rw[fU,u4 (V.var (i:=9) h) rfl,aB];show (Rs.ok ((kP ts).map λq=>D.int q.1)).bind _=_;rw[aB,K16.DA];unfold gD jB;rw[aw];rfl
 have PY:=L0.len;obtain⟨e4,q4,Mj,Nk,Nj,Ni,Nh,st,V4⟩:=qd (t:=.nm 10) (R:=[]) (b:=aE (T (m+1)) dL) (λi env=>∃sp v10 v11 L7 LW,qc (wrap a b dt) (FT a TS++(ts.take i).map (ft a TS.length)) sp/\jA 4 (.lst (TS.map tD)) env (VD a b dt cs (TS.map tD) sp (ms (FT a TS++(ts.take i).map (ft a TS.length))) [θ (.int (TS.length:Int),ζ),θ (.LJ (kP ts),ζ),v10,v11,L7,LW,Me])) (ts.map λt=>D.int (t.1:Int)) 0 (tq e2 9) ⟨sp,v10,v11,L7,LW,by simpa using I.sk,by simpa using V3⟩ (λi d e hd ⟨sp,v10,v11,L7,LW,sk,V⟩=>by
  rw[en] at sk V ⊢;rw[π] at hd;cases ht:ts[i]? with
  |none=>rw[ht] at hd;cases hd
  |some t=>
   rw[ht] at hd;cases hd;have hM:(ms (FT a TS++(ts.take i).map (ft a TS.length))).length<1000:=by
    have h1:=EJ (FT a TS) ((ts.take i).map (ft a TS.length));have h2:=I.Qx;rw[ai,dk] at h1;omega
   obtain⟨Mj,e1,e2,Nk,Nj,Ni,Nh,s1,b1,b2,W⟩:=SM (T (m+1)) ha hb I.bd hk L0 ht sk hM V;exact⟨e1,e2,b1,.inl b2,Mj,Nk,Nj,Ni,Nh,s1,W⟩)
 have q4:=cP (key V3.tv rfl) q4;rw[en,ai,ji,<-rT] at st V4;have pk:∀(j:Nat) (d:D),[θ (D.LJ (kP ts))][j]? = θ (θ d)->∃i,[9][j]? = θ i/\((VD a b dt cs (TS.map tD) Mj (ms (FT a (TS ++ [ts]))) [θ (.int (TS.length:Int),ζ),θ (.LJ (kP ts),ζ),Nk,Nj,Ni,Nh,Me]).map λo=>o.map (·.1))[i]? = θ (θ d):=λj d e=>by
  cases j with
  |zero=>exact⟨9,rfl,e⟩
  |succ j=>cases e
 have c5:=tG (T:=T (m+1)) (env:=e4) (own:=1) (pick:=[9]) (t:=.nm 0) (c:=.none) (e:=.ix (.ix KW KU) Kw) (r:=λt:Tr=>.int (t.2.1:Int)) (k:=λ_=>ζ) (key V4.tv rfl) (by omega) (λt ht=>by
  obtain⟨h0,W⟩:=V4.tv.vw.picked (pick:=[9]) (ws:=[θ (D.LJ (kP ts))]) pk rfl (.int (t.1:Int));refine⟨_,?_,rfl,aG.ix (aG.ix (W.var (i:=1) rfl) (W.var (i:=0) rfl) (K16.E5 L0.nd ht)) (aG.cst _) rfl,rfl⟩;show (if 0<(aO e4 1 [9]).length then θ (put (aO e4 1 [9]) 0 (.int (t.1:Int)) .own) else η)=_;rw[if_pos h0])
 rw[filter_tt] at c5;have ew:ts.map (λt:Tr=>D.int (t.2.1:Int))=gD (ts.map (·.2.1)):=by unfold gD;rw[aw];rfl
 rw[ew] at c5;obtain⟨e5,q5,V5⟩:=V4.asg (T:=T (m+1)) (i:=14) (show (14:Nat)<15 by decide) (by decide) c5;have U:=V5.tv.set 4 (.lst (TS.map tD)) .own ζ (aC _) λ_=>rfl
 have w:∀w:Nat,ev (T (m+1)) (.NQ .LP K7 (K9 (.cst (.int (w:Int))))) (e5.set 4 (θ (.lst (TS.map tD),.own)))=.ok (.int (cn w ts:Int),.mv []):=λw=>G6 (U.var (i:=14) rfl) (aG.cst _) (by
  show (uq (w:Int) (gD (ts.map (·.2.1)))).map _=_;rw[Cb];rfl) rfl
 obtain⟨g1,g2⟩:=V5.grow (T:=T (m+1)) (e:=dA) (z:=tD ts) (by rw[ai];omega) (HQ (w 1) (w 2));have eT:TS.map tD ++ [tD ts]=(TS ++ [ts]).map tD:=by rw[bq];rfl
 rw[eT] at g1 g2;refine⟨e5,TS.map tD,(TS ++ [ts]).map tD,?_,V5.lk,g1,kg _,TS ++ [ts],Mj,_,_,_,_,_,_,_,by simp,rfl,⟨I.bd.snoc hk L0,wC I.Qx L0,st⟩,g2⟩;unfold dB;rw[aE,show (St.asg (.nm 9) d1 ε)=St.asg (.nm 9) (.call 35 (Lb (.ix KU K1) (.ix KR K1) KS)) ε from rfl,q2,aD,aE,bC,q4,aD,aE,show (St.asg (.nm 14) d3 ε)=St.asg (.nm 14) (.comp 1 [9] (.nm 0) (.seq K6) .none (.ix (.ix KW KU) Kw)) ε from rfl,q5,aD];rfl
end
open K16 (Tr BI qc cost gY kP jB)
theorem RY:allB 27 (λn=>allB n λr=>allB (n+1) λl=>decide (((υ n).filter λk=>decide ((k+r)%n<l)).length=l))=ζ:=by decide +kernel
theorem rot {n l:Nat}(s:Nat)(hn:n<=26)(hl:l<=n):((υ n).filter λk=>decide ((k+s)%n<l)).length=l:=by
 rcases Zp n with rfl|h0
 .have:l=0:=by omega
  subst this;rfl
 .have h:=bt (aX (aX (aX RY n (by omega)) (s%n) (ip _ h0)) l (by omega));have e:(λk=>decide ((k+s)%n<l))=λk=>decide ((k+s%n)%n<l):=by
   funext k;rw[Nat.add_mod_mod]
  rw[e];exact h
noncomputable def dw (ps:List Nat)(s l:Nat):List Tr:=(υ ps.length).map λk=>(ps.getD k 0,if (k+s)%ps.length<l then 2 else 1,0)
theorem Jk {ps:List Nat}{s l k:Nat}(h:k<ps.length):(dw ps s l)[k]? = θ (ps.getD k 0,if (k+s)%ps.length<l then 2 else 1,0):=by
 unfold dw;rw[π,Ψ h];rfl
variable {l w:Nat}
theorem IH {ps:List Nat}{n:Nat}(s:Nat)(hp:ps.Pairwise (· < ·))(hl:ps.length=w+l)(lt:∀p∈ps,p<n)(hc:2*w+l<=c)(NF:c<=26):BI n c (dw ps s l)/\cn 1 (dw ps s l)=w/\cn 2 (dw ps s l)=l:=by
 have e1:(dw ps s l).map (·.1)=ps:=by
  unfold dw;rw[aw];exact (oo ps).symm
 have hw:∀t∈dw ps s l,t.1<n/\(t.2.1=1\/t.2.1=2)/\t.2.2<64:=λt ht=>by
  obtain⟨k,hk,rfl⟩:=χ.mp ht;refine⟨lt _ (mem_getD (na.mp hk)),?_,by show 0<64;omega⟩;show (if _ then 2 else 1)=1\/(if _ then 2 else 1)=2;split
  .exact .inr rfl
  .exact .inl rfl
 have c2:cn 2 (dw ps s l)=l:=by
  unfold cn dw;rw[ZI,ai];refine Eq.trans (fm ul (jh λk _=>?_)) (rot s (n:=ps.length) (l:=l) (by omega) (by omega));show ((if (k+s)%ps.length<l then 2 else 1)==2)=_;split
  .rename_i h;rw[cm h];rfl
  .rename_i h;rw[bh h];rfl
 have all:∀ts:List Tr,(∀t∈ts,t.2.1=1\/t.2.1=2)->cn 1 ts+cn 2 ts=ts.length:=by
  intro ts
  induction ts with
  |nil=>intro _;rfl
  |cons t r ih=>
   intro h;have:=ih λx hx=>h x (aa _ hx)
   unfold cn at this ⊢;rw[i8,i8];rcases h t ag with w|w<;>rw[w]<;>simp<;>omega
 have c12:=all _ λt ht=>(hw t ht).2.1
 have len:(dw ps s l).length=ps.length:=by unfold dw;simp
 have c1:cn 1 (dw ps s l)=w:=by omega
 refine⟨⟨by rw[e1];exact hp.imp (λh=>bz h),hw,?_⟩,c1,c2⟩;rw[<-K16.mQ _ λt ht=>(hw t ht).2.1];show 2*cn 1 _+cn 2 _<=c;omega
open K16 (Tr BI qc cost gY kP jB)
theorem p8 {T:Tb}{e e':En}{s:St}{r:bJ}(h:bC T s env=.nx e)(h':aE T r e=.nx e'):aE T (.cons s r) env=.nx e':=by
 rw[aE,h,aD];exact h'
noncomputable def gL:bJ:=(.cons (.asg (.nm 15) (.NQ .LG KY (K9 (.tup (La K1 (.ix K3 K7))))) ε)
  (.cons (.asg (.nm 16) (.bin .FloorDiv (.call 26 (La (.call 25 (La KU K7)) (.bin .Add K6 K7))) (KP 17)) ε)
  (.cons (.ite (.cmp .Lt (.bin .Mod (.bin .Add K7 K5) (Ld K3)) K4) (.cons (.mut 7 .none .append (K9 K8))
  (.cons (.Lv 6 .none K8 (.bin .Mod (.var 16) KA))
  .nil)) (.cons (.Lv 6 .none K8 (.bin .BitXor (.ix KZ K8) (.bin .Add Kv (.bin .Mod (.var 16) KD))))
  .nil))
  .nil)))
noncomputable def gB:bJ:=(.cons (.asg (.nm 9) (.bin .Add Ky (.bin .Mult (KP 41) K1)) ε)
  (.cons (.asg (.tp [10,11]) (.call 32 (Lb KU KS K6)) ε)
  (.cons (.asg (.nm 12) (.call 31 (Lc KU (.ix KR K1) (.bin .Add K2 K4) (.bin .Add K6 Kv))) ε)
  (.cons (.asg (.nm 13) (.bin .FloorDiv (.call 26 (La (.call 25 (La KU Kv)) K6)) Kz) ε)
  (.cons (.Li (.nm 14) (.Lm (Ld K3)) gL) .nil)))))
noncomputable def gA:Ex:=.tup (La K2 K4)
section
variable {a b:Nat}{dt:List Nat}{cs:List Int}{Ln:List D}
noncomputable abbrev VG (tn w l s:Nat)(ps:List Nat)(j:Nat)(Me Ng Nf:Option (D×Bool)):List (Option (D×Bool)):=[θ (.int (j:Int),ζ),θ (.int (tn:Int),ζ),θ (.int (w:Int),ζ),θ (.int (l:Int),ζ),θ (.lst (gD ps),ζ),θ (.int (s:Int),ζ),Me,Ng,Nf]
theorem SK (m:Nat)(ha:a<5)(hb:b<4)(hB:Bd a (C a b) TS)(hl:TS.length<nb a){tn s:Nat}{ps:List Nat}(L0:BI ((CT a).getD TS.length 0) (C a b) (dw ps s l)){k:Nat}(hk:k<ps.length)(lps:ps.length<=900){sp:List Nat}(i:qc (wrap a b dt) (FT a TS++((dw ps s l).take k).map (ft a TS.length)) sp){Ng Nf:Option (D×Bool)}(hM:(ms (FT a TS++((dw ps s l).take k).map (ft a TS.length))).length<1000)
  (V:jA 4 (.lst Ln) env (VD a b dt cs Ln sp (ms (FT a TS++((dw ps s l).take k).map (ft a TS.length))) (VG tn w l s ps TS.length Me Ng Nf))) :
  ∃Mj e1 e2 NY NX NW,qc (wrap a b dt) (FT a TS++((dw ps s l).take (k+1)).map (ft a TS.length)) Mj/\be [] (.nm 14) (.int (k:Int)) env=θ e1/\aE (T (m+1)) gL e1=.nx e2/\jA 4 (.lst Ln) e2 (VD a b dt cs Ln Mj (ms (FT a TS++((dw ps s l).take (k+1)).map (ft a TS.length))) (VG tn w l s ps TS.length NY NX NW)):=by
 have ht:=Jk (s:=s) (l:=l) hk;have tm:=Α ht;have o1:ps.getD k 0<(CT a).getD TS.length 0:=(L0.ok _ tm).1;have Oh:rm a<=133:=by rcases n5 ha with rfl|rfl|rfl|rfl|rfl<;>decide
 have pl:pos a TS.length (ps.getD k 0)<sp.length:=by rw[i.len,kh];exact (m6 ha hl o1).1
 have np:=fresh ha hB hl L0 ht;have eS:FT a TS++((dw ps s l).take (k+1)).map (ft a TS.length)=(FT a TS++((dw ps s l).take k).map (ft a TS.length)) ++ [ft a TS.length (ps.getD k 0,if (k+s)%ps.length<l then 2 else 1,0)]:=by
  rw[ZW,ht,bq,ef];rfl
 rw[eS];generalize FT a TS++((dw ps s l).take k).map (ft a TS.length)=S at *;obtain⟨e1,q1,V1⟩:=V.Oy (i:=14) (show (14:Nat)<17 by decide) (by decide) (k:Int);obtain⟨e2,q2,V2⟩:=V1.asg (T:=T (m+1)) (i:=15) (show (15:Nat)<17 by decide) (by decide) (G6 (V1.tv.var (i:=5) rfl) (aG.OB (V1.tv.var (i:=8) rfl) (aG.ix (V1.tv.var (i:=12) rfl) (V1.tv.var (i:=14) rfl) (mX hk))) (zK ha hl o1) rfl);obtain⟨v,hv⟩:=F8 m cs k;obtain⟨d,d0,hd⟩:=GI m v ((tn+k:Nat):Int);obtain⟨dr,rfl⟩:∃dr:Nat,d=(dr:Int):=⟨d.toNat,by omega⟩;obtain⟨e3,q3,V3⟩:=V2.asg (T:=T (m+1)) (i:=16) (show (16:Nat)<17 by decide) (by decide) (qf (K16.kH 17 (by decide) (by decide) (aG.of (dS (aG.of (dS (V2.tv.var (i:=0) rfl) (V2.tv.var (i:=14) rfl) hv)) (K16.gX (V2.tv.var (i:=9) rfl) (V2.tv.var (i:=14) rfl)) hd))) rfl);generalize dr / 17=g at V3 q3;have c4:aG (T (m+1)) (.cmp .Lt (.bin .Mod (.bin .Add K7 K5) (Ld K3)) K4) e3 (.bl (decide ((k+s)%ps.length<l))):=aG.cmp (K16.kz (by omega) (K16.gX (V3.tv.var (i:=14) rfl) (V3.tv.var (i:=13) rfl)) (V3.tv.vw.len (i:=12) (l:=ps) rfl)) (V3.tv.var (i:=11) rfl) (by
  show θ (decide _)=θ (decide _);congr 1;rw[decide_eq_decide];omega)
 have gl:sp.getD (pos a TS.length (ps.getD k 0)) 0<64:=dN i.gr _;have P5:sp.length<=1000:=by rw[i.len,kh];omega
 obtain⟨Mj,e4,q4,s4,V4⟩:∃Mj e4,bC (T (m+1)) (.ite (.cmp .Lt (.bin .Mod (.bin .Add K7 K5) (Ld K3)) K4) (.cons (.mut 7 .none .append (K9 K8))
  (.cons (.Lv 6 .none K8 (.bin .Mod (.var 16) KA))
  .nil)) (.cons (.Lv 6 .none K8 (.bin .BitXor (.ix KZ K8) (.bin .Add Kv (.bin .Mod (.var 16) KD))))
  .nil)) e3=.nx e4/\qc (wrap a b dt) (S ++ [ft a TS.length (ps.getD k 0,if (k+s)%ps.length<l then 2 else 1,0)]) Mj/\jA 4 (.lst Ln) e4 (VD a b dt cs Ln Mj (ms (S ++ [ft a TS.length (ps.getD k 0,if (k+s)%ps.length<l then 2 else 1,0)])) (VG tn w l s ps TS.length (θ (.int (k:Int),ζ)) (θ (.int (pos a TS.length (ps.getD k 0):Int),ζ)) (θ (.int (g:Int),ζ)))):=by
  rw[kB c4,rL];by_cases h:(k+s)%ps.length<l
  .rw[cm h,if_pos rfl,if_pos h];obtain⟨e5,q5,V5⟩:=V3.app (T:=T (m+1)) (x:=7) (by decide) rfl (u4 (V3.tv.var (i:=15) rfl) rfl) (by rw[aY];exact hM);obtain⟨e6,q6,V6⟩:=V5.OE (T:=T (m+1)) (x:=6) (by decide) rfl (V5.tv.var (i:=15) rfl) pl P5 (qf (K16.kz (b:=64) (by decide) (V5.tv.var (i:=16) rfl) (K16.lit 64)) rfl);refine⟨_,e6,p8 q5 (p8 q6 Pc.Nw.eX),step (t:=ft a TS.length (ps.getD k 0,2,0)) (z:=g%64) i pl np (ip _ (by decide)) (λh=>by cases h),?_⟩;have:ms [ft a TS.length (ps.getD k 0,2,0)]=[pos a TS.length (ps.getD k 0)]:=rfl;rw[this,VD,eC];exact V6
  .rw[bh h,if_neg (by decide),if_neg h];obtain⟨e6,q6,V6⟩:=V3.OE (T:=T (m+1)) (x:=6) (by decide) rfl (V3.tv.var (i:=15) rfl) pl P5 (qf (aG.xor (aG.ix (V3.tv.var (i:=6) rfl) (V3.tv.var (i:=15) rfl) (mX pl)) (K16.gX (K16.lit 1) (K16.kz (b:=63) (by decide) (V3.tv.var (i:=16) rfl) (K16.lit 63)))) rfl);have h63:g%63<63:=ip _ (by decide);refine⟨_,e6,Pc.Nw.mF q6,step (t:=ft a TS.length (ps.getD k 0,1,0)) (z:=sp.getD (pos a TS.length (ps.getD k 0)) 0^^^(1+g%63)) i pl np (aZ gl (by omega)) (λ_=>?_),?_⟩
   .show _≠(wrap a b dt).getD (pos a TS.length (ps.getD k 0)) 0;rw[<-i.eq _ np];exact BQ (by omega)
   .have:ms [ft a TS.length (ps.getD k 0,1,0)]=[]:=rfl;rw[this,bc];exact V6
 exact⟨Mj,e1,e4,_,_,_,s4,q1,p8 q2 (p8 q3 (p8 q4 Pc.Nw.eX)),V4⟩
def JG (a b:Nat)(dt:List Nat)(cs:List Int)(k:Nat)(xs:List D)(e:En):Prop:=∃TS sp v8 v9 v10 v11 L7 LW Me Ng Nf,TS.length=k/\xs=TS.map tD/\CU a b dt TS sp/\jA 4 (.lst xs) e (VD a b dt cs xs sp (ms (FT a TS)) [v8,v9,v10,v11,L7,LW,Me,Ng,Nf])
theorem Ie (m:Nat)(ha:a<5)(hb:b<4)(k:Nat)(xs:List D)(e:En)(hk:k<nb a)(J:JG a b dt cs k xs e):8<e.length/\∃e2 ys zs,aE (T (m+2)) gB (put e 8 (.int (k:Int)) .own)=.nx e2/\e2[4]? = θ (θ (.lst ys,.lk))/\bC (T (m+2)) (.mut 4 .none .append (.cons gA .nil)) (e2.set 4 (θ (.lst ys,.own)))=.nx (e2.set 4 (θ (.lst zs,.own)))/\D.Lh zs=ζ/\JG a b dt cs (k+1) zs (e2.set 4 (θ (.lst zs,.lk))):=by
 obtain⟨TS,sp,v8,v9,v10,v11,L7,LW,Me,Ng,Nf,rfl,rfl,I,V⟩:=J;obtain⟨f1,f2,f3,f4,f5,f6,_⟩:=fact ha hb;have ct:=pb ha hb hk;have l3:C a b*TS.length<=26*3:=à f5 (by omega);refine⟨by rw[V.tv.len];exact (by decide:(8:Nat)<17),?_⟩;rw[bT V.tv.tm];have V1:=V.own (i:=8) (by decide) (.int (TS.length:Int));generalize e.set 8 (θ (.int (TS.length:Int),.own))=e1 at V1;obtain⟨e2,q2,V2⟩:=V1.asg (T:=T (m+2)) (i:=9) (x:=.int ((3+41*TS.length:Nat):Int)) (show (9:Nat)<17 by decide) (by decide) (qf (K16.gX (K16.lit 3) (aG.bin (op:=.Mult) (K16.lit 41) (V1.tv.var (i:=8) rfl) (z:=.int ((41*TS.length:Nat):Int)) (by
  rw[aS,K16.jJ (by decide)];rfl))) rfl)
 generalize 3+41*TS.length=tn at V2 q2;obtain⟨w,l,P9,TU⟩:=h32 m cs (C a b) tn (by omega);obtain⟨e3,q3,V3⟩:=V2.QF (T:=T (m+2)) (i:=10) (j:=11) (show (10:Nat)<17 by decide) (show (11:Nat)<17 by decide) (by decide) (by decide) (mV (V2.tv.var (i:=0) rfl) (V2.tv.var (i:=3) rfl) (V2.tv.var (i:=9) rfl) TU);obtain⟨ps,pa,pl,plt,TV⟩:=h31 m cs ((CT a).getD TS.length 0) (w+l) (tn+1) (by omega) (by omega);obtain⟨e4,q4,V4⟩:=V3.asg (T:=T (m+2)) (i:=12) (show (12:Nat)<17 by decide) (by decide) (vg (V3.tv.var (i:=0) rfl) (aG.ix (V3.tv.var (i:=2) rfl) (V3.tv.var (i:=8) rfl) (mX (by omega))) (K16.gX (V3.tv.var (i:=10) rfl) (V3.tv.var (i:=11) rfl)) (K16.gX (V3.tv.var (i:=9) rfl) (K16.lit 1)) TV);obtain⟨v,hv⟩:=F8 (m+1) cs 1;obtain⟨d,d0,hd⟩:=GI (m+1) v (tn:Int);obtain⟨dr,rfl⟩:∃dr:Nat,d=(dr:Int):=⟨d.toNat,by omega⟩;obtain⟨e5,q5,V5⟩:=V4.asg (T:=T (m+2)) (i:=13) (show (13:Nat)<17 by decide) (by decide) (qf (K16.kH 7 (by decide) (by decide) (aG.of (dS (aG.of (dS (V4.tv.var (i:=0) rfl) (K16.lit 1) hv)) (V4.tv.var (i:=9) rfl) hd))) rfl);generalize dr / 7=s at V5 q5;obtain⟨L0,c1,c2⟩:=IH s pa pl plt P9 f5;have ldw:(dw ps s l).length=ps.length:=by unfold dw;simp
 obtain⟨e6,q6,Mj,NY,NX,NW,st,V6⟩:=qd (t:=.nm 14) (R:=[]) (b:=aE (T (m+2)) gL) (λi env=>∃sp Me Ng Nf,qc (wrap a b dt) (FT a TS++((dw ps s l).take i).map (ft a TS.length)) sp/\jA 4 (.lst (TS.map tD)) env (VD a b dt cs (TS.map tD) sp (ms (FT a TS++((dw ps s l).take i).map (ft a TS.length))) (VG tn w l s ps TS.length Me Ng Nf))) ((υ ps.length).map λ(k:Nat)=>D.int (k:Int)) 0 e5 ⟨sp,Me,Ng,Nf,by simpa using I.sk,by simpa using V5⟩ (λi d e hd ⟨sp,Me,Ng,Nf,sk,V⟩=>by
  rw[en] at sk V ⊢;obtain⟨hi,rfl⟩:=r9 hd;have hM:(ms (FT a TS++((dw ps s l).take i).map (ft a TS.length))).length<1000:=by
   have h1:=EJ (FT a TS) (((dw ps s l).take i).map (ft a TS.length));have h2:=I.Qx;rw[ai,dk] at h1;omega
  obtain⟨Mj,e1,e2,NY,NX,NW,s1,b1,b2,W⟩:=SK (m+1) ha hb I.bd hk L0 hi (by omega) sk hM V;exact⟨e1,e2,b1,.inl b2,Mj,NY,NX,NW,s1,W⟩)
 have q6:=cP (rM (V5.tv.vw.len (T:=T (m+2)) (i:=12) (l:=ps) rfl) (by omega)) q6;rw[en,ai,bu,<-ldw,ji,<-rT] at st V6;have U:=V6.tv.set 4 (.lst (TS.map tD)) .own ζ (aC _) λ_=>rfl
 obtain⟨g1,g2⟩:=V6.grow (T:=T (m+2)) (e:=gA) (z:=tD (dw ps s l)) (by rw[ai];omega) (by
  show _=Rs.ok (D.tup [.int (cn 1 (dw ps s l):Int),.int (cn 2 (dw ps s l):Int)],_);rw[c1,c2];exact HQ (u4 (U.var (i:=10) rfl) rfl) (u4 (U.var (i:=11) rfl) rfl))
 have eT:TS.map tD ++ [tD (dw ps s l)]=(TS ++ [dw ps s l]).map tD:=by rw[bq];rfl
 rw[eT] at g1 g2;exact⟨e6,TS.map tD,(TS ++ [dw ps s l]).map tD,p8 q2 (p8 q3 (p8 q4 (p8 q5 (p8 q6 Pc.Nw.eX)))),V6.lk,g1,kg _,TS ++ [dw ps s l],Mj,_,_,_,_,_,_,_,_,_,by simp,rfl,⟨I.bd.snoc hk L0,wC I.Qx L0,st⟩,g2⟩
end
end K23
end
section
namespace Pc
open PySem PySem.Spec PyProof.Rows L2
section
variable {X:Cx}
end
section
variable {X:Cx}{pins:List (Addr×Obj)}{σ:L2.St}{H H':Hp}{s:ρ}{B h h':Heap}
end
section
variable {M:È}{A:Φ}{E:Value->ρ->Prop}{prog:Program}{w:Ν}
end
section
variable {X:Cx}{pins:List (Addr×Obj)}{σ:L2.St}{H:Hp}{s:ρ}{D:Ends}
end
section
variable {X:Cx}{pins:List (Addr×Obj)}{σ:L2.St}{H:Hp}{s:ρ}{D:Ends}
end
section
variable {M:È}{A:Φ}{E:Value->ρ->Prop}{h:Heap}{g:Array YE}{d:É}{t:Nat}{os:Ď}
variable {nm q:Str}{C N:Addr}{bs bm bmB:List Value}{Qr:Bool}{sn:List Str}{sub:List Value}{ab:Bool}{col:Option Bool}{dd:Option Addr}{k0 k1 k2 k3 k5:Option Value}{B newId:String}
end
section
variable {prog:Program}{w:Ν}{A:Φ}{E:Value->ρ->Prop}{h:Heap}{g:Array YE}{d:É}{t:Nat}{os:Ď}{a:Addr}{o:Obj}
 {nm q:Str}{C N:Addr}{bs bm:List Value}{Qr:Bool}{sn:List Str}{sub:List Value}{ab:Bool}{col:Option Bool}{dd:Option Addr}{k0 k1 k2 k3 k5:Option Value}{newId:String}{mN:Str->Option Value}
end
section
variable {prog:Program}{w:Ν}{A:Φ}{E:Value->ρ->Prop}{h:Heap}{g:Array YE}{d:É}{t:Nat}{os:Ď}{a:Addr}{o:Obj}
 {nm q:Str}{C N:Addr}{bs bm:List Value}{Qr:Bool}{sn:List Str}{sub:List Value}{ab:Bool}{col:Option Bool}{dd:Option Addr}{k0 k1 k2 k3 k5:Option Value}{newId:String}{mN:Str->Option Value}
 {nm' q':Str}{C' N':Addr}{bs' bm':List Value}{WJ:Bool}{sn':List Str}{Pz:List Value}{ab':Bool}{col':Option Bool}{UE:Option Addr}{j0 j1 j2 j3 j5:Option Value}{Sv:String}
end
section
variable {prog:Program}{w:Ν}{A:Φ}{E:Value->ρ->Prop}{K:Β}
end
section
variable {X:Cx}{pins:List (Addr×Obj)}{σ:L2.St}{H:Hp}{s:ρ}{D:Ends}{k:Nat}{f:Addr}{fd:pi}{ps:List Str}{sp:Sp}{Nd:List V}{ds:List Value}{W:Value->Hp->Prop}
end
section
variable {X:Cx}{a C:Addr}{o:Obj}
end
def Df.Bd (d:Df):Prop:=∀(kV doc pm:Value) (an:Option Addr) (Lo ct:Value) (us:List Value),us.length=d.ps.length->Η (jp d.nm d.nm (gF d.st) (bB d.st) (aI d.st) .none kV doc pm an Lo ct) ⟨us,[]⟩=pure (d.ps.zip us)
def Df.Pu (p:Pg)(fo:List Str)(d:Df):Prop:=d.Ok p\/(d.Bd/\d.nm∈fo)
variable {fo:List Str}
theorem Df.Pu.bd {p:Pg}{d:Df}(h:d.Pu p fo):d.Bd:=by
 rcases h with h|h
 .exact h.bd
 .exact h.1
theorem kA {p:Pg}{d:Df}{n:Nat}(h:d.QS p n=ζ):eZ d.N d.ps (aI d.st):=by
 unfold Df.QS at h;simp only[aj,decide_eq_true_eq,i3,cz] at h;obtain⟨⟨⟨⟨⟨⟨h1,h2⟩,h3⟩,h4⟩,h5⟩,h6⟩,h7⟩:=h;exact⟨h1,h2,h3,h4,h5,λx hx=>mG (h6 x hx),h7⟩
section
variable {p:Pg}{P:Program}{w:Ν}{K:Frag}{mg:Str->Option Value}{base:Heap}
def pG (p:Pg)(P:Program)(w:Ν)(K:Frag)(mg:Str->Option Value)(base:Heap)(n:Nat):Prop:=∀(i:Nat) (d:Df),p.M5[i]? = θ d->∀f fd,L2.uY K d.nm d.nm d.st f fd->nU P w K mg base nh n f fd d.ps (DL K d.ps.length (p.run n i))
def sM (p:Pg)(fo:List Str)(P:Program)(w:Ν)(K:Frag)(mg:Str->Option Value)(base:Heap):Prop:=∀(n i:Nat) (d:Df),p.M5[i]? = θ d->d.nm∈fo->pG p P w K mg base n->∀f fd,L2.uY K d.nm d.nm d.st f fd->nU P w K mg base nh (n+1) f fd d.ps (DL K d.ps.length (p.run (n+1) i))
theorem CV (hp:∀d∈p.M5,d.Pu p fo)(hi:p.In K mg)(hh:xj w K)(hf:sM p fo P w K mg base):∀n,pG p P w K mg base n:=by
 intro n
 induction n with
 |zero=>
  intro i d hd f fd F;refine⟨λvs H Q E h=>mw h,λA outer s H args us vs Q E hr he hb hv hs=>?_⟩;obtain⟨ds,G,_,_,r,h,_⟩:=hs;cases h
 |succ n ih=>
  intro i d hd f fd F;rcases hp d (Α hd) with ⟨⟨m,hb⟩,S,_⟩|⟨_,hn⟩
  rotate_left
  .exact hf n i d hd hn ih f fd F
  refine F.ok S (λvs H Q E h=>mw h) λLo A outer s H vs Q E hr hs=>?_
  have C:m9 (iB nh P w K mg base d.N d.nm (aI d.st) f Lo A outer s H E).LR (p.sc d) ⟨p.run n,p.gl,p.fuel⟩:=by
   refine⟨⟨rfl,S.nd,λx h=>uC h,λx h=>⟨mG h,.inl rfl⟩,λx h=>xO h,λx h=>h,?_,rfl,λj x hj=>?_,λj x hj=>hi.gl j x hj,λx h=>hi.blt x h⟩,rfl,S.kind,IN,λ_ _ z=>z⟩
   .exact⟨iq (Zh (by decide:40<=64) _) hr.units,hh⟩
   .obtain⟨e,he,hx⟩:=rk hj;obtain⟨f',Qy,F',M'⟩:=hi.fn j e he;have B':=F'.binds (hp e (Α he)).bd;subst hx;refine⟨f',Qy,e.ps,n,ih j e he f' Qy F',hr,M',F'.kp,B',λds r h=>?_⟩;have h:p.run n j ds=.ok r:=h;cases n with
    |zero=>cases h
    |succ n=>
     unfold Pg.run Pc.run at h;have:p.fns[j]? = θ ⟨e.ps.length,e.N.length,e.body⟩:=by unfold Pg.fns;rw[π,he];rfl
     rw[this] at h;dsimp only at h;by_cases hl:ds.length=e.ps.length
     .exact hl
     .rw[if_neg hl] at h;cases h
  refine⟨_,(Ab C m).2 _ _ hb,?_⟩;obtain⟨ds,G,hl,rs,r,Lr,k⟩:=hs;unfold Pg.run Pc.run at Lr;have:p.fns[i]? = θ ⟨d.ps.length,d.N.length,d.body⟩:=by unfold Pg.fns;rw[π,hd];rfl
  rw[this] at Lr;dsimp only at Lr;rw[if_pos hl] at Lr;have hN:ds.length<=d.N.length:=by
   rw[hl,<-S.pre,dk];exact ZK _ _
  obtain⟨F0,re,hF⟩:=entry rs hN;refine⟨λa=>H a≠η,λa=>H a=η\/a∈G,aF ds d.N.length,F0,re,λj a ha=>.inr (hF j a ha),λa h=>.inl (FS.mp h),?_⟩;show post K _ _ _ _ H _ (aE ⟨p.run n,p.gl,p.fuel⟩ d.body (aF ds d.N.length));have Lr:(match aE ⟨p.run n,p.gl,p.fuel⟩ d.body (aF ds d.N.length) with
   |.rt d fr=>Rs.ok (d,fr)
   |.nx _=>.ok (.Lj,ζ)
   |.xc e _=>.exc e
   |_=>.bad)=.ok r:=Lr
  cases hq:aE ⟨p.run n,p.gl,p.fuel⟩ d.body (aF ds d.N.length) with
  |rt dd fr=>
   rw[hq] at Lr;cases Lr;intro v H' G' rp ev z fz;exact k v H' G' (pA ev) rp z λhf=>let ⟨a,b⟩:=fz hf;⟨a,λx hx=>⟨FS.mp (b x hx).1,(b x hx).2⟩⟩
  |nx e=>
   rw[hq] at Lr;cases Lr;intro σ' H' F' af;exact k .Lj H' [] (pA af.ev) .Lj (λ_ h=>(nomatch h)) λ_=>⟨bj,λ_ h=>(nomatch h)⟩
  |bk e=>rw[hq] at Lr;cases Lr
  |ct e=>rw[hq] at Lr;cases Lr
  |xc e e'=>rw[hq] at Lr;cases Lr
  |bad=>rw[hq] at Lr;cases Lr
end
theorem IC {l:Y5}{q:Program}{loose:List Str}{XP:(Str->Option Value)->Heap->Prop}{YP:Ν->Heap->Prop}{d:DefRec}{K:Zi->Β}(p:Pg)(fo:List Str)(n i:Nat)(x:Str)(e:Df)(hn:l.most=θ 63)(Qq:d.params.defaults=[])
  (hY:∀(w:Ν) (h:Heap),YP w h->(K w.params).In h) (hd:p.M5[i]? = θ e) (Pn:e.ps=[x]) (hnm:d.name=e.nm) (hr:gP n XG) (ok:yr (Df.Pu p fo) p.M5) (st:∀w:Ν,vN p (K w.params)) (hL:∀w:Ν,QW (K w.params)=ζ) (hH:∀w:Ν,xj w (K w.params))
  (hf:∀(w:Ν) (mg:Str->Option Value) (h base:Heap),(K w.params).In h->h.Ns bi mg->p.In (K w.params) mg->sM p fo l.prog w (K w.params) mg base)
  (SG:∀ns:List Int,ns.length<=63->∃fr,p.run n i [.lst (ns.map D.int)]=.ok (.bl ζ,fr)) :
  Zs q loose XP YP l.row.toRowW d [] (λf vs=>YW f vs):=by
 refine L2.Eo (n:=63) (k:=n) (x:=x) (CX:=λ_=>nh) (sp:=λw=>DL (K w.params) 1 (p.run n i)) hn (by decide) Qq hr hY (λw mg fa h KX G hm=>?_) (λw H a ns hl _ hS=>?_) λ_ _ _ _ _ z=>z
 .have I:=(st w).isin KX G;obtain⟨f,fd,F,m⟩:=I.fn i e hd;rw[hnm,m] at hm;obtain rfl:f=fa:=by cases hm;rfl
  refine⟨fd,λs u=>?_,λbase kb nb=>?_⟩
  .obtain⟨oc,od,kV,doc,pm,an,Lo,ct,NP,rfl,lk,Mh⟩:=F.ex;have:=(eV ok e (Α hd)).bd kV doc pm an Lo ct [u] (by rw[Pn];rfl);rw[Pn] at this;exact .of_eq this
  .have:=CV (P:=l.prog) (w:=w) (base:=base) (eV ok) I (hH w) (hf w mg h base KX G I) n i e hd f fd F;rw[Pn] at this;exact this
 .obtain⟨fr,h⟩:=SG ns hl;exact HL (hL w) hS h
structure mz (k:Nat)(A:Φ):Prop where
 hd:A.handled=η
 dp:A.depth+3*k+6<recursionLimit
 un:A.units+16*k+203<cLine
variable {A:Φ}{k:Nat}
theorem mz.of (r:gP (k+1) A)(env:Yw):mz k (A.deeper env) :=
 ⟨r.hd,by have:=r.dp;show A.depth+1+3*k+6<_;omega,by have:=r.un;show A.units+3+16*k+203<_;omega⟩
theorem mz.deeper (r:mz k A)(env:Yw):gP k (A.deeper env) :=
 ⟨r.hd,by have:=r.dp;show A.depth+1+3*k+5<_;omega,by have:=r.un;show A.units+3+16*k+200<_;omega⟩
structure oB (P:Program)(w:Ν)(K:Β)(mg:Str->Option Value)(base:Heap)(CX:vT)(RP:Φ->Prop)(f:Addr)(fd:pi)(ps:List Str)(sp:Sp):Prop where
 len:∀vs H Q E,sp vs H Q E->vs.length=ps.length
 run:∀(A:Φ) (outer:List Yw) (s:ρ) (H:Hp) (args:PySem.Args) (us:List Value) (vs:List V) (Q:VK) (E:XK),RP A->BM P w K mg base A outer s H->Zm s fd args (ps.zip us)->aT vs us->sp vs H Q E ->
  FM (Ζ P w) A (.call (.ref f) args) (CR CX outer P w H s Q E) s
variable {CX:vT}{qual x:Str}{st:Stmt}
section
variable {P:Program}{w:Ν}{K:Β}{mg:Str->Option Value}{base:Heap}{f:Addr}{fd:pi}{ps N:List Str}{sp:Sp}
theorem oB.plain (F:oB P w K mg base CX (gP k) f fd ps sp):nU P w K mg base CX k f fd ps sp:=⟨F.len,F.run⟩
theorem Bf {RP:Φ->Prop}(F:L2.uY K x qual st f fd)(S:eZ N ps (aI st))(WN:∀A,RP A->A.handled=η/\A.depth<recursionLimit)(len:∀vs H Q E,sp vs H Q E->vs.length=ps.length)
  (Mw:∀(Lo:Value) (A:Φ) (outer:List Yw) (s:ρ) (H:Hp) (vs:List V) (Q:VK) (E:XK),RP A->sp vs H Q E ->
   ∃t,lK (iB CX P w K mg base N qual (aI st) f Lo A outer s H E) (bB st) t/\t { nx:=λ_ H'=>Q .Lj H',rt:=Q } (L2.start N vs) H):oB P w K mg base CX RP f fd ps sp:=by
 obtain⟨oc,od,kV,doc,pm,an,Lo,ct,NP,rfl,lk,Mh⟩:=F.ex;refine⟨len,λA outer s H args us vs Q E hr e0 hb r Ny=>?_⟩;have hl:=len _ _ _ _ Ny;have KX:K.In s.heap:=e0.mod.P6.keeps λb o e=>(e0.bs b o e).1
 have lim:s.heap.NoLimit:=e0.mod.nolimit.keeps λb o e=>(e0.bs b o e).1
 have NC:∀y∈ps.zip us,(aI st).names.lookup y.1=θ .local\/((aI st).names.lookup y.1=θ .cell/\((am (s.heap.objs.size+1) (aI st).names []).lookup y.1).isSome=ζ):=λ⟨n,v⟩ hy=>by
  rcases S.par n (jx hy).1 with q|q
  .exact .inl q
  .exact .inr ⟨q,jq _ _ _ (.inl q)⟩
 refine Zr (WN A hr).2 (KX _ _ lk) rfl S.co S.gen rfl (YG KX Mh) (hb _ _ _ _ ?_);refine YH S.kind NC λenv he s1 x=>?_
 subst he;refine⟨lim.keeps x.toInCall.keep,Ć ?_⟩;obtain⟨t,ht,hq⟩:=Mw Lo A outer s H vs Q E hr Ny;have I:Inv (iB CX P w K mg base N qual (aI st) f Lo A outer s H E) [] (L2.start N vs) H s1:=qV S (WN A hr).1 e0 hl r x;refine kw (ht [] s1 (L2.start N vs) H _ I hq) (λfl s' hs=>?_) λe s' hs=>hs
 have fin:∀{σ':L2.St}{H':Hp}{v:V}{u:Value},Inv (iB CX P w K mg base N qual (aI st) f Lo A outer s H E) [] σ' H' s'->RelV v u->Q v H'->CE outer P w H s Q u s' :=
  λ{σ' H' v u} J rv q=>⟨v,H',J.os,J.bare,J.base,J.Ll,rv,q⟩
 cases fl with
 |ret u=>
  obtain⟨v,σ',H',J,rv,q⟩:=hs;exact fin J rv q
 |next=>
  obtain⟨σ',H',J,q⟩:=hs;exact fin (v:=V.Lj) (u:=Tk) J rfl q
 |brk=>
  obtain⟨_,_,_,q⟩:=hs;exact bv q
 |cont=>
  obtain⟨_,_,_,q⟩:=hs;exact bv q
end
section
variable {X:Cx}{pins:List (Addr×Obj)}{σ:L2.St}{H:Hp}{s:ρ}{D:Ends}{RP:Φ->Prop}{f:Addr}{fd:pi}{ps:List Str}{sp:Sp}{Nd:List V}{ds:List Value}{W:Value->Hp->Prop}
end
section
variable {X:Cx}{S:Sc}{T:Tb}
theorem PS.LR {t:TS}(h:PS X.LR st t):PS X st t:=λpins s σ H D I hw=>by
 have:=h pins s σ H D (I.LV _) hw;refine kw this (λf s1 q=>?_) λ_ _ z=>z.elim
 cases f with
 |next=>obtain⟨σ',H',J,q⟩:=q;exact⟨σ',H',J.Lp,q⟩
 |brk=>obtain⟨σ',H',J,q⟩:=q;exact⟨σ',H',J.Lp,q⟩
 |cont=>obtain⟨σ',H',J,q⟩:=q;exact⟨σ',H',J.Lp,q⟩
 |ret u=>obtain⟨v,σ',H',J,r,q⟩:=q;exact⟨v,σ',H',J.Lp,r,q⟩
def nK (K:Frag)(T:Tb)(cs:bJ)(u:TS):TS:=λD σ H=>∃P Z env F,RE K P env σ H F/\(∀i,∀a∈F i,Z a)/\(∀a,¬ P a->Z a)/\post K P Z env F H { D with nx:=u D } (aE T cs env)
theorem hX {rest:List Stmt}{u:TS}(C:m9 X.LR S T)(hu:lK X rest u):∀(m:Nat) (l:List Stmt) (cs:bJ),rQ m S l=θ cs->lK X (l++rest) (nK X.K T cs u)
 |0,l,cs,h=>by cases h
 |m+1,[],cs,h=>by
  cases h;refine n6 hu λD σ H ⟨P,Z,env,F,re,hz,zp,h⟩=>?_
  unfold aE at h;exact h σ H F (After.same re hz (aN.refl _))
 |m+1,st::l,cs,h=>by
  have h:((cS m S st).bind λc=>(rQ m S l).map λr=>bJ.cons c r)=θ cs:=h;obtain⟨c,h1,h⟩:=ah.mp h;obtain⟨r,h2,rfl⟩:=ae.mp h;refine n6 (ku (PS.LR ((Ab C m).1 _ _ h1)) (hX C hu m l r h2)) λD σ H ⟨P,Z,env,F,re,hz,zp,h⟩=>⟨P,Z,env,F,re,hz,zp,?_⟩
  unfold aE at h;cases hs:bC T c env with
  |nx env'=>
   rw[hs] at h;exact λσ' H' F' af=>⟨P,Z,env',F',af.re,af.z,zp,post.trans af h⟩
  |bk env'=>rw[hs] at h;exact h
  |ct env'=>rw[hs] at h;exact h
  |rt d fr=>rw[hs] at h;exact h
  |xc e env'=>rw[hs] at h;exact h
  |bad=>rw[hs] at h;exact h
end
variable {H:Hp}{f:Addr}{n:Nat}{ps:List Str}
section
variable {p:Pg}{P:Program}{w:Ν}{K:Frag}{mg:Str->Option Value}{base:Heap}
theorem u3 {CX:vT}{N:List Str}{nm:Str}{sc:Scope}{Lo:Value}{outer:List Yw}{s:ρ}{E:XK}(hp:∀d∈p.M5,d.Pu p fo)(hi:p.In K mg)(hh:xj w K)(ih:pG p P w K mg base n)(S:eZ N ps sc)
  (hr:gP n (A.deeper (P3 nm sc s.heap.objs.size f Lo))):m9 (iB CX P w K mg base N nm sc f Lo A outer s H E).LR ⟨N,sc,p.M5.map (·.nm),p.zx,p.fT⟩ ⟨p.run n,p.gl,p.fuel⟩:=by
 refine⟨⟨rfl,S.nd,λx h=>uC h,λx h=>⟨mG h,.inl rfl⟩,λx h=>xO h,λx h=>h,?_,rfl,λj x hj=>?_,λj x hj=>hi.gl j x hj,λx h=>hi.blt x h⟩,rfl,S.kind,IN,λ_ _ z=>z⟩
 .exact⟨iq (Zh (by decide:40<=64) _) hr.units,hh⟩
 .obtain⟨e,he,hx⟩:=rk hj;obtain⟨f',Qy,F',M'⟩:=hi.fn j e he;have B':=F'.binds (hp e (Α he)).bd;subst hx;refine⟨f',Qy,e.ps,n,ih j e he f' Qy F',hr,M',F'.kp,B',λds r h=>?_⟩;have h:p.run n j ds=.ok r:=h;cases n with
  |zero=>cases h
  |succ n=>
   unfold Pg.run Pc.run at h;have:p.fns[j]? = θ ⟨e.ps.length,e.N.length,e.body⟩:=by unfold Pg.fns;rw[π,he];rfl
   rw[this] at h;dsimp only at h;by_cases hl:ds.length=e.ps.length
   .exact hl
   .rw[if_neg hl] at h;cases h
end
section
variable {X:Cx}{pins:List (Addr×Obj)}{σ:L2.St}{H:Hp}{s:ρ}{D:Ends}{W:Value->Hp->Prop}
end
variable {T:Tb}{X:Cx}{ce:Ex}{i:Nat}{xs:List D}
section
variable {K:Frag}{P Z:Addr->Prop}{env:En}{σ:L2.St}{H:Hp}{F:Nat->List Addr}{y:Nat}{p:Addr}
theorem RE.Oi (re:RE K P env σ H F){d:D}{t t':Tg}(h:env[y]? = θ (θ (d,t)))(ho:bK t=ζ)(M9:bK t'=ζ)(hw:t'=.own->∀a∈F y,¬ P a):RE K P (env.set y (θ (d,t'))) σ H F:=by
 have hl:y<env.length:=(ο.mp h).1;have sr:∀(t:Tg) (i:Nat),bK t=ζ->bG i t=[i]:=λt i o=>by
  cases t with
  |own=>rfl
  |lk=>rfl
  |sh R=>cases o
 have inv:∀i d1 t1,(env.set y (θ (d,t')))[i]? = θ (θ (d1,t1))->∃t0,env[i]? = θ (θ (d1,t0))/\bK t0=bK t1/\bG i t0=bG i t1/\(i≠y->t0=t1):=λi d1 t1 e=>by
  by_cases hi:y=i
  .subst hi;rw[ξ hl] at e;cases e;exact⟨t,h,ho.trans M9.symm,by rw[sr t y ho,sr t' y M9],λz=>absurd rfl z⟩
  .rw[μ hi] at e;exact⟨t1,e,rfl,rfl,λ_=>rfl⟩
 refine⟨by rw[ak];exact re.len,λi d1 t1 e=>?_,λi e=>?_,λi d1 t1 e o=>?_,λi d1 e a ha=>?_,re.pl⟩
 .obtain⟨t0,e0,_⟩:=inv i d1 t1 e;exact re.val i d1 t0 e0
 .refine re.MN i λd1 t1 e1=>?_
  by_cases hi:y=i
  .subst hi;exact e d t' (ξ hl)
  .exact e d1 t1 (by rw[μ hi];exact e1)
 .obtain⟨t0,e0,o0,_⟩:=inv i d1 t1 e;obtain⟨a,b,c⟩:=re.one i d1 t0 e0 (o0.trans o);refine⟨a,b,λx hx j d2 t2 e2 m=>?_⟩;obtain⟨t3,e3,_,s3,_⟩:=inv j d2 t2 e2;rw[<-s3];exact c x hx j d2 t3 e3 m
 .by_cases hi:i=y
  .subst hi;rw[ξ hl] at e;cases e;exact hw rfl a ha
  .obtain⟨t0,e0,_,_,q⟩:=inv i d1 .own e;rw[q hi] at e0;exact re.wr i d1 e0 a ha
structure uX (K:Frag)(P Z:Addr->Prop)(y:Nat)(p:Addr)(xs:List D)(env:En)(σ:L2.St)(H:Hp)(F:Nat->List Addr):Prop where
 re:RE K P env σ H F
 z:∀i,∀a∈F i,Z a
 np:¬ P p
 fy:F y=[p]
 lk:env[y]? = θ (θ (.lst xs,.lk))
theorem uX.ref (h:uX K P Z y p xs env σ H F):σ[y]? = θ (θ (.ref p)):=by
 obtain⟨v,e,rp⟩:=h.re.val y _ _ h.lk;rw[h.fy] at rp;obtain⟨q,vs,G,e1,e2,_⟩:=rp.lst_inv;cases e2;rw[e,e1]
theorem uX.after {ys:List D}{env':En}{σ':L2.St}{H':Hp}{F':Nat->List Addr}(h:uX K P Z y p xs env σ H F)(a:After K P Z env F H env' σ' H' F')(e:env'[y]? = θ (θ (.lst ys,.lk))):uX K P Z y p ys env' σ' H' F' :=
 ⟨a.re,a.z,h.np,(a.lk y _ e).2.trans h.fy,e⟩
theorem uX.Sh (h:uX K P Z y p xs env σ H F)(hi:i<env.length)(hy:y≠i)(k:Int):uX K P Z y p xs (put env i (.int k) .own) (σ.set i (θ (.int k))) H (oq F i []) where
 re:=h.re.put hi (.int k) (λ_=>⟨bj,λ_ h=>(nomatch h),λ_ h=>(nomatch h)⟩) (λ_ _ h=>(nomatch h)) λ_ h=>(nomatch h)
 z:=mo h.z λ_ h=>(nomatch h)
 np:=h.np
 fy:=(dZ hy).trans h.fy
 lk:=by rw[uQ hy,h.lk];rfl
theorem Fz {D:Ends}{xs ys:List Pc.D}(h:uX X.K P Z y p xs env σ H F)(zp:∀a,¬ P a->Z a)(he:bC T (.mut y .none .append (.cons ce .nil)) (env.set y (θ (.lst xs,.own)))=.nx (env.set y (θ (.lst ys,.own))))(hf:Pc.D.Lh ys=ζ)
  (hD:∀H' F',uX X.K P Z y p ys (env.set y (θ (.lst ys,.lk))) σ H' F'->jV P H H'->D.nx σ H'):oV (DB X.K "list" (pK X.K .append) (jG X.K T y .none) (qL X.K T (.cons ce .nil))) D σ H:=by
 have hl:y<env.length:=(ο.mp h.lk).1;have R9:=h.re.Oi h.lk rfl (t':=.own) rfl (λ_ a ha=>by rw[h.fy,gu] at ha;rw[ha];exact h.np);let D0:Ends:={ nx:=λσ' H'=>∃F',After X.K P Z (env.set y (θ (.lst xs,.own))) F H (env.set y (θ (.lst ys,.own))) σ' H' F',rt:=λ_ _=>False };have m:oV (DB X.K "list" (pK X.K .append) (jG X.K T y .none) (qL X.K T (.cons ce .nil))) D0 σ H:=mB ⟨P,Z,_,F,R9,h.z,zp,by rw[he];exact λσ' H' F' af=>⟨F',af⟩⟩;have go:∀H',D0.nx σ H'->D.nx σ H':=λH' ⟨F',af⟩=>by
  have e:(env.set y (θ (.lst ys,Tg.own)))[y]? = θ (θ (.lst ys,.own)):=ξ hl;have L6:=af.re.Oi e rfl (t':=.lk) rfl (λz=>by cases z);rw[YD] at L6;refine hD H' F' ⟨L6,af.z,h.np,?_,ξ hl⟩ af.ev;obtain⟨v,e1,rp⟩:=af.re.val y _ _ e;rw[h.ref] at e1;cases e1;obtain⟨q,vs,G,e2,e3,_,rs⟩:=rp.lst_inv;cases e2;rw[e3,rs.flat hf]
 obtain⟨P1,NK,F1,po,v,q,r1,r2,r3,r4,k⟩:=m;refine⟨P1,NK,F1,po,v,q,r1,r2,r3,r4,λH1 s1=>?_⟩;obtain⟨ty,P2,Oa,F2,r5,l,r6,k2⟩:=k H1 s1;refine⟨ty,P2,Oa,F2,r5,l,r6,λvs H2 G ar=>?_⟩;obtain⟨a1,a2,a3,a4,a5,a6,a7,b1,b2,b3,b4,b5,b6,b7,b8,b9,k3⟩:=k2 vs H2 G ar;exact⟨a1,a2,a3,a4,a5,a6,a7,b1,b2,b3,b4,b5,b6,b7,b8,b9,λus Gy v h1 h2 h3=>go _ (k3 us Gy v h1 h2 h3)⟩
end
def QL (K:Frag)(T:Tb)(y i:Nat)(ca:Ex)(cs:bJ)(ce:Ex):TS:=λD σ H=>∃(P Z:Addr->Prop) (env:En) (F:Nat->List Addr) (p:Addr) (xs:List Pc.D) (n:Nat) (R:Rt) (J:Nat->List Pc.D->En->Prop),uX K P Z y p xs env σ H F/\(∀a,¬ P a->Z a)/\n<=1000/\bL T (.cons ca .nil) env=.ok [(.int (n:Int),R)]/\J 0 xs env /\
   (∀k xs e,k<n->J k xs e->i<e.length/\∃e2 ys zs,aE T cs (put e i (.int (k:Int)) .own)=.nx e2/\e2[y]? = θ (θ (.lst ys,.lk))/\bC T (.mut y .none .append (.cons ce .nil)) (e2.set y (θ (.lst ys,.own)))=.nx (e2.set y (θ (.lst zs,.own)))/\Pc.D.Lh zs=ζ/\J (k+1) zs (e2.set y (θ (.lst zs,.lk)))) /\
   ∀ys e σ' H' F',J n ys e->uX K P Z y p ys e σ' H' F'->jV P H H'->D.nx σ' H'
variable {ca:Ex}{cs:bJ}{e:Expr}{pos:GE}{y:Nat}
theorem zH {S:Sc}{m:Nat}{a:Expr}{l:List Stmt}{p1 p2 p3 p4 p5 p6 p7:GE}{g:Str}(C:m9 X.LR S T)(hp:XE (Ζ X.prog X.w) X.A X.env X.xe)(hc:X.calm=ζ)(hN:X.N.Nodup)(hi:X.N[i]? = θ x)(hx:Loc X.env.scope x)(hf:X.fn x=ζ\/X.env.scope.names.lookup x=θ .local)
  (hg:Gl X "range") (hm:X.mg "range" = η) (ha:PA X [a] (qL X.K T (.cons ca .nil))) (hs:Ι [a] X.env=[(ε,eval a X.env)]) (hl:rQ m S l=θ cs) (hy:y≠i)
  (hap:PS X (.Expr (.Call (.Attribute (.Name g p4) "append" p5) [e] [] p6) p7) (oV (DB X.K "list" (pK X.K .append) (jG X.K T y .none) (qL X.K T (.cons ce .nil)))))
  (hi2:∀x,wE (.Call (.Name "range" p2) [a] [] p3) X.env x=pure x) :
  PS X (.For (.Name x p1) (.Call (.Name "range" p2) [a] [] p3) (l ++ [.Expr (.Call (.Attribute (.Name g p4) "append" p5) [e] [] p6) p7]) [] pos) (QL X.K T y i ca cs ce):=by
 refine cV (Bt hp hc (yW hg hm ha hs) (se hN hi hx hf) (hX C (lZ hap) m l cs hl) hi2) λD σ H ⟨P,Z,env,F,p,xs,n,R,J,A,zp,hn,he,j0,st,fin⟩=>?_
 refine⟨P,env,F,A.re,_,he,λvs H1 G ar=>?_⟩;have s1:=ar.same;cases ar with
 |cons s2 r1 t1 ar=>
  cases ar;obtain⟨rfl,_⟩:=r1.int_inv;have A1:uX X.K P Z y p xs env σ H1 F:=A.after (After.same A.re A.z s1) A.lk;refine⟨_,rfl,by omega,by omega,?_⟩;rw[bo];refine yo (λk σ' H'=>∃ys e F',J k ys e/\uX X.K P Z y p ys e σ' H' F'/\jV P H H') ⟨xs,env,F,j0,A1,jV.of_same A.re.pl s1⟩ (λk σ' H' hk ⟨ys,e,F',jk,B,ev⟩=>?_) λσ' H' ⟨ys,e,F',jn,B,ev⟩=>fin ys e σ' H' F' jn B ev
  obtain⟨Mn,e2,ys2,zs,q1,q2,q3,q4,q5⟩:=st k ys e hk jk;show nK _ _ _ _ _ (σ'.set i (θ (.int (0+(k:Int))))) H';rw[XR];have B1:=B.Sh Mn hy (k:Int);refine⟨P,Z,_,_,B1.re,B1.z,zp,?_⟩;rw[q1];intro σ2 H2 F2 af;have B2:=B1.after af q2;exact Fz B2 zp q3 q4 λH3 F3 B3 ev3=>⟨zs,_,F3,q5,B3,(ev.trans af.ev).trans ev3⟩
def Ik (K:Frag)(n:Nat)(R:List D->(D->List D->Prop)->Prop):Sp:=λvs H Q E=>∃(ds:List D) (ws:List V) (G:List Addr) (p:Addr) (good:D->List D->Prop),vs=ws ++ [.ref p]/\ds.length=n/\aK K H ds ws G/\H p=θ (.lst [])/\p∉G/\R ds good /\
 ∀d Ln,good d Ln->∀v H' G' us,(∀b u,b≠p->H b=θ u->H' b=θ u)->Rep K H' d v G'->G'.Nodup->(∀a∈G',H a=η/\∃m:ML,H' a=θ m.o)->H' p=θ (.lst us)->aK K H' Ln us []->Q v H'
variable {E:XK}{K:Frag}
theorem Ee {R:List D->(D->List D->Prop)->Prop}{vs:List V}{Q:VK}(h:Ik K n R vs H Q E):vs.length=n+1:=by
 obtain⟨ds,ws,G,p,good,rfl,hl,rs,_⟩:=h;rw[az,<-rs.len,hl];rfl
def vq (T:Tb)(c1:bJ)(y i:Nat)(ca:Ex)(cs:bJ)(ce cr:Ex)(N:Nat)(ds:List D)(good:D->List D->Prop):Prop:=∃(e1:En) (n:Nat) (R:Rt) (J:Nat->List D->En->Prop),aE T c1 (put (aF ds N) y (.lst []) .lk)=.nx e1/\e1[y]? = θ (θ (.lst [],.lk))/\n<=1000/\bL T (.cons ca .nil) e1=.ok [(.int (n:Int),R)]/\J 0 [] e1 /\
 (∀k xs e,k<n->J k xs e->i<e.length/\∃e2 ys zs,aE T cs (put e i (.int (k:Int)) .own)=.nx e2/\e2[y]? = θ (θ (.lst ys,.lk))/\bC T (.mut y .none .append (.cons ce .nil)) (e2.set y (θ (.lst ys,.own)))=.nx (e2.set y (θ (.lst zs,.own)))/\D.Lh zs=ζ/\J (k+1) zs (e2.set y (θ (.lst zs,.lk)))) /\
 ∀xs e,J n xs e->∃d R,ev T cr e=.ok (d,.mv R)/\bV e R=ζ/\good d xs/\D.Lh xs=ζ
variable {F:Nat->List Addr}{env:En}
theorem RE.weak {P P':Addr->Prop}{σ:L2.St}(re:RE K P env σ H F)(h:∀a,P' a->P a):RE K P' env σ H F :=
 ⟨re.len,re.val,re.MN,re.one,λi d e a ha z=>re.wr i d e a ha (h a z),λa z=>re.pl a (h a z)⟩
theorem vv {N:List Str}{ws:List V}{v:V}(h:ws.length<N.length):L2.start N (ws ++ [v])=(L2.start N ws).set ws.length (θ v):=by
 unfold L2.start;rw[List.set_append_right _ _ (by simp),ai,ju,bq,ef,az,i4];obtain⟨k,hk⟩:∃k,N.length-ws.length=k+1:=⟨N.length-ws.length-1,by omega⟩;rw[show N.length-(ws.length+1)=k by omega,hk,dq];rfl
variable {fd:pi}
section
variable {P:Program}{w:Ν}{K:Frag}{mg:Str->Option Value}{base:Heap}
theorem E6 {N:List Str}{c1:bJ}{cr:Ex}(F:L2.uY K x qual st f fd)(S:eZ N ps (aI st))(Pn:ps.length=y+1)
  (hT:∀(Lo:Value) (A:Φ) (outer:List Yw) (s:ρ) (H:Hp) (E:XK),gP n (A.deeper (P3 qual (aI st) s.heap.objs.size f Lo))->lK (iB nh P w K mg base N qual (aI st) f Lo A outer s H E).LR (bB st) (nK K T c1 (G7 (QL K T y i ca cs ce) (JP (tE K T cr))))) :
  oB P w K mg base nh (mz n) f fd ps (Ik K y (vq T c1 y i ca cs ce cr N.length)):=by
 refine Bf F S (λA r=>⟨r.hd,by have:=r.dp;omega⟩) (λvs H Q E h=>by rw[Ee h,Pn]) λLo A outer s H vs Q E hr hs=>⟨_,(hT Lo A outer s H E (hr.deeper _)).LR,?_⟩
 obtain⟨ds,ws,G,p,good,rfl,hl,rs,hp,np,⟨e1,n,R,J,q1,q1y,hn,qa,j0,stp,fin⟩,k⟩:=hs;have hN:y+1<=N.length:=by
  rw[<-Pn,<-S.pre,dk];exact ZK _ _
 have hw:ws.length=y:=by rw[<-rs.len,hl]
 obtain⟨F0,re,hF⟩:=entry (N:=N) rs (by omega);let Pr:Addr->Prop:=λa=>H a≠η/\a≠p
 let Z:Addr->Prop:=λa=>H a=η\/a=p\/a∈G
 have zp:∀a,¬ Pr a->Z a:=λa h=>by
  by_cases h0:H a=η
  .exact .inl h0
  .by_cases h1:a=p
   .exact .inr (.inl h1)
   .exact absurd ⟨h0,h1⟩ h
 have le:y<(aF ds N.length).length:=by unfold aF;simp;omega
 have R9:RE K Pr (put (aF ds N.length) y (.lst []) .lk) (L2.start N (ws ++ [.ref p])) H (oq F0 y [p]):=by
  rw[vv (by omega),hw];exact (re.weak (P':=Pr) λa h=>h.1).put le (.lst (.inl hp) .nil) (λ_=>⟨by simp,λa ha=>⟨.l [],by rw[gu.mp ha];exact hp⟩,λa ha j _ hj=>np (by rw[<-gu.mp ha];exact hF j a hj)⟩) (λz=>by cases z) λa ha j d t _ _ _ hj=>absurd (hF j a hj) (by rw[gu.mp ha];exact np)
 have A0:uX K Pr Z y p [] (put (aF ds N.length) y (.lst []) .lk) (L2.start N (ws ++ [.ref p])) H (oq F0 y [p]) :=
  ⟨R9,mo (λj a ha=>.inr (.inr (hF j a ha))) (λa ha=>.inr (.inl (gu.mp ha))),λz=>z.2 rfl,eJ,eU le⟩
 refine⟨Pr,Z,_,_,A0.re,A0.z,zp,?_⟩;rw[q1];intro σ1 H1 F1 af;refine⟨Pr,Z,e1,F1,p,[],n,R,J,A0.after af q1y,zp,hn,qa,j0,stp,λys e σ' H' F' jn B ev=>?_⟩;obtain⟨d,R',he,ho,hg,hfl⟩:=fin ys e jn;have jW:=af.ev.trans ev;refine⟨Pr,e,F',B.re,_,he,λv H2 G2 s2 rp rt=>?_⟩;obtain⟨m1,m2,m3⟩:=rt.mv R' rfl;obtain⟨u,eu,ru⟩:=B.re.val y _ _ B.lk;rw[B.ref] at eu;cases eu;obtain⟨p',us,G3,e3,e4,e5,e6⟩:=ru.lst_inv;cases e3;have OX:H' p=θ (.lst us):=by
  obtain⟨_,b2,_⟩:=B.re.one y _ _ B.lk rfl;obtain⟨ml,hm⟩:=b2 p (by rw[B.fy];exact gu.mpr rfl);rcases e5 with e5|⟨o,e5⟩
  .exact e5
  .rw[e5] at hm;cases ml<;>cases hm
 rw[e6.flat hfl] at e6;refine k d ys hg v H2 G2 us (λb u hb hu=>s2 _ _ ((jW.keep b ⟨by rw[hu];simp,hb⟩).trans hu)) rp m1 (λa ha=>⟨?_,m2 a ha⟩) (s2 _ _ OX) (e6.same s2);have fresh:¬ Pr a->a≠p->H a=η:=λh h1=>FS.mp λh0=>h ⟨h0,h1⟩
 rcases m3 a ha with q|⟨i,d2,t2,hi,f2,e7,o2⟩
 .refine fresh (λz=>?_) (λz=>?_)
  .rw[jW.keep a z] at q;exact z.1 q
  .rw[z,OX] at q;cases q
 .have:=cz.mp ho i hi;split at this
  .rename_i d3 e8;refine fresh (B.re.wr i d3 e8 a f2) λz=>?_
   have:=(B.re.one y _ _ B.lk rfl).2.2 p (by rw[B.fy];exact gu.mpr rfl) i d3 .own e8 (by rw[<-z];exact f2);simp only[bG,gu] at this;rw[<-this,B.lk] at e8;cases e8
  .cases this
end
theorem tJ {RP:Φ->Prop}{sp:Sp}{p:GE}{es:List Expr}{t:TA}(F:oB X.prog X.w X.K X.mg X.base nh RP f fd ps sp)(hr:RP X.A)(hg:Gl X x)(hm:X.mg x=θ (.ref f))(hk:sw X.K (.ref f)=ζ)(hb:Binds X.K fd ps [])
  (ha:PA X (e::es) t) (N7:(x==("__debug__" : Str))=ε:=by decide) (he:Ι (e::es) X.env=(ε,eval e X.env)::Ι es X.env:=by rfl) (LQ:(Do pos (Ι es X.env)).any (·.1)=ε:=by rfl) :
  PE X (.Call (.Name x p) (e::es) [] pos) (qx sp [] E0 t):=by
 intro pins s σ H Q I h;refine wn (n8 I hg hm ?_ N7);refine YF (h₀:=X.base) I.ok.mod.P6 hk (dG (ha pos pins s σ H _ I h) λus s1 ⟨vs,H1,I1,r,q⟩=>⟨I1.NR,?_⟩) he LQ;have r2:aT (vs ++ []) (us ++ []):=r.append .nil;have hl:(us ++ []).length=ps.length:=by rw[<-r2.length];exact F.len _ _ _ _ q
 refine Z3 (X6 (F.run X.A X.stack s1 H1 ⟨us,[]⟩ (us ++ []) (vs ++ []) Q E0 hr I1.env0 (hb s1 us I1.NR hl) r2 q) λr s' hq=>?_);cases r with
 |error e=>exact bv hq
 |ok fl=>
  cases fl with
  |ret u=>exact I1.after hq
  |next=>exact bv hq
  |brk=>exact bv hq
  |cont=>exact bv hq
theorem RE.P7 {P:Addr->Prop}{σ:L2.St}{H':Hp}(re:RE K P env σ H F)(t:∀b vs,mK K H b vs->mK K H' b vs)(z:Io H H')(k:∀i,∀a∈F i,∀u,H a=θ u->H' a=θ u)(pl:∀a,P a->H' a≠η):RE K P env σ H' F where
 len:=re.len
 val:=λi d tg h=>let ⟨v,a,b⟩:=re.val i d tg h;⟨v,a,b.keep t z λb hb u=>k i b hb u⟩
 MN:=re.MN
 one:=λi d tg h o=>let ⟨a,b,c⟩:=re.one i d tg h o;⟨a,λx hx=>let ⟨vs,q⟩:=b x hx;⟨vs,k i x hx _ q⟩,c⟩
 wr:=re.wr
 pl:=pl
theorem pN {P Z:Addr->Prop}{σ:L2.St}{D:Ends}{x j:Nat}{c1 c2 c3 c4:Ex}{d1 d2 d3 d4:Pc.D}{r1 r2 r3 r4:Rt}{R:List Pc.D->(Pc.D->List Pc.D->Prop)->Prop}{good:Pc.D->List Pc.D->Prop}
  (re:RE K P env σ H F) (hz:∀i,∀a∈F i,Z a) (zp:∀a,¬ P a->Z a) (hx:env[x]? = θ (θ (.lst [],.own))) (ht:∀i d t,i≠x->env[i]? = θ (θ (d,t))->x∉bG i t)
  (h1:ev T c1 env=.ok (d1,r1)) (h2:ev T c2 env=.ok (d2,r2)) (h3:ev T c3 env=.ok (d3,r3)) (h4:ev T c4 env=.ok (d4,r4)) (n1:x∉r1.roots) (n2:x∉r2.roots) (n3:x∉r3.roots) (n4:x∉r4.roots) (hR:R [d1,d2,d3,d4] good)
  (hD:∀d Ln,good d Ln->∃u w env',d=.tup [u,w]/\bindM (λ_=>.own) [i,j] [u,w] (put (env.set x η) x (.lst Ln) .own)=θ env'/\∀σ' H' F',RE K P env' σ' H' F'->(∀i,∀a∈F' i,Z a)->jV P H H'->D.nx σ' H') :
  yu (qx (Ik K 4 R) [] E (iC (tE K T c1) (iC (tE K T c2) (iC (tE K T c3) (iC (tE K T c4) (iC (CN x) yV)))))) (u7 K 2 (gU [i,j])) D σ H:=by
 obtain⟨v,hv,rv⟩:=re.val x _ _ hx;obtain⟨p,vs0,G0,rfl,eF,rd0,rs0⟩:=rv.lst_inv;cases rs0;have hp:H p=θ (.lst []):=by
  obtain⟨_,b2,_⟩:=re.one x _ _ hx rfl;obtain⟨ml,hm⟩:=b2 p (by rw[eF];exact ag);rcases rd0 with e|⟨o,e⟩
  .exact e
  .rw[e] at hm;cases ml<;>cases hm
 have one:=λ(i:Nat) (d:Pc.D) (t:Tg) (e:env[i]? = θ (θ (d,t))) (m:p∈F i)=>(re.one x _ _ hx rfl).2.2 p (by rw[eF];exact ag) i d t e m
 have nP:¬ P p:=re.wr x _ hx p (by rw[eF];exact ag);have QX:∀{H0 H1:Hp}{r:Rt}{G:List Addr},aN H H0->cA env F H0 r H1 G->x∉r.roots->p∉G:=λs t n m=>by
  rcases t.cont p m with q|⟨i,d,t,f,e,sr⟩
  .rw[s _ _ hp] at q;cases q
  .exact n (sr x (one i d t e f))
 refine⟨P,env,F,re,_,h1,λv1 H1 G1 s1 q1 t1=>⟨P,env,F,re.same s1,_,h2,λv2 H2 G2 s2 q2 t2=>?_⟩⟩;have RS:=s1.trans s2;refine⟨P,env,F,re.same RS,_,h3,λv3 H3 G3 s3 q3 t3=>?_⟩;have OF:=RS.trans s3;refine⟨P,env,F,re.same OF,_,h4,λv4 H4 G4 s4 q4 t4=>⟨.ref p,hv,?_⟩⟩;have PF:=OF.trans s4;have p4:=PF _ _ hp;refine⟨[d1,d2,d3,d4],[v1,v2,v3,v4],_,p,good,rfl,rfl,.cons (q1.same (s2.trans (s3.trans s4))) (.cons (q2.same (s3.trans s4)) (.cons (q3.same s4) (.cons q4 .nil))),p4,λm=>?_,hR,λd Ln hg v H' G' us fr rp nd Qw OX rt=>?_⟩
 .simp only[il,dg,or_false] at m;rcases m with m|m|m|m
  .exact QX (aN.refl _) t1 n1 m
  .exact QX s1 t2 n2 m
  .exact QX RS t3 n3 m
  .exact QX OF t4 n4 m
 obtain⟨u,w,env',rfl,hb,hN⟩:=hD d Ln hg;have Nq:=re.same PF;have lx:x<env.length:=(ο.mp hx).1;have he:∀(i:Nat) (d:Pc.D) (t:Tg),(env.set x η)[i]? = θ (θ (d,t))->i≠x/\env[i]? = θ (θ (d,t)):=λi d t e=>by
  by_cases hi:x=i
  .subst hi;rw[ξ lx] at e;cases e
  .rw[μ hi] at e;exact⟨λz=>hi z.symm,e⟩
 obtain⟨F0,re5,TM⟩:∃F0:Nat->List Addr,RE K P (env.set x η) σ H4 F0/\∀i a,a∈F0 i->a∈F i/\∃d t,i≠x/\env[i]? = θ (θ (d,t)):=by
  refine⟨_,Nq.forget (env':=env.set x η) (ak ..) λi d t e=>(he i d t e).2,λi a ha=>?_⟩;split at ha
  .rename_i q e;obtain⟨d,t⟩:=q;obtain⟨e1,e2⟩:=he i d t e;exact⟨ha,d,t,e1,e2⟩
  .cases ha
 have So:∀i,p∉F0 i:=λi m=>by
  obtain⟨m1,d,t,e1,e2⟩:=TM i p m;exact ht i d t e1 e2 (one i d t e2 m1)
 have QZ:∀b u,H4 b=θ u->u≠.lst []->H' b=θ u:=λb u e n=>fr b u (λz=>n (by rw[z,p4] at e;cases e;rfl)) e
 have re6:=re5.P7 (H':=H') (λb vs h=>h.imp (λe=>QZ b _ e (λz=>by cases z)) id) (λb o u e=>QZ b _ e (λz=>by cases z)) (λi a ha u e=>fr a u (λz=>So i (z ▸ ha)) e) λa ha=>by
  cases q:H4 a with
  |none=>exact absurd q (Nq.pl a ha)
  |some u=>rw[fr a u (λz=>nP (z ▸ ha)) q];simp
 have jW:jV P H H':=⟨λa ha=>by
  cases q:H a with
  |none=>exact absurd q (re.pl a ha)
  |some u=>exact fr a u (λz=>nP (z ▸ ha)) (PF _ _ q),λb xs e=>QZ b _ (PF _ _ e) (λz=>by cases z),λb o u e=>QZ b _ (PF _ _ e) (λz=>by cases z)⟩
 have e7:σ.set x (θ (.ref p))=σ:=by
  refine zn λi=>?_
  by_cases hi:x=i
  .subst hi;rw[ξ (by rw[<-re.len];exact lx),hv]
  .rw[μ hi]
 have VZ:=re6.put (i:=x) (d:=.lst Ln) (v:=.ref p) (t:=.own) (by rw[ak];exact lx) (.lst (.inl OX) rt) (λ_=>⟨by simp,λa ha=>⟨.l us,by rw[gu.mp ha];exact OX⟩,λa ha j _=>by rw[gu.mp ha];exact So j⟩) (λ_ a ha=>by rw[gu.mp ha];exact nP) (λa ha j d t _ _ _ m=>absurd m (by rw[gu.mp ha];exact So j));rw[e7] at VZ;obtain⟨a,vs,rfl,a1,a2⟩:=rp.Lk;obtain⟨F',b1,b2,_,b4⟩:=mM (Z:=Z) VZ (mo (λi a ha=>hz i a (TM i a ha).1) λa ha=>by rw[gu.mp ha];exact zp p nP) a2 nd (λa ha=>(Qw a ha).2) (λa ha z=>Nq.pl a z (Qw a ha).1) (λa ha=>zp a λz=>Nq.pl a z (Qw a ha).1) (λa ha k m=>by
  by_cases hk:k=x
  .subst hk;rw[eJ,gu] at m;have:=(Qw a ha).1;rw[m,p4] at this;cases this
  .rw[dZ hk] at m;obtain⟨m1,d,t,_,e2⟩:=TM k a m;exact Nq.nn e2 m1 (Qw a ha).1) hb
 exact⟨a,vs,rfl,a1,b4.symm,j9 b4 (hN _ _ F' b1 b2 jW)⟩
end Pc
end
section
namespace K23
open PySem Pc Pc.Sm Pc.Gr Pc.Lw Pc.Vw Fl64 Md
open K16 (Tr BI qc cost gY kP jB)
def Good (a b:Nat)(dt:List Nat)(d:D)(Ln:List D):Prop:=∃TS sp,TS.length=nb a/\CU a b dt TS sp/\Ln=TS.map tD/\d=.tup [.lst (gD sp),.lst (gD (cO (ms (FT a TS))))]
noncomputable def Dz:bJ:=.cons (.asg (.nm 5) (.call 30 (K9 KR)) ε) (.cons (.asg (.nm 6) (.blt .list (K9 KW)) ε) (.cons (.asg (.nm 7) (.lst .nil) ε) .nil))
noncomputable def eN:Ex:=.blt .len (K9 KR)
noncomputable def eR:Ex:=.tup (La KZ (.blt .sorted (K9 K0)))
variable {TS:List (List Tr)}{e:En}{sp:List Nat}
section
variable {a b:Nat}{dt:List Nat}{cs:List Int}
theorem C7 (ha:a<5)(hd:Gr dt):Gr (wrap a b dt):=λg hg=>by
 obtain⟨p,_,rfl⟩:=χ.mp hg;unfold wv;refine dN (λz hz=>?_) _;rw[ι] at hz;cases q:(rows a b dt (nb a))[((SP a).getD p (0,0)).1]? with
 |none=>rw[q] at hz;cases hz
 |some r=>
  rw[q] at hz;obtain⟨j,_,rfl⟩:=χ.mp (Α q);exact (oC hd j).1 z hz
theorem CU.nil (ha:a<5)(hd:Gr dt):CU a b dt [] (wrap a b dt) :=
 ⟨λj ts e=>by simp at e,by simp[FT,ms],⟨C7 ha hd,rfl,λt ht=>by simp[FT] at ht,λ_ _=>rfl⟩⟩
theorem pre (m n:Nat)(ha:a<5)(hd:Gr dt)(hn:8<=n):∃e1,aE (T (m+1)) Dz (put (aF [.lst (cs.map D.int),.lst (gD (wrap a b dt)),.lst (gD (CT a)),.int (C a b:Nat)] n) 4 (.lst []) .lk)=.nx e1/\jA 4 (.lst []) e1 (VD a b dt cs [] (wrap a b dt) [] (ν (n-8) η)):=by
 have V0:=Tv.start [.lst (cs.map D.int),.lst (gD (wrap a b dt)),.lst (gD (CT a)),.int (C a b:Nat)] n;have e4:(aF [.lst (cs.map D.int),.lst (gD (wrap a b dt)),.lst (gD (CT a)),.int (C a b:Nat)] n).length=n:=by unfold aF;simp;omega
 rw[bT V0.tm];have V1:jA 4 (.lst []) _ _:=⟨V0.set 4 (.lst []) .lk ε (iK _) (λh=>by cases h),ξ (by omega)⟩;obtain⟨k,rfl⟩:∃k,n=k+8:=⟨n-8,by omega⟩;have er:ν (k+8-4) (η:Option (D×Bool))=η::η::η::η::ν k η:=rfl;have ln:∀i,i<8->i<(θ (D.lst (cs.map D.int),ε)::θ (.lst (gD (wrap a b dt)),ε)::θ (.lst (gD (CT a)),ε)::θ (.int (C a b:Nat),ε)::θ (.lst [],ε)::η::η::η::ν k η).length:=λi h=>by simp;omega
 obtain⟨e2,q2,V2⟩:=V1.asg (T:=T (m+1)) (i:=5) (ln 5 (by decide)) (by decide) (oA (V1.tv.var (i:=2) rfl) (up (r30 a ha) (m+1) (by omega)));obtain⟨e3,q3,V3⟩:=V2.asg (T:=T (m+1)) (i:=6) (by rw[ak];exact ln 6 (by decide)) (by decide) (sZ (aG.LC (k:=.list) (V2.tv.var (i:=1) rfl) (z:=.lst (gD (wrap a b dt))) rfl) (iF _));obtain⟨e4',q4,V4⟩:=V3.asg (T:=T (m+1)) (i:=7) (e:=.lst .nil) (x:=.lst (gD [])) (by rw[ak,ak];exact ln 7 (by decide)) (by decide) (by rw[ev,bL,aB];rfl);exact⟨e4',p8 q2 (p8 q3 (p8 q4 Pc.Nw.eX)),V4⟩
theorem IM {T:Tb}{vs:List (Option (D×Bool))}(ha:a<5)(V:Tv e vs)(h:vs[2]? = θ (θ (.lst (gD (CT a)),ε))):bL T (.cons eN .nil) e=.ok [(.int (nb a:Int),.mv [])]:=by
 have:=V.vw.len (T:=T) (i:=2) (l:=CT a) (by rw[π,h];rfl);rw[(fact ha (show 0<4 by decide)).1] at this;rw[bL,eN,sZ this rfl,aB,bL,aB]
theorem fin {T:Tb}{Ln:List D}{r:List (Option (D×Bool))}(ha:a<5)(hb:b<4)(MK:a<3\/b<2)(hT:TS.length=nb a)(I:CU a b dt TS sp)(V:jA 4 (.lst Ln) e (VD a b dt cs Ln sp (ms (FT a TS)) r)):ev T eR e=.ok (.tup [.lst (gD sp),.lst (gD (cO (ms (FT a TS))))],.mv [6])/\bV e [6]=ζ:=by
 have o6:=V.tv.own (i:=6) rfl;have f:=(fact ha hb).2.2.2.2.2.2.2.2.2.2 MK;have s7:=sZ (aG.sorted (T:=T) (V.tv.var (i:=7) rfl) (by have:=I.Qx;rw[hT] at this;omega)) (iF _);have v6:ev T KZ e=.ok (.lst (gD sp),.mv [6]):=bP o6 rfl;refine⟨?_,by unfold bV;rw[fh,jb,o6];rfl⟩;rw[eR,ev,bL,v6,aB,bL,s7,aB,bL,aB,aB,aB];rfl
theorem JX (m:Nat)(ha:a<5)(hb:b<4)(MK:a<3\/b<2)(hd:Gr dt)(WK:cs.length=3):vq (T (m+1)) Dz 4 8 eN dB dA eR 15 [.lst (cs.map D.int),.lst (gD (wrap a b dt)),.lst (gD (CT a)),.int (C a b:Nat)] (Good a b dt):=by
 obtain⟨e1,q1,V1⟩:=pre m 15 ha hd (by decide) (b:=b) (cs:=cs);have f2:=(fact ha hb).2.1;refine⟨e1,nb a,_,JD a b dt cs,q1,V1.lk,by omega,IM ha V1.tv rfl,⟨[],wrap a b dt,_,_,_,_,_,_,_,rfl,rfl,CU.nil ha hd,V1⟩,λk xs e hk J=>HY m ha hb WK k xs e hk J,λxs e J=>?_⟩;obtain⟨TS,sp,v8,v9,v10,v11,L7,LW,Me,hT,rfl,I,V⟩:=J;obtain⟨g1,g2⟩:=fin (T:=T (m+1)) ha hb MK hT I V;exact⟨_,_,g1,g2,⟨TS,sp,hT,I,rfl,rfl⟩,kg TS⟩
theorem IB (m:Nat)(ha:a<5)(hb:b<4)(MK:a<3\/b<2)(hd:Gr dt):vq (T (m+2)) Dz 4 8 eN gB gA eR 17 [.lst (cs.map D.int),.lst (gD (wrap a b dt)),.lst (gD (CT a)),.int (C a b:Nat)] (Good a b dt):=by
 obtain⟨e1,q1,V1⟩:=pre (m+1) 17 ha hd (by decide) (b:=b) (cs:=cs);have f2:=(fact ha hb).2.1;refine⟨e1,nb a,_,JG a b dt cs,q1,V1.lk,by omega,IM ha V1.tv rfl,⟨[],wrap a b dt,_,_,_,_,_,_,_,_,_,rfl,rfl,CU.nil ha hd,V1⟩,λk xs e hk J=>Ie m ha hb k xs e hk J,λxs e J=>?_⟩;obtain⟨TS,sp,v8,v9,v10,v11,L7,LW,Me,Ng,Nf,hT,rfl,I,V⟩:=J;obtain⟨g1,g2⟩:=fin (T:=T (m+2)) ha hb MK hT I V;exact⟨_,_,g1,g2,⟨TS,sp,hT,I,rfl,rfl⟩,kg TS⟩
end
open K16 (Tr BI qc cost gY kP jB)
theorem zO:∀l:List Nat,(gI l).sum=((l.sum:Nat):Int)
 |[]=>rfl
 |x::l=>by
  show (x:Int)+(gI l).sum=_;rw[zO l,Ym];omega
theorem RL (l:List Nat):kS .sum [.lst (gD l)]=θ (.int (l.sum:Nat)):=by
 show (vH 0 (gD l)).map D.int=_;rw[sP,sum_ints,zO,XR];rfl
noncomputable def eK:Ex:=.bin .Sub (.blt .sum (K9 KY)) (.bin .Mult KZ (Ld KY))
variable {x y:D}
section
variable {a b:Nat}{dt:List Nat}{T0:Tb}{env:En}{vs:List (Option (D×Bool))}
theorem E8 (ha:a<5)(hb:b<4)(V:Tv env vs)(h5:vs[5]? = θ (θ (.lst (gD (CT a)),ζ)))(h6:vs[6]? = θ (θ (.int (C a b:Int),ζ))):aG T0 eK env (.int ((DU a b).sum:Nat)):=by
 obtain⟨f1,f2,f3,f4,f5,f6,f7,f8,f9,_⟩:=fact ha hb;have l5:=V.vw.len (T:=T0) (i:=5) (l:=CT a) (by rw[π,h5];rfl);rw[f1] at l5;refine aG.bin (op:=.Sub) (aG.LC (k:=.sum) (V.var (i:=5) h5) (RL (CT a))) (aG.bin (op:=.Mult) (V.var (i:=6) h6) l5 (z:=.int ((C a b*nb a:Nat):Int)) ?_) ?_
 .rw[aS,K16.jJ (pL (by omega) (by omega))];show θ (D.int _)=_;rw[ZV]
 .show θ (D.int (((CT a).sum:Int)-((C a b*nb a:Nat):Int)))=_;rw[f9];congr 2;omega
theorem Tv.QE (h:Tv env vs){i j k l:Nat}(hi:i<vs.length)(hj:j<vs.length)(hk:k<vs.length)(hl:l<vs.length){e:Ex}{z w:D}(he:ev T0 e env=.ok (.tup [x,y,z,w],.mv [])):∃env',bC T0 (.asg (.tp [i,j,k,l]) e ε) env=.nx env'/\Tv env' ((((vs.set i (θ (x,ζ))).set j (θ (y,ζ))).set k (θ (z,ζ))).set l (θ (w,ζ))):=by
 have s:=λ{env:En}{vs:List (Option (D×Bool))}(h:Tv env vs) (i:Nat) (d:D)=>h.set i d .own ζ (aC _) λ_=>rfl
 refine⟨_,?_,s (s (s (s h i x) j y) k z) l w⟩;have e0:=h.len;rw[bC,he,aP];show yU (bindM (λ_=>Tg.own) [i,j,k,l] [x,y,z,w] env)=_;have t1:=h.tm.set (aC x) i;have t2:=t1.set (aC y) j;have t3:=t2.set (aC z) k;simp only[bindM];rw[if_pos (by omega),bT h.tm,if_pos (by rw[ak];omega),bT t1,if_pos (by rw[ak,ak];omega),bT t2,if_pos (by rw[ak,ak,ak];omega),bT t3];rfl
end
noncomputable abbrev VL (ns:List Int)(Ln:List D)(cells:D)(a b:Nat)(dt:List Nat)(r:List (Option (D×Bool))):List (Option (D×Bool)):=θ (.lst (ns.map D.int),ε)::θ (.lst Ln,ζ)::θ (cells,ζ)::θ (m5 a,ζ)::θ (.int (b:Int),ζ)::θ (.lst (gD (CT a)),ζ)::θ (.int (C a b:Int),ζ)::θ (.lst (gD dt),ζ)::θ (.lst (gD (wrap a b dt)),ζ)::r
noncomputable def wA:bJ:=(.cons (.asg (.tp [3,4,5,6]) (.call 29 (K9 (.bin .FloorDiv (.ix KR Kw) Ku))) ε)
  (.cons (.asg (.nm 7) (.call 36 (.cons (.sl KR (.some Kv) (.some KO)) (.cons eK .nil))) ε)
  (.cons (.asg (.nm 8) (.call 21 (Lb (.blt .list (K9 K0)) KS KQ)) ε) .nil)))
noncomputable def wB:bJ:=(.cons (.asg (.tp [3,4,5,6]) (.call 29 (K9 (.call 26 (La (.call 25 (La KU Kw)) Kv)))) ε)
  (.cons (.asg (.nm 7) (.call 27 (.cons KU (.cons eK .nil))) ε)
  (.cons (.asg (.nm 8) (.call 21 (Lb (.blt .list (K9 K0)) KS KQ)) ε) .nil)))
noncomputable def w0:bJ:=(.cons (.asg (.nm 1) (.lst .nil) ε)
  (.cons (.asg (.nm 2) (.comp 1 [0] (.nm 0) (.Lm KL) .none (.call 34 (La KW KU))) ε) .nil))
noncomputable abbrev cD (c:Nat->Int):D:=.lst ((υ 8).map λk=>.int (c k))
noncomputable abbrev Su:List (Option (D×Bool)):=[η,η,η,η,η]
variable {c:Nat->Int}
section
variable {ns:List Int}
theorem q0 (m:Nat)(ns:List Int):∃c e,aE (T (m+2)) w0 (aF [.lst (ns.map D.int)] 14)=.nx e/\Tv e [θ (.lst (ns.map D.int),ε),θ (.lst [],ζ),θ (cD c,ζ),η,η,η,η,η,η,η,η,η,η,η]:=by
 have V0:Tv (aF [.lst (ns.map D.int)] 14) [θ (.lst (ns.map D.int),ε),η,η,η,η,η,η,η,η,η,η,η,η,η]:=Tv.start _ 14;obtain⟨e1,q1,V1⟩:=V0.asg (T:=T (m+2)) (i:=1) (e:=.lst .nil) (d:=.lst []) (show (1:Nat)<14 by decide) (by rw[ev,bL,aB];rfl);have pk:∀(j:Nat) (d:D),[θ (D.lst (ns.map D.int))][j]? = θ (θ d)->∃i,[0][j]? = θ i/\(([θ (D.lst (ns.map D.int),ε),η,η,η,η,η,η,η,η,η,η,η,η,η].set 1 (θ (.lst [],ζ))).map λo=>o.map (·.1))[i]? = θ (θ d):=λj d e=>by
  cases j with
  |zero=>exact⟨0,rfl,e⟩
  |succ j=>cases e
 have c2:=tG (T:=T (m+2)) (env:=e1) (own:=1) (pick:=[0]) (t:=.nm 0) (c:=.none) (e:=.call 34 (La KW KU)) (l:=υ 8) (g:=λ(k:Nat)=>.int (k:Int)) (r:=λk=>.int (ď (WS m ns k))) (k:=λ_=>ζ) (rM (n:=8) (aG.cst _) (by decide)) (by decide) (λk hk=>by
  obtain⟨h0,W⟩:=V1.vw.picked (pick:=[0]) (ws:=[θ (D.lst (ns.map D.int))]) pk rfl (.int (k:Int));obtain⟨fr,hf⟩:=Đ (WS m ns k);refine⟨_,?_,rfl,aG.cJ (W.var (i:=1) rfl) (W.var (i:=0) rfl) hf,rfl⟩;show (if 0<(aO e1 1 [0]).length then θ (put (aO e1 1 [0]) 0 (.int (k:Int)) .own) else η)=_;rw[if_pos h0])
 rw[filter_tt] at c2;obtain⟨e2,q2,V2⟩:=V1.asg (T:=T (m+2)) (i:=2) (show (2:Nat)<14 by decide) c2;exact⟨_,e2,p8 q1 (p8 q2 Pc.Nw.eX),V2⟩
theorem qA (m:Nat)(V:Tv e [θ (.lst (ns.map D.int),ε),θ (.lst [],ζ),θ (cD c,ζ),η,η,η,η,η,η,η,η,η,η,η]):∃a b dt e',a<5/\b<4/\(a<3\/b<2)/\Gr dt/\dt.length=(DU a b).sum/\aE (T (m+5)) wA e=.nx e'/\Tv e' (VL ns [] (cD c) a b dt Su):=by
 obtain⟨a,b,ha,hb,MK,O5⟩:=WT (m+4) (c 0 / 2);obtain⟨e1,q1,V1⟩:=Tv.QE (T0:=T (m+5)) V (i:=3) (j:=4) (k:=5) (l:=6) (show (3:Nat)<14 by decide) (show (4:Nat)<14 by decide) (show (5:Nat)<14 by decide) (show (6:Nat)<14 by decide) (oA (aG.bin (op:=.FloorDiv) (aG.ix (V.var (i:=2) rfl) (aG.cst (.int 0)) (z:=.int (c 0)) rfl) (aG.cst (.int 2)) (z:=.int (c 0 / 2)) rfl) O5);obtain⟨gs,gg,lg,eg⟩:=BW (λk=>c (k+1)) (DU a b).sum;have WR:=up (r36 (λk=>c (k+1)) a b ha hb) (m+5) (by omega);rw[eg] at WR;obtain⟨e2,q2,V2⟩:=V1.asg (T:=T (m+5)) (i:=7) (show (7:Nat)<14 by decide) (dS (aG.sl (m:=1) (c:=5) (V1.var (i:=2) rfl) (aG.cst _) (aG.cst _) (z:=Xa λk=>c (k+1)) rfl) (E8 ha hb V1 rfl rfl) WR);obtain⟨e3,q3,V3⟩:=V2.asg (T:=T (m+5)) (i:=8) (show (8:Nat)<14 by decide) (mV (aG.LC (k:=.list) (V2.var (i:=7) rfl) (z:=.lst (gD gs)) rfl) (V2.var (i:=3) rfl) (V2.var (i:=4) rfl) (WV m ha hb lg gg));exact⟨a,b,gs,e3,ha,hb,MK,gg,lg,p8 q1 (p8 q2 (p8 q3 Pc.Nw.eX)),V3⟩
theorem qB (m:Nat)(hn:ns.length<=63)(V:Tv e [θ (.lst (ns.map D.int),ε),θ (.lst [],ζ),θ (cD c,ζ),η,η,η,η,η,η,η,η,η,η,η]):∃a b dt e',a<5/\b<4/\(a<3\/b<2)/\Gr dt/\dt.length=(DU a b).sum/\aE (T (m+5)) wB e=.nx e'/\Tv e' (VL ns [] (cD c) a b dt Su):=by
 obtain⟨v,hv⟩:=F8 (m+4) ns 0;obtain⟨d,_,hd⟩:=GI (m+4) v 1;obtain⟨a,b,ha,hb,MK,O5⟩:=WT (m+4) d;obtain⟨e1,q1,V1⟩:=Tv.QE (T0:=T (m+5)) V (i:=3) (j:=4) (k:=5) (l:=6) (show (3:Nat)<14 by decide) (show (4:Nat)<14 by decide) (show (5:Nat)<14 by decide) (show (6:Nat)<14 by decide) (oA (aG.of (dS (aG.of (dS (V.var (i:=0) rfl) (aG.cst _) hv)) (aG.cst _) hd)) O5);obtain⟨f1,f2,f3,f4,f5,f6,f7,f8,_⟩:=fact ha hb;obtain⟨gs,gg,lg,TY⟩:=h27 (m+3) ns hn (DU a b).sum f7 (by omega);obtain⟨e2,q2,V2⟩:=V1.asg (T:=T (m+5)) (i:=7) (show (7:Nat)<14 by decide) (dS (V1.var (i:=0) rfl) (E8 ha hb V1 rfl rfl) TY);obtain⟨e3,q3,V3⟩:=V2.asg (T:=T (m+5)) (i:=8) (show (8:Nat)<14 by decide) (mV (aG.LC (k:=.list) (V2.var (i:=7) rfl) (z:=.lst (gD gs)) rfl) (V2.var (i:=3) rfl) (V2.var (i:=4) rfl) (WV m ha hb lg gg));exact⟨a,b,gs,e3,ha,hb,MK,gg,lg,p8 q1 (p8 q2 (p8 q3 Pc.Nw.eX)),V3⟩
end
open K16 (Tr BI qc cost gY kP jB)
variable {xs:List D}
section
variable {T0:Tb}{env:En}{vs:List (Option (D×Bool))}
theorem vD {a b:Ex}(h:ev T0 a env=.ok (x,.mv []))(h':ev T0 b env=.ok (y,.mv [])):ev T0 (.lst (.cons a (.cons b .nil))) env=.ok (.lst [x,y],.mv []):=by
 rw[ev,bL,h,aB,bL,h',aB,bL,aB,aB,aB];rfl
theorem zU {c:Ex}{p:bJ}(h:aG T0 c env (.bl ε)):bC T0 (.ite c p .nil) env=.nx env:=by
 rw[kB h,if_neg (by decide)];exact Pc.Nw.eX
theorem Tv.Vs (h:Tv env vs){x:Nat}(hx:vs[x]? = θ (θ (.tup [.lst xs,y],ζ)))(z:D)(hl:xs.length<1000):∃env',bC T0 (.mut x (.some Kw) .append (K9 (.cst z))) env=.nx env'/\Tv env' (vs.set x (θ (.tup [.lst (xs ++ [z]),y],ζ))):=by
 have ho:ownAt env x=θ (.tup [.lst xs,y]):=by unfold ownAt;rw[h.own hx]
 refine⟨_,?_,h.set x (.tup [.lst (xs ++ [z]),y]) .own ζ (aC _) λ_=>rfl⟩;have Mb:D.LL (.tup [.lst xs,y]) (θ 0)=θ xs:=rfl;have hs:bL T0 (K9 (.cst z)) env=.ok [(z,.mv [])]:=by rw[bL,ev,aB,bL];rfl
 have this:(xs ++ [z]).length<=lim:=by rw[az];exact cY (by simp;omega)
 have st:D.LO (.tup [.lst xs,y]) (θ 0) (xs ++ [z])=.tup [.lst (xs ++ [z]),y]:=rfl;rw[bC,ho];simp only[jW,ev,aB,aP,Mb,hs,av,jw,sX,bF,Rt.roots,dz,jm,bc,i0,a8,if_false,sj.Lz,dU,eW,bw];simp only[bj,decide_true,bV,jb,je,ik,this,if_true,st,g8];rw[fM h.tm]
theorem Tv.UI (h:Tv env vs){x:Nat}(hx:vs[x]? = θ (θ (.tup [y,.lst xs],ζ))):∃env',bC T0 (.mut x (.some Kv) .clear .nil) env=.nx env'/\Tv env' (vs.set x (θ (.tup [y,.lst []],ζ))):=by
 have ho:ownAt env x=θ (.tup [y,.lst xs]):=by unfold ownAt;rw[h.own hx]
 refine⟨_,?_,h.set x (.tup [y,.lst []]) .own ζ (aC _) λ_=>rfl⟩;have Mb:D.LL (.tup [y,.lst xs]) (θ 1)=θ xs:=rfl;have hs:bL T0 .nil env=.ok []:=by rw[bL]
 have this:([]:List D).length<=lim:=dn _;have st:D.LO (.tup [y,.lst xs]) (θ 1) []=.tup [y,.lst []]:=rfl;rw[bC,ho];simp only[jW,ev,aB,aP,Mb,hs,jw,yy,bF,jm,i0,a8,if_false,sj.Lz,dU,eW];simp only[bj,decide_true,bV,jb,je,ik,this,if_true,st,g8];rw[fM h.tm]
end
theorem eqP:∀l:List (Nat×Nat),D.Lq 40 (.lst (l.map bD)) (.lst (l.map bD))=θ ζ:=λl=>by
 show (if _=_ then lJ (D.Lq 39) (l.map bD) (l.map bD) else θ ε)=_;rw[if_pos rfl]
 induction l with
 |nil=>rfl
 |cons p l ih=>
  have e:D.Lq 39 (bD p) (bD p)=θ ζ:=by
   show (if 2=2 then lJ (D.Lq 38) [.int (p.1:Int),.int (p.2:Int)] [.int (p.1:Int),.int (p.2:Int)] else _)=_;rw[if_pos rfl,lJ,show D.Lq 38 (.int (p.1:Int)) (.int (p.1:Int))=θ ζ from fm θ (fw _),lJ,show D.Lq 38 (.int (p.2:Int)) (.int (p.2:Int))=θ ζ from fm θ (fw _),lJ];rfl
  rw[av,lJ,e,ih];rfl
theorem eq2 (a b:List Nat):D.Lq 40 (.lst [.lst (gD a),.lst (gD b)]) (.lst [.lst (gD a),.lst (gD b)])=θ ζ:=by
 have e:∀a:List Nat,D.Lq 39 (.lst (gD a)) (.lst (gD a))=θ ζ:=λa=>by rw[sP,wu 37];simp
 show (if (2:Nat)=2 then lJ (D.Lq 39) [.lst (gD a),.lst (gD b)] [.lst (gD a),.lst (gD b)] else θ ε)=θ ζ;rw[if_pos rfl,lJ,e,lJ,e,lJ];rfl
theorem QY (h:D.Lq 40 x x=θ ζ):mE .NotEq x x=θ ε:=by
 show (D.Lq 40 x x).map (!·)=_;rw[h];rfl
theorem eqG (l:List Nat):D.Lq 40 (.lst (gD l)) (.lst (gD l))=θ ζ:=by rw[sP,wu 38];simp
noncomputable def w6:Ex:=(.or (.not (.blt (.MU "tuple") (K9 K5))) (.or (.cmp .NotEq (Ld K5) Ku) (.or (.not (.call 24 (K9 (.ix K5 Kw)))) (.not (.call 24 (K9 (.ix K5 Kv)))))))
noncomputable def no:bJ:=(.cons (.ret (.cst (.bl ε))) .nil)
noncomputable def wR:bJ:=(.cons (.asg (.nm 11) (.lst (La (.blt .list (K9 K6)) (.blt .list (K9 K2)))) ε)
  (.cons (.asg (.nm 12) (.call 22 (Lc (.ix K4 Kw) (.ix K4 Kv) KS KQ)) ε)
  (.cons (.ite (.or (.cmp .NotEq K4 (.lst (La K6 K2))) (.or (.not (.blt (.MU "tuple") (K9 K3))) (.cmp .NotEq (Ld K3) Ku))) no .nil)
  (.cons (.ite (.or (.not (.call 28 (La (.ix K3 Kw) (Ld K0)))) (.cmp .NotEq (.ix K3 Kw) K0)) no .nil)
  (.cons (.ite (.or (.not (.blt (.MU "list") (K9 (.ix K3 Kv)))) (.cmp .NotEq (Ld (.ix K3 Kv)) (Ld KW))) no .nil)
  (.cons (.Li (.nm 13) (.seq (.ix K3 Kv)) (.cons (.ite w6 no .nil) .nil))
  (.cons (.ite (.cmp .NotEq (.ix K3 Kv) KW) no .nil)
  (.cons (.mut 12 (.some Kw) .append (K9 Kv))
  (.cons (.mut 12 (.some Kv) .clear .nil)
  (.cons (.ret (.cmp .Eq K4 (.lst (La K6 K2)))) .nil))))))))))
theorem qR (m:Nat){ns:List Int}{a b:Nat}{dt:List Nat}{cells:D}(ha:a<5)(hb:b<4)(hl:dt.length=(DU a b).sum)(hd:Gr dt)(hT:TS.length=nb a)(I:CU a b dt TS sp)
  (V:Tv e (VL ns (TS.map tD) cells a b dt [θ (.lst (gD sp),ζ),θ (.lst (gD (cO (ms (FT a TS)))),ζ),η,η,η])):∃fr,Pc.ret (aE (T (m+8)) wR e)=.ok (.bl ζ,fr):=by
 obtain⟨f1,f2,f3,f4,f5,f6,f7,f8,_⟩:=fact ha hb;have LL:∀j,j<nb a->TS[j]? = θ (TS.getD j []):=λj hj=>by rw[ι,τ (by omega)];rfl
 have cs:=λj hj=>cases ha hb hl hd I.bd hT I.sk (LL j hj)
 have O6:=h22 m (w:=λj=>cO (gY (TS.getD j []) 1)) ha hb hl hd (by rw[I.sk.len,kh]) λj hj=>(cs j hj).1
 have eB:(υ (nb a)).map (λj=>bD ((cO (gY (TS.getD j []) 1)).length,(ud a (cO (ms (FT a TS))) j).length))=TS.map tD:=by
  refine cj (by simp[hT]) λj h1 h2=>?_
  have hj:j<nb a:=by simpa using h1
  rw[dm,dm,gv,(cs j hj).2.1,(cs j hj).2.2,ι,τ (by omega)];rfl
 rw[eB] at O6;generalize cO (ms (FT a TS))=M at V O6;have eP:TS.map tD=(TS.map λts=>(cn 1 ts,cn 2 ts)).map bD:=by rw[aw];rfl
 obtain⟨e1,q1,V1⟩:=V.asg (T:=T (m+8)) (i:=11) (show (11:Nat)<14 by decide) (vD (sZ (aG.LC (k:=.list) (V.var (i:=9) rfl) (z:=.lst (gD sp)) rfl) (iF _)) (sZ (aG.LC (k:=.list) (V.var (i:=10) rfl) (z:=.lst (gD M)) rfl) (iF _)));obtain⟨e2,q2,V2⟩:=V1.asg (T:=T (m+8)) (i:=12) (show (12:Nat)<14 by decide) (vg (aG.ix (V1.var (i:=11) rfl) (aG.cst (.int 0)) (z:=.lst (gD sp)) rfl) (aG.ix (V1.var (i:=11) rfl) (aG.cst (.int 1)) (z:=.lst (gD M)) rfl) (V1.var (i:=3) rfl) (V1.var (i:=4) rfl) O6);have M2:∀{e:En}{L7 LW:Option (D×Bool)},Tv e (VL ns (TS.map tD) cells a b dt [θ (.lst (gD sp),ζ),θ (.lst (gD M),ζ),θ (.lst [.lst (gD sp),.lst (gD M)],ζ),L7,LW])->aG (T (m+8)) (.lst (La K6 K2)) e (.lst [.lst (gD sp),.lst (gD M)]):=λV=>aG.M2 (V.var (i:=9) rfl) (V.var (i:=10) rfl)
 have x0:aG (T (m+8)) (.ix K3 Kw) e2 (.lst (gD dt)):=aG.ix (V2.var (i:=12) rfl) (aG.cst _) rfl;have x1:aG (T (m+8)) (.ix K3 Kv) e2 (.lst (TS.map tD)):=aG.ix (V2.var (i:=12) rfl) (aG.cst _) rfl;have q3:=zU (T0:=T (m+8)) (p:=no) (aG.or (k:=ε) (w:=ε) (aG.cmp (V2.var (i:=11) rfl) (M2 V2) (QY (eq2 sp M))) (λ_=>aG.or (k:=ε) (aG.not (k:=ζ) (aG.LC (k:=.MU "tuple") (V2.var (i:=12) rfl) rfl)) (λ_=>aG.cmp (op:=.NotEq) (aG.LC (k:=.len) (V2.var (i:=12) rfl) (z:=.int 2) rfl) (aG.cst (.int 2)) rfl) (λh=>by cases h)) (λh=>by cases h));have q4:=zU (T0:=T (m+8)) (p:=no) (aG.or (k:=ε) (w:=ε) (aG.not (k:=ζ) (aG.of (dS x0 (V2.vw.len (i:=7) (l:=dt) rfl) (h28 (m+6) hd _ rfl)))) (λ_=>aG.cmp x0 (V2.var (i:=7) rfl) (QY (eqG dt))) (λh=>by cases h));have q5:=zU (T0:=T (m+8)) (p:=no) (aG.or (k:=ε) (w:=ε) (aG.not (k:=ζ) (aG.LC (k:=.MU "list") x1 rfl)) (λ_=>aG.cmp (aG.LC (k:=.len) x1 (z:=.int ((TS.map tD).length:Int)) rfl) (aG.LC (k:=.len) (V2.var (i:=1) rfl) (z:=.int ((TS.map tD).length:Int)) rfl) (QY (fm θ (fw _)))) (λh=>by cases h));have Wg:e2[12]? = θ (θ (.tup [.lst (gD dt),.lst (TS.map tD)],.own)):=V2.own (i:=12) rfl;have hit:fU (T (m+8)) (.seq (.ix K3 Kv)) e2=.ok (TS.map tD,[12]):=by
  have L7:ev (T (m+8)) K3 e2=.ok (.tup [.lst (gD dt),.lst (TS.map tD)],.mv [12]):=bP Wg rfl;rw[fU,ev,L7,aB,ev,aB];rfl
 obtain⟨e3,q6,LW,V3⟩:=qd (t:=.nm 13) (R:=[12]) (b:=aE (T (m+8)) (.cons (.ite w6 no .nil) .nil)) (λ_ env=>∃LW,jA 12 (.tup [.lst (gD dt),.lst (TS.map tD)]) env (VL ns (TS.map tD) cells a b dt [θ (.lst (gD sp),ζ),θ (.lst (gD M),ζ),θ (.lst [.lst (gD sp),.lst (gD M)],ζ),θ (.tup [.lst (gD dt),.lst (TS.map tD)],ε),LW])) (TS.map tD) 0 (e2.set 12 (θ (.tup [.lst (gD dt),.lst (TS.map tD)],.lk))) ⟨η,V2.set 12 _ .lk ε (iK _) (λh=>by cases h),ξ (by rw[V2.len];exact (by decide:(12:Nat)<14))⟩ (λi d e Mv ⟨LW,W⟩=>by
  obtain⟨ts,_,rfl⟩:=χ.mp (Α Mv);have Rf:be [12] (.nm 13) (tD ts) e=θ (e.set 13 (θ (tD ts,.own))):=by
   show (if 13<e.length then θ (put e 13 (tD ts) .own) else η)=_;rw[if_pos (by rw[W.tv.len];exact (by decide:(13:Nat)<14)),bT W.tv.tm]
  have W1:=W.own (i:=13) (by decide) (tD ts);have y:∀(j:Nat) (x:Nat),EN (tD ts) (.int (j:Int))=θ (.int (x:Int))->aG (T (m+8)) (.not (.call 24 (K9 (.ix K5 (.cst (.int (j:Int))))))) (e.set 13 (θ (tD ts,.own))) (.bl ε):=λj x hx=>aG.not (k:=ζ) (aG.of (oA (aG.ix (W1.tv.var (i:=13) rfl) (aG.cst _) hx) (WU (m+7) x)))
  have c6:aG (T (m+8)) w6 (e.set 13 (θ (tD ts,.own))) (.bl ε):=aG.or (k:=ε) (aG.not (k:=ζ) (aG.LC (k:=.MU "tuple") (W1.tv.var (i:=13) rfl) rfl)) (λ_=>aG.or (k:=ε) (aG.cmp (op:=.NotEq) (aG.LC (k:=.len) (W1.tv.var (i:=13) rfl) (z:=.int 2) rfl) (aG.cst (.int 2)) rfl) (λ_=>aG.or (k:=ε) (y 0 (cn 1 ts) rfl) (λ_=>y 1 (cn 2 ts) rfl) (λh=>by cases h)) (λh=>by cases h)) (λh=>by cases h);exact⟨_,_,Rf,.inl (Pc.Nw.mF (zU c6)),_,W1⟩)
 have q6:=rW (T:=T (m+8)) (x:=12) Wg hit q6 V3.lk;have V4:=V3.tv.set 12 (.tup [.lst (gD dt),.lst (TS.map tD)]) .own ζ (aC _) λ_=>rfl
 generalize e3.set 12 (θ (.tup [.lst (gD dt),.lst (TS.map tD)],.own))=e4 at q6 V4;have y1:aG (T (m+8)) (.ix K3 Kv) e4 (.lst (TS.map tD)):=aG.ix (V4.var (i:=12) rfl) (aG.cst _) rfl;have q7:=zU (T0:=T (m+8)) (p:=no) (aG.cmp (op:=.NotEq) y1 (V4.var (i:=1) rfl) (QY (by rw[eP];exact eqP _)));obtain⟨e5,q8,V5⟩:=Tv.Vs V4 (T0:=T (m+8)) (x:=12) rfl (.int 1) (by rw[aY];omega);obtain⟨e6,q9,V6⟩:=Tv.UI V5 (T0:=T (m+8)) (x:=12) rfl;obtain⟨fr,hr⟩:=B0 (T:=T (m+8)) (aG.cmp (op:=.Eq) (k:=ζ) (V6.var (i:=11) rfl) (M2 V6) (eq2 sp M));exact⟨fr,K16.sq q1 (K16.sq q2 (K16.sq q3 (K16.sq q4 (K16.sq q5 (K16.sq q6 (K16.sq q7 (K16.sq q8 (K16.sq q9 hr))))))))⟩
noncomputable def uN:List D:=[.lst (.int 1::ν 15 (.int 0)),.lst [],.int 15,.int 0]
noncomputable def isOk:Rs (D×Bool)->Bool
 |.ok _=>ζ
 |_=>ε
theorem SA:allB 8 (λn=>!isOk (Pc.run fns gl 1000 n 22 uN))=ζ:=by decide +kernel
theorem Js:isOk (Pc.run fns gl 1000 11 22 uN)=ζ:=by decide +kernel
variable {r:D×Bool}
theorem low {n:Nat}(h:Pc.run fns gl 1000 n 22 uN=.ok r):8<=n:=by
 refine đ λz=>?_
 have:=aX SA n (by omega);rw[h] at this;cases this
theorem xG (T0:Tb)(env:En):ev T0 Ea env=(T0.cl 22 uN).bind λr=>.ok (r.1,if r.2 then .mv [] else .sh []):=rfl
variable {ds:List D}
theorem DE (h:Em ds=θ x):∃ns:List Int,ds=[.lst (ns.map D.int)]/\ns.length<=63/\x=.bl ζ:=by
 unfold Em at h;split at h
 .rename_i l;split at h
  .rename_i hc;cases h;have:∀l:List D,(l.all λd=>match d with|.int _=>ζ|_=>ε)=ζ->∃ns:List Int,l=ns.map D.int:=by
    intro l
    induction l with
    |nil=>exact λ_=>⟨[],rfl⟩
    |cons d l ih=>
     intro h;rw[fh,aj] at h;obtain⟨ns,rfl⟩:=ih h.2;cases d with
     |int i=>exact⟨i::ns,rfl⟩
     |_=>cases h.1
   obtain⟨ns,rfl⟩:=this l hc.2;exact⟨ns,rfl,by simpa using hc.1,rfl⟩
  .cases h
 .cases h
theorem SG (ns:List Int)(hl:ns.length<=63):∃fr,Pc.run fns gl 1000 12 38 [.lst (ns.map D.int)]=.ok (.bl ζ,fr):=by
 refine⟨ζ,?_⟩;rw[bE (F:=⟨1,14,Iv⟩) rfl rfl];show Pc.ret (aE (T 11) Iv (aF [.lst (ns.map D.int)] 14))=_;obtain⟨r,hr⟩:∃r,Pc.run fns gl 1000 11 22 uN=.ok r:=by
  have:=Js;cases h:Pc.run fns gl 1000 11 22 uN with
  |ok r=>exact⟨r,rfl⟩
  |exc e=>rw[h] at this;cases this
  |bad=>rw[h] at this;cases this
 have q1:bC (T 11) (.expr Ea) (aF [.lst (ns.map D.int)] 14)=.nx (aF [.lst (ns.map D.int)] 14):=by
  rw[bC,xG,kW,hr,aB,aP]
 refine K16.sq q1 (fY ?_);have v0:bL (T 11) (K9 KU) (aF [.lst (ns.map D.int)] 14)=.ok [(.lst (ns.map D.int),.sh [])]:=rfl;rw[ev,v0,aB];show (gQ (Em [.lst (ns.map D.int)])).bind _=_;have:Em [.lst (ns.map D.int)]=θ (.bl ζ):=if_pos ⟨by simpa using hl,by simp⟩;rw[this,aL,aB]
theorem asked {n:Nat}(h:Pc.run fns gl 1000 (n+1) 38 ds=.ok r):8<=n/\∃ns:List Int,ds=[.lst (ns.map D.int)]/\ns.length<=63/\r=(.bl ζ,ζ):=by
 have hl:ds.length=1:=by
  by_cases hl:ds.length=1
  .exact hl
  .unfold Pc.run at h;have:fns[38]? = θ ⟨1,14,Iv⟩:=rfl;rw[this] at h;dsimp only at h;rw[if_neg hl] at h;cases h
 rw[bE (F:=⟨1,14,Iv⟩) rfl hl] at h;obtain⟨d,rfl⟩:∃d,ds=[d]:=by
  match ds,hl with
  |[d],_=>exact⟨d,rfl⟩
 have h:Pc.ret (aE (T n) (.cons (.expr Ea) (.cons (.ret (.app Em (K9 KU))) .nil)) (aF [d] 14))=.ok r:=h;rw[aE,bC,xG] at h;cases q:(T n).cl 22 uN with
 |ok x=>
  rw[q,aB,aP,aD,aE,bC,ev] at h;refine⟨low q,?_⟩;have v0:∃R,bL (T n) (K9 KU) (aF [d] 14)=.ok [(d,R)]:=⟨_,rfl⟩;obtain⟨R,v0⟩:=v0;rw[v0,aB] at h;cases q2:Em [d] with
  |some y=>
   have h:Pc.ret ((iY (aF [d] 14) ((gQ (Em [d])).bind λ(d:D)=>Rs.ok (d,Rt.mv [])) λ(p:D×Rt)=>Fl.rt p.1 (match p.2 with|Rt.mv R=>bV (aF [d] 14) R|Rt.sh R=>ε)).andThen (aE (T n) .nil))=.ok r:=h;rw[q2] at h;obtain⟨ns,e1,e2,rfl⟩:=DE q2;cases h;exact⟨ns,e1,e2,rfl⟩
  |none=>
   have h:Pc.ret ((iY (aF [d] 14) ((gQ (Em [d])).bind λ(d:D)=>Rs.ok (d,Rt.mv [])) λ(p:D×Rt)=>Fl.rt p.1 (match p.2 with|Rt.mv R=>bV (aF [d] 14) R|Rt.sh R=>ε)).andThen (aE (T n) .nil))=.ok r:=h;rw[q2] at h;cases h
 |exc e=>rw[q] at h;cases h
 |bad=>rw[q] at h;cases h
end K23
end
section
namespace K23
open PySem PySem.Spec PyProof.Rows L2 Pc
noncomputable def fT:List Str:=["range","len","isinstance","int","bool","list","tuple","max","sorted","sum","abs","all","zip","enumerate"]
noncomputable def zx:List Str:=["GRAINS","FOLD","ROOMS","BLOCK_COUNTS"]
noncomputable def df0:Df:=⟨"block_shapes",st 3,["size","level"],["size","level","blocks","share","rest","checks","shapes","block","grains"],b0⟩
noncomputable def df1:Df:=⟨"dealt_rows",st 4,["rows"],["rows","dealt","row","turn"],b1⟩
noncomputable def df2:Df:=⟨"parted_rows",st 5,["grains","counts"],["grains","counts","count","rows","place","turn","number"],b2⟩
noncomputable def df3:Df:=⟨"times_of",st 13,["a","b"],["a","b","product","doubled","left"],b3⟩
noncomputable def df4:Df:=⟨"inverse_of",st 14,["a"],["a"],b4⟩
noncomputable def df5:Df:=⟨"power_of",st 15,["a","k"],["a","k","power","squared","left"],b5⟩
noncomputable def df6:Df:=⟨"worth_at",st 16,["grains","x"],["grains","x","worth","grain"],b6⟩
noncomputable def df7:Df:=⟨"row_product",st 18,["first","second"],["first","second","product","place","grain","step","other"],b7⟩
noncomputable def df8:Df:=⟨"row_with_noughts",st 19,["noughts"],["noughts","row","nought"],b8⟩
noncomputable def df9:Df:=⟨"code_noughts",st 21,["count"],["count"],b9⟩
noncomputable def UC:Df:=⟨"checks_for",st 22,["data","count"],["data","count","divisor","rest","place","factor","step","grain"],Vr⟩
noncomputable def UB:Df:=⟨"is_code",st 23,["grains","count"],["grains","count"],Vq⟩
noncomputable def UA:Df:=⟨"mended_row",st 25,["grains","missing","count"],["grains","missing","count","worths","suspects","mended","wrong"],Vp⟩
noncomputable def Uz:Df:=⟨"locator_of",st 26,["place","length"],["place","length"],Vo⟩
noncomputable def Uy:Df:=⟨"suspect_places",st 27,["worths","missing","length"],["worths","missing","length","gaps","freed","rule","others"],Vn⟩
noncomputable def Ux:Df:=⟨"shortest_rule",st 28,["numbers"],["numbers","rule","length","former","former_gap","place","gap","amended"],Vm⟩
noncomputable def Uw:Df:=⟨"gap_of_rule",st 29,["rule","numbers","place"],["rule","numbers","place","gap","back","factor"],Vl⟩
noncomputable def Uv:Df:=⟨"scaled_row",st 30,["row","factor"],["row","factor"],Vk⟩
noncomputable def Uu:Df:=⟨"added_rows",st 31,["first","second"],["first","second","added","place","grain"],Vj⟩
noncomputable def Ut:Df:=⟨"changed_row",st 32,["grains","suspects","worths"],["grains","suspects","worths","place","locators","heads","changed","locator","share"],Vi⟩
noncomputable def Us:Df:=⟨"distances_product",st 33,["locator","locators"],["locator","locators","product","other"],Vh⟩
noncomputable def Ur:Df:=⟨"wrapped_grains",st 35,["data","size","level"],["data","size","level","rows","start","count","checks","part"],Ro⟩
noncomputable def Uq:Df:=⟨"unwrapped_grains",st 36,["grains","missing","size","level"],["grains","missing","size","level","shapes","counts","rows","gaps","data","blocks","block","shape","missing_here","mended"],Rn⟩
noncomputable def Up:Df:=⟨"mended_block",st 37,["row","missing","checks","block"],["row","missing","checks","block"],Jc⟩
noncomputable def Uo:Df:=⟨"_law_whole",st 39,["_law_x"],["_law_x"],Vg⟩
noncomputable def Um:Df:=⟨"_law_cell",st 40,["_law_script","_law_k"],["_law_script","_law_k"],Vf⟩
noncomputable def Ul:Df:=⟨"_law_mixed",st 41,["_law_cell_here","_law_k"],["_law_cell_here","_law_k","_law_once"],Ve⟩
noncomputable def Uk:Df:=⟨"_law_row",st 42,["_law_script","_law_many"],["_law_script","_law_many","_law_k","_law_row_here"],Vd⟩
noncomputable def Uj:Df:=⟨"_law_grains",st 43,["_law_found","_law_many"],["_law_found","_law_many","_law_grain"],Vc⟩
noncomputable def Ui:Df:=⟨"_law_shape",st 44,["_law_d"],["_law_d","_law_size","_law_room","_law_many","_law_level","_law_checks","_law_counts"],Im⟩
noncomputable def Uh:Df:=⟨"_law_spots",st 45,["_law_counts"],["_law_counts","_law_spots_here","_law_k","_law_number"],Xo⟩
noncomputable def Ug:Df:=⟨"_law_places",st 47,["_law_script","_law_many","_law_some","_law_turn"],["_law_script","_law_many","_law_some","_law_turn","_law_left","_law_places_here","_law_k","_law_d"],Vb⟩
noncomputable def Ue:Df:=⟨"_law_counted",st 48,["_law_script","_law_checks","_law_turn"],["_law_script","_law_checks","_law_turn","_law_d","_law_lost","_law_most"],Va⟩
noncomputable def oI:Df:=⟨"_law_spoilt",st 49,["_law_script","_law_grains_here","_law_counts","_law_checks","_law_told"],["_law_script","_law_grains_here","_law_counts","_law_checks","_law_told","_law_spots_here","_law_spoilt_here","_law_missing","_law_number","_law_turn","_law_wrong","_law_lost","_law_some","_law_shift","_law_k","_law_at","_law_e"],U9⟩
noncomputable def Ud:Df:=⟨"_law_long",st 50,["_law_script","_law_k"],["_law_script","_law_k","_law_found","_law_j"],EA⟩
noncomputable def Uc:Df:=⟨"_law_budget",st 51,["_law_rest","_law_many","_law_checks"],["_law_rest","_law_many","_law_checks","_law_picked","_law_load","_law_turn","_law_way","_law_place"],U8⟩
noncomputable def Ub:Df:=⟨"_law_spelled",st 52,["_law_cells","_law_many"],["_law_cells","_law_many","_law_row_here","_law_rest","_law_k"],Xn⟩
noncomputable def pe:Df:=⟨"_law_spoilt_by_digits",st 53,["_law_cells","_law_grains_here","_law_counts","_law_checks","_law_told"],["_law_cells","_law_grains_here","_law_counts","_law_checks","_law_told","_law_spots_here","_law_spoilt_here","_law_missing","_law_number","_law_picked","_law_place","_law_at","_law_way","_law_grain","_law_ways"],U7⟩
noncomputable def kG:Df:=⟨"law",st 54,["_law_script"],["_law_script","_law_told","_law_cells","_law_size","_law_level","_law_counts","_law_checks","_law_data","_law_wrapped","_law_spoilt_here","_law_missing","_law_handed","_law_found","_law_pair"],Iv⟩
noncomputable def p:Pg:=⟨[df0,df1,df2,df3,df4,df5,df6,df7,df8,df9,UC,UB,UA,Uz,Uy,Ux,Uw,Uv,Uu,Ut,Us,Ur,Uq,Up,Uo,Um,Ul,Uk,Uj,Ui,Uh,Ug,Ue,oI,Ud,Uc,Ub,pe,kG],zx,fT,gl,1000⟩
noncomputable def Ki:List Str:=["_law_spoilt","_law_spoilt_by_digits","law"]
theorem ok:yr (Df.Pu p Ki) p.M5 :=
 ⟨
   .inl (Df.Lg (n:=60) (by decide +kernel) rfl (λ_ _ _ _ _ _ us hl=>@jX (λus=>Η _ ⟨us,[]⟩=pure (Κ _ us)) us hl (λ_ _=>rfl))),
   .inl (Df.Lg (n:=60) (by decide +kernel) rfl (λ_ _ _ _ _ _ us hl=>@qg (λus=>Η _ ⟨us,[]⟩=pure (Κ _ us)) us hl (λ_=>rfl))),
   .inl (Df.Lg (n:=60) (by decide +kernel) rfl (λ_ _ _ _ _ _ us hl=>@jX (λus=>Η _ ⟨us,[]⟩=pure (Κ _ us)) us hl (λ_ _=>rfl))),
   .inl (Df.Lg (n:=60) (by decide +kernel) rfl (λ_ _ _ _ _ _ us hl=>@jX (λus=>Η _ ⟨us,[]⟩=pure (Κ _ us)) us hl (λ_ _=>rfl))),
   .inl (Df.Lg (n:=60) (by decide +kernel) rfl (λ_ _ _ _ _ _ us hl=>@qg (λus=>Η _ ⟨us,[]⟩=pure (Κ _ us)) us hl (λ_=>rfl))),
   .inl (Df.Lg (n:=60) (by decide +kernel) rfl (λ_ _ _ _ _ _ us hl=>@jX (λus=>Η _ ⟨us,[]⟩=pure (Κ _ us)) us hl (λ_ _=>rfl))),
   .inl (Df.Lg (n:=60) (by decide +kernel) rfl (λ_ _ _ _ _ _ us hl=>@jX (λus=>Η _ ⟨us,[]⟩=pure (Κ _ us)) us hl (λ_ _=>rfl))),
   .inl (Df.Lg (n:=60) (by decide +kernel) rfl (λ_ _ _ _ _ _ us hl=>@jX (λus=>Η _ ⟨us,[]⟩=pure (Κ _ us)) us hl (λ_ _=>rfl))),
   .inl (Df.Lg (n:=60) (by decide +kernel) rfl (λ_ _ _ _ _ _ us hl=>@qg (λus=>Η _ ⟨us,[]⟩=pure (Κ _ us)) us hl (λ_=>rfl))),
   .inl (Df.Lg (n:=60) (by decide +kernel) rfl (λ_ _ _ _ _ _ us hl=>@qg (λus=>Η _ ⟨us,[]⟩=pure (Κ _ us)) us hl (λ_=>rfl))),
   .inl (Df.Lg (n:=60) (by decide +kernel) rfl (λ_ _ _ _ _ _ us hl=>@jX (λus=>Η _ ⟨us,[]⟩=pure (Κ _ us)) us hl (λ_ _=>rfl))),
   .inl (Df.Lg (n:=60) (by decide +kernel) rfl (λ_ _ _ _ _ _ us hl=>@jX (λus=>Η _ ⟨us,[]⟩=pure (Κ _ us)) us hl (λ_ _=>rfl))),
   .inl (Df.Lg (n:=60) (by decide +kernel) rfl (λ_ _ _ _ _ _ us hl=>@sY (λus=>Η _ ⟨us,[]⟩=pure (Κ _ us)) us hl (λ_ _ _=>rfl))),
   .inl (Df.Lg (n:=60) (by decide +kernel) rfl (λ_ _ _ _ _ _ us hl=>@jX (λus=>Η _ ⟨us,[]⟩=pure (Κ _ us)) us hl (λ_ _=>rfl))),
   .inl (Df.Lg (n:=60) (by decide +kernel) rfl (λ_ _ _ _ _ _ us hl=>@sY (λus=>Η _ ⟨us,[]⟩=pure (Κ _ us)) us hl (λ_ _ _=>rfl))),
   .inl (Df.Lg (n:=60) (by decide +kernel) rfl (λ_ _ _ _ _ _ us hl=>@qg (λus=>Η _ ⟨us,[]⟩=pure (Κ _ us)) us hl (λ_=>rfl))),
   .inl (Df.Lg (n:=60) (by decide +kernel) rfl (λ_ _ _ _ _ _ us hl=>@sY (λus=>Η _ ⟨us,[]⟩=pure (Κ _ us)) us hl (λ_ _ _=>rfl))),
   .inl (Df.Lg (n:=60) (by decide +kernel) rfl (λ_ _ _ _ _ _ us hl=>@jX (λus=>Η _ ⟨us,[]⟩=pure (Κ _ us)) us hl (λ_ _=>rfl))),
   .inl (Df.Lg (n:=60) (by decide +kernel) rfl (λ_ _ _ _ _ _ us hl=>@jX (λus=>Η _ ⟨us,[]⟩=pure (Κ _ us)) us hl (λ_ _=>rfl))),
   .inl (Df.Lg (n:=60) (by decide +kernel) rfl (λ_ _ _ _ _ _ us hl=>@sY (λus=>Η _ ⟨us,[]⟩=pure (Κ _ us)) us hl (λ_ _ _=>rfl))),
   .inl (Df.Lg (n:=60) (by decide +kernel) rfl (λ_ _ _ _ _ _ us hl=>@jX (λus=>Η _ ⟨us,[]⟩=pure (Κ _ us)) us hl (λ_ _=>rfl))),
   .inl (Df.Lg (n:=60) (by decide +kernel) rfl (λ_ _ _ _ _ _ us hl=>@sY (λus=>Η _ ⟨us,[]⟩=pure (Κ _ us)) us hl (λ_ _ _=>rfl))),
   .inl (Df.Lg (n:=60) (by decide +kernel) rfl (λ_ _ _ _ _ _ us hl=>@D2 (λus=>Η _ ⟨us,[]⟩=pure (Κ _ us)) us hl (λ_ _ _ _=>rfl))),
   .inl (Df.Lg (n:=60) (by decide +kernel) rfl (λ_ _ _ _ _ _ us hl=>@D2 (λus=>Η _ ⟨us,[]⟩=pure (Κ _ us)) us hl (λ_ _ _ _=>rfl))),
   .inl (Df.Lg (n:=60) (by decide +kernel) rfl (λ_ _ _ _ _ _ us hl=>@qg (λus=>Η _ ⟨us,[]⟩=pure (Κ _ us)) us hl (λ_=>rfl))),
   .inl (Df.Lg (n:=60) (by decide +kernel) rfl (λ_ _ _ _ _ _ us hl=>@jX (λus=>Η _ ⟨us,[]⟩=pure (Κ _ us)) us hl (λ_ _=>rfl))),
   .inl (Df.Lg (n:=60) (by decide +kernel) rfl (λ_ _ _ _ _ _ us hl=>@jX (λus=>Η _ ⟨us,[]⟩=pure (Κ _ us)) us hl (λ_ _=>rfl))),
   .inl (Df.Lg (n:=60) (by decide +kernel) rfl (λ_ _ _ _ _ _ us hl=>@jX (λus=>Η _ ⟨us,[]⟩=pure (Κ _ us)) us hl (λ_ _=>rfl))),
   .inl (Df.Lg (n:=60) (by decide +kernel) rfl (λ_ _ _ _ _ _ us hl=>@jX (λus=>Η _ ⟨us,[]⟩=pure (Κ _ us)) us hl (λ_ _=>rfl))),
   .inl (Df.Lg (n:=60) (by decide +kernel) rfl (λ_ _ _ _ _ _ us hl=>@qg (λus=>Η _ ⟨us,[]⟩=pure (Κ _ us)) us hl (λ_=>rfl))),
   .inl (Df.Lg (n:=60) (by decide +kernel) rfl (λ_ _ _ _ _ _ us hl=>@qg (λus=>Η _ ⟨us,[]⟩=pure (Κ _ us)) us hl (λ_=>rfl))),
   .inl (Df.Lg (n:=60) (by decide +kernel) rfl (λ_ _ _ _ _ _ us hl=>@D2 (λus=>Η _ ⟨us,[]⟩=pure (Κ _ us)) us hl (λ_ _ _ _=>rfl))),
   .inl (Df.Lg (n:=60) (by decide +kernel) rfl (λ_ _ _ _ _ _ us hl=>@sY (λus=>Η _ ⟨us,[]⟩=pure (Κ _ us)) us hl (λ_ _ _=>rfl))),
   .inr ⟨(λ_ _ _ _ _ _ us hl=>@JF (λus=>Η _ ⟨us,[]⟩=pure (Κ _ us)) us hl (λ_ _ _ _ _=>rfl)),.head _⟩,
   .inl (Df.Lg (n:=60) (by decide +kernel) rfl (λ_ _ _ _ _ _ us hl=>@jX (λus=>Η _ ⟨us,[]⟩=pure (Κ _ us)) us hl (λ_ _=>rfl))),
   .inl (Df.Lg (n:=60) (by decide +kernel) rfl (λ_ _ _ _ _ _ us hl=>@sY (λus=>Η _ ⟨us,[]⟩=pure (Κ _ us)) us hl (λ_ _ _=>rfl))),
   .inl (Df.Lg (n:=60) (by decide +kernel) rfl (λ_ _ _ _ _ _ us hl=>@jX (λus=>Η _ ⟨us,[]⟩=pure (Κ _ us)) us hl (λ_ _=>rfl))),
   .inr ⟨(λ_ _ _ _ _ _ us hl=>@JF (λus=>Η _ ⟨us,[]⟩=pure (Κ _ us)) us hl (λ_ _ _ _ _=>rfl)),.tail _ (.head _)⟩,
   .inr ⟨(λ_ _ _ _ _ _ us hl=>@qg (λus=>Η _ ⟨us,[]⟩=pure (Κ _ us)) us hl (λ_=>rfl)),.tail _ (.tail _ (.head _))⟩,
   trivial⟩
theorem Sj (ns:List Int)(hl:ns.length<=63):∃fr,p.run 12 38 [.lst (ns.map D.int)]=.ok (.bl ζ,fr):=SG ns hl
variable {f:Addr}{fd:pi}{n:Nat}
section
variable {P:Program}{w:Ν}{K:Frag}{mg:Str->Option Value}{base:Heap}
noncomputable def fB:Stmt->List Stmt
 |.For _ _ b _ _=>b
 |_=>[]
noncomputable def pJ:Stmt:=.Pass ⟨0,0,0,0⟩
theorem F9 (I:p.In K mg)(hH:xj w K)(ih:pG p P w K mg base n)(F:L2.uY K "_law_spoilt_by_digits" "_law_spoilt_by_digits" (st 53) f fd):oB P w K mg base nh (mz n) f fd pe.ps (Ik K 4 (vq (T n) Dz 4 8 eN dB dA eR 15)):=by
 have S:eZ pe.N pe.ps (aI (st 53)):=kA (p:=p) (d:=pe) (n:=60) (by decide +kernel);refine E6 F S rfl λLo A outer s H E hr=>?_
 have C:m9 (iB nh P w K mg base pe.N "_law_spoilt_by_digits" (aI (st 53)) f Lo A outer s H E).LR.LR (p.sc pe) (T n):=u3 (p:=p) (CX:=nh) (nm:="_law_spoilt_by_digits") (E:=E) (eV ok) I hH ih S hr;have hF:PS (iB nh P w K mg base pe.N "_law_spoilt_by_digits" (aI (st 53)) f Lo A outer s H E).LR ((bB (st 53)).getD 3 pJ) (QL K (T n) 4 8 eN dB dA):=zH (m:=60) (l:=(fB ((bB (st 53)).getD 3 pJ)).take 3) C IN rfl S.nd rfl (.inl rfl) (.inl rfl) rfl (I.blt "range" (by decide)) (cK (bY 60 C.c) rfl) rfl rfl (by decide) (jU (nF df ij (by rfl) j6 (u6 rfl (.inl rfl) rfl rfl) (cK (bY 60 C.c) rfl))) (λ_=>rfl);exact hX C (ku hF (lZ (wj (bY 60 C.c _ _ rfl).1))) 60 ((bB (st 53)).take 3) Dz rfl
theorem F7 (I:p.In K mg)(hH:xj w K)(ih:pG p P w K mg base n)(F:L2.uY K "_law_spoilt" "_law_spoilt" (st 49) f fd):oB P w K mg base nh (mz n) f fd oI.ps (Ik K 4 (vq (T n) Dz 4 8 eN gB gA eR 17)):=by
 have S:eZ oI.N oI.ps (aI (st 49)):=kA (p:=p) (d:=oI) (n:=60) (by decide +kernel);refine E6 F S rfl λLo A outer s H E hr=>?_
 have C:m9 (iB nh P w K mg base oI.N "_law_spoilt" (aI (st 49)) f Lo A outer s H E).LR.LR (p.sc oI) (T n):=u3 (p:=p) (CX:=nh) (nm:="_law_spoilt") (E:=E) (eV ok) I hH ih S hr;have hF:PS (iB nh P w K mg base oI.N "_law_spoilt" (aI (st 49)) f Lo A outer s H E).LR ((bB (st 49)).getD 3 pJ) (QL K (T n) 4 8 eN gB gA):=zH (m:=60) (l:=(fB ((bB (st 49)).getD 3 pJ)).take 5) C IN rfl S.nd rfl (.inl rfl) (.inl rfl) rfl (I.blt "range" (by decide)) (cK (bY 60 C.c) rfl) rfl rfl (by decide) (jU (nF df ij (by rfl) j6 (u6 rfl (.inl rfl) rfl rfl) (cK (bY 60 C.c) rfl))) (λ_=>rfl);exact hX C (ku hF (lZ (wj (bY 60 C.c _ _ rfl).1))) 60 ((bB (st 49)).take 3) Dz rfl
noncomputable def Wq:Stmt->List Stmt
 |.If _ a _ _=>a
 |_=>[]
noncomputable def Wp:Stmt->List Stmt
 |.If _ _ b _=>b
 |_=>[]
noncomputable def cC:Ex:=(.cmp .Eq (.bin .Mod (.call 25 (La KU Kw)) Ku) Kw)
noncomputable def aA:Ex:=.sl KR (.some KO) .none
noncomputable abbrev Iy (K:Frag)(T:Tb)(c:Ex)(R:List Pc.D->(Pc.D->List Pc.D->Prop)->Prop):TS:=yu (qx (Ik K 4 R) [] E0 (iC (tE K T c) (iC (tE K T K1) (iC (tE K T KY) (iC (tE K T KZ) (iC (CN 1) yV)))))) (u7 K 2 (gU [9,10]))
noncomputable abbrev RA (n:Nat):=vq (T n) Dz 4 8 eN dB dA eR 15
noncomputable abbrev RB (n:Nat):=vq (T n) Dz 4 8 eN gB gA eR 17
theorem body {fa fb:Addr}{WZ WY:pi}{Lo:Value}{A:Φ}{outer:List Yw}{s:ρ}{H:Hp}{E:XK}(I:p.In K mg)(hH:xj w K)(ih:pG p P w K mg base n)(hr:gP (n+1) A)
  (Fa:L2.uY K "_law_spoilt_by_digits" "_law_spoilt_by_digits" (st 53) fa WZ) (ma:mg "_law_spoilt_by_digits" = θ (.ref fa)) (Fb:L2.uY K "_law_spoilt" "_law_spoilt" (st 49) fb WY) (mb:mg "_law_spoilt" = θ (.ref fb)) (S:eZ kG.N kG.ps (aI (st 54))) :
  lK (iB nh P w K mg base kG.N "law" (aI (st 54)) f Lo A outer s H E) (bB (st 54)) (nK K (T n) w0 (G7 (GQ (pX K (T n) cC) (nK K (T n) wA (Iy K (T n) aA (RA n))) (nK K (T n) wB (Iy K (T n) KU (RB n)))) (zw K (T n) wR))):=by
 refine lK.LR ?_;have C:m9 (iB nh P w K mg base kG.N "law" (aI (st 54)) f Lo A outer s H E).LR.LR (p.sc kG) (T n):=u3 (p:=p) (CX:=nh) (nm:="law") (E:=E) (eV ok) I hH ih S (hr.deeper _);have hh:mz n (iB nh P w K mg base kG.N "law" (aI (st 54)) f Lo A outer s H E).LR.A:=mz.of hr _;have Ba:=Fa.binds (eV ok pe (Α (i:=37) rfl)).bd;have Bb:=Fb.binds (eV ok oI (Α (i:=33) rfl)).bd;have hA:PS (iB nh P w K mg base kG.N "law" (aI (st 54)) f Lo A outer s H E).LR ((Wq ((bB (st 54)).getD 2 pJ)).getD 3 pJ) (Iy K (T n) aA (RA n)):=sJ (tJ (F9 I hH ih Fa) hh rfl ma Fa.kp Ba (dM (bY 60 C.c _ _ rfl).1 (dM (bY 60 C.c _ _ rfl).1 (dM (bY 60 C.c _ _ rfl).1 (dM (bY 60 C.c _ _ rfl).1 (dM (pv 1) pM)))))) (sH C.c (t:=.tp [9,10]) rfl);have hB:PS (iB nh P w K mg base kG.N "law" (aI (st 54)) f Lo A outer s H E).LR ((Wp ((bB (st 54)).getD 2 pJ)).getD 3 pJ) (Iy K (T n) KU (RB n)):=sJ (tJ (F7 I hH ih Fb) hh rfl mb Fb.kp Bb (dM (bY 60 C.c _ _ rfl).1 (dM (bY 60 C.c _ _ rfl).1 (dM (bY 60 C.c _ _ rfl).1 (dM (bY 60 C.c _ _ rfl).1 (dM (pv 1) pM)))))) (sH C.c (t:=.tp [9,10]) rfl);have hI:PS (iB nh P w K mg base kG.N "law" (aI (st 54)) f Lo A outer s H E).LR ((bB (st 54)).getD 2 pJ) (GQ (pX K (T n) cC) (nK K (T n) wA (Iy K (T n) aA (RA n))) (nK K (T n) wB (Iy K (T n) KU (RB n)))):=EE (bY 60 C.c _ _ rfl).2 (hX C (lZ hA) 60 ((Wq ((bB (st 54)).getD 2 pJ)).take 3) wA rfl) (hX C (lZ hB) 60 ((Wp ((bB (st 54)).getD 2 pJ)).take 3) wB rfl);exact hX C (ku hI ((Ab C 60).2 ((bB (st 54)).drop 3) wR rfl)) 60 ((bB (st 54)).take 2) w0 rfl
end
end K23
end
section
namespace K23
open PySem PySem.Spec PyProof.Rows L2 Pc Pc.Vw Pc.Gr Pc.Sm Fl64
variable {e:En}
section
variable {P:Program}{w:Ν}{K:Frag}{mg:Str->Option Value}{base:Heap}
theorem sees (h:Tame e){x i:Nat}{d:Pc.D}{t:Tg}(hi:i≠x)(he:e[i]? = θ (θ (d,t))):x∉bG i t:=by
 rcases h _ (Α he) with q|⟨d',q⟩|⟨d',q⟩|⟨d',q⟩
 .cases q
 .cases q;exact λm=>hi (gu.mp m).symm
 .cases q;exact λm=>(nomatch m)
 .cases q;exact λm=>hi (gu.mp m).symm
theorem rest {m:Nat}{ns:List Int}{a b:Nat}{dt:List Nat}{cells:Pc.D}{Pr Z:Addr->Prop}{H:Hp}{D:Ends}(ha:a<5)(hb:b<4)(hl:dt.length=(DU a b).sum)(hd:Gr dt)(zp:∀a,¬ Pr a->Z a)(V:Tv e (VL ns [] cells a b dt Su))
  (hD:∀v H' G',Rep K H' (.bl ζ) v G'->jV Pr H H'->D.rt v H') (d:Pc.D) (Ln:List Pc.D) (hg:Good a b dt d Ln) :
  ∃u w env',d=.tup [u,w]/\Pc.bindM (λ_=>.own) [9,10] [u,w] (put (e.set 1 η) 1 (.lst Ln) .own)=θ env'/\∀σ' H' F',RE K Pr env' σ' H' F'->(∀i,∀a∈F' i,Z a)->jV Pr H H'->zw K (T (m+8)) wR D σ' H':=by
 obtain⟨TS,sp,hT,I,rfl,rfl⟩:=hg;have s:=λ{env:En}{vs:List (Option (Pc.D×Bool))}(h:Tv env vs) (i:Nat) (d:Pc.D)=>h.set i d .own ζ (aC _) λ_=>rfl
 have V1:=s (s (s V 1 (.lst (TS.map tD))) 9 (.lst (gD sp))) 10 (.lst (gD (cO (ms (FT a TS)))));refine⟨_,_,((e.set 1 (θ (.lst (TS.map tD),.own))).set 9 (θ (.lst (gD sp),.own))).set 10 (θ (.lst (gD (cO (ms (FT a TS)))),.own)),rfl,?_,λσ' H' F' N0 z' ev'=>⟨Pr,Z,_,F',N0,z',zp,?_⟩⟩
 .have e0:e.length=14:=V.len;have t1:=V.tm.set (aC (.lst (TS.map tD))) 1;rw[bT (V.tm.set aH 1),YD];simp only[Pc.bindM];rw[if_pos (by rw[ak];omega),bT t1,if_pos (by rw[ak,ak];omega),bT (t1.set (aC (.lst (gD sp))) 9)]
 .obtain⟨fr,hq⟩:=qR m ha hb hl hd hT I V1;cases q:aE (T (m+8)) wR (((e.set 1 (θ (.lst (TS.map tD),.own))).set 9 (θ (.lst (gD sp),.own))).set 10 (θ (.lst (gD (cO (ms (FT a TS)))),.own))) with
  |rt d2 fr2=>
   rw[q] at hq;cases hq;exact λv H4 G4 rp ev4 _ _=>hD v H4 G4 rp (ev'.trans ev4)
  |nx _=>rw[q] at hq;cases hq
  |bk _=>rw[q] at hq;cases hq
  |ct _=>rw[q] at hq;cases hq
  |xc _ _=>rw[q] at hq;cases hq
  |bad=>rw[q] at hq;cases hq
theorem GC {n:Nat}{f:Addr}{fd:pi}(I:p.In K mg)(hH:xj w K)(ih:pG p P w K mg base n)(F:L2.uY K "law" "law" (st 54) f fd):nU P w K mg base nh (n+1) f fd kG.ps (DL K 1 (p.run (n+1) 38)):=by
 obtain⟨fa,WZ,Fa,ma⟩:=I.fn 37 pe rfl;obtain⟨fb,WY,Fb,mb⟩:=I.fn 33 oI rfl;have S:eZ kG.N kG.ps (aI (st 54)):=kA (p:=p) (d:=kG) (n:=60) (by decide +kernel);refine (Bf (RP:=gP (n+1)) F S (λA r=>⟨r.hd,r.depth⟩) (λvs H Q E h=>mw h) λLo A outer s H vs Q E hr hs=>⟨_,body I hH ih hr Fa ma Fb mb S,?_⟩).plain;obtain⟨ds,G,hl,rs,r,Lr,k⟩:=hs;obtain⟨h8,ns,rfl,hn,rfl⟩:=asked (n:=n) Lr;obtain⟨m,rfl⟩:∃m,n=m+8:=⟨n-8,by omega⟩;obtain⟨F0,re,hF⟩:=entry (N:=kG.N) rs (show (1:Nat)<=kG.N.length by decide);let Pr:Addr->Prop:=λa=>H a≠η
 let Z:Addr->Prop:=λa=>H a=η\/a∈G
 have zp:∀a,¬ Pr a->Z a:=λa h=>.inl (FS.mp h)
 obtain⟨c,e0,q1,V0⟩:=q0 (m+6) ns;refine⟨Pr,Z,aF [.lst (ns.map D.int)] 14,F0,re,λj a ha=>.inr (hF j a ha),zp,?_⟩;rw[q1];intro σ1 H1 F1 af;obtain⟨v,hv⟩:=F8 (m+7) ns 0;have hc:aG (T (m+8)) cC e0 (.bl (v%2==0)):=aG.cmp (aG.bin (op:=.Mod) (aG.of (dS (V0.var (i:=0) rfl) (aG.cst _) hv)) (aG.cst (.int 2)) (z:=.int (v%2)) rfl) (aG.cst _) rfl;obtain⟨R,hc⟩:=hc;refine⟨Pr,e0,F1,af.re,_,(v%2==0),hc,rfl,λH2 s2=>?_⟩;have W0:jV Pr H H2:=af.ev.trans (jV.of_same af.re.pl s2);have hD:∀v H' G',Rep K H' (.bl ζ) v G'->jV Pr H H'->Q v H':=λv H' G' rp ev=>by
  have:=rp.flat rfl;subst this;exact k v H' [] (pA ev) rp (λ_ z=>(nomatch z)) λ_=>⟨bj,λ_ z=>(nomatch z)⟩
 by_cases hb:(v%2==0)=ζ
 .show (if _ then _ else _:Prop);rw[if_pos hb];obtain⟨a,b,dt,e',ha,hb,MK,gd,ld,q2,VA⟩:=qA (m+3) V0;refine⟨Pr,Z,e0,F1,af.re.same s2,af.z,zp,?_⟩;rw[q2];intro σ3 H3 F3 My;have v2:ev (T (m+8)) KR e'=.ok (cD c,.mv [2]):=bP (VA.own (i:=2) rfl) rfl;have h1:ev (T (m+8)) aA e'=.ok (.lst ([c 5,c 6,c 7].map D.int),.mv []):=by
   have c5:ev (T (m+8)) KO e'=.ok (.int 5,.mv []):=by rw[ev]
   rw[aA,ev,v2,aB,jW,jW,c5,aB];rfl
  exact pN (R:=RA (m+8)) (good:=Good a b dt) My.re My.z zp (VA.own (i:=1) rfl) (λi d t hi he=>sees VA.tm hi he) h1 (bP (VA.own (i:=8) rfl) rfl) (bP (VA.own (i:=5) rfl) rfl) (u4 (VA.var (i:=6) rfl) rfl) (by decide) (by decide) (by decide) (by decide) (JX (m+7) ha hb MK gd rfl) (rest ha hb ld gd zp VA λv H' G' rp ev=>hD v H' G' rp ((W0.trans My.ev).trans ev))
 .show (if _ then _ else _:Prop);rw[if_neg hb];obtain⟨a,b,dt,e',ha,hb,MK,gd,ld,q2,VA⟩:=qB (m+3) hn V0;refine⟨Pr,Z,e0,F1,af.re.same s2,af.z,zp,?_⟩;rw[q2];intro σ3 H3 F3 My;obtain⟨R0,h1⟩:=VA.var (T:=T (m+8)) (i:=0) rfl;have n1:1∉R0.roots:=λz=>by
   obtain⟨t,e1,_⟩:=VA.at' 0 _ _ rfl;have:=sees VA.tm (x:=1) (i:=0) (by decide) e1;rw[ev,e1] at h1;cases t with
   |own=>cases h1;exact this z
   |lk=>cases h1;exact this z
   |sh R=>cases h1;exact this z
  exact pN (R:=RB (m+8)) (good:=Good a b dt) My.re My.z zp (VA.own (i:=1) rfl) (λi d t hi he=>sees VA.tm hi he) h1 (bP (VA.own (i:=8) rfl) rfl) (bP (VA.own (i:=5) rfl) rfl) (u4 (VA.var (i:=6) rfl) rfl) n1 (by decide) (by decide) (by decide) (IB (m+6) ha hb MK gd) (rest ha hb ld gd zp VA λv H' G' rp ev=>hD v H' G' rp ((W0.trans My.ev).trans ev))
theorem foreign (I:p.In K mg)(hH:xj w K):sM p Ki P w K mg base:=by
 intro n i d hd hn ih f fd F;have hi:i=33\/i=37\/i=38:=by
  have q:allB 39 (λj=>!Ki.contains ((p.M5.map (·.nm)).getD j "") || decide (j=33\/j=37\/j=38))=ζ:=by decide +kernel
  have h:=aX q i (ο.mp hd).1;rw[ι,π,hd] at h;have h:(!Ki.contains d.nm || decide (i=33\/i=37\/i=38))=ζ:=h;rw[AC.mpr hn] at h;exact bt h
 have no:∀{b:Nat->Rs (Pc.D×Bool)}{ds:List Pc.D}{r:Pc.D×Bool}{F:Fn},F.body=.cons .brk .nil->(if ds.length=F.ps then Pc.ret (aE (T n) F.body (aF ds F.slots)) else .bad)=.ok r->False:=λ{b ds r F} hF h=>by
  split at h
  .rw[hF,aE,bC] at h;cases h
  .cases h
 rcases hi with rfl|rfl|rfl
 .cases hd;refine F.ok (kA (p:=p) (d:=oI) (n:=60) (by decide +kernel)) (λvs H Q E h=>mw h) λLo A outer s H vs Q E hr hs=>?_
  obtain⟨ds,G,hl,rs,r,Lr,k⟩:=hs;exact (no (b:=λ_=>.bad) (F:=⟨5,17,U9⟩) rfl Lr).elim
 .cases hd;refine F.ok (kA (p:=p) (d:=pe) (n:=60) (by decide +kernel)) (λvs H Q E h=>mw h) λLo A outer s H vs Q E hr hs=>?_
  obtain⟨ds,G,hl,rs,r,Lr,k⟩:=hs;exact (no (b:=λ_=>.bad) (F:=⟨5,15,U7⟩) rfl Lr).elim
 .cases hd;exact GC I hH ih F
end
end K23
end
section
open K23 (st)
open PySem PySem.W PyProof.Rows
theorem PySem.Challenge.cw_patchsquare_k23_whole_unwrapped_holds : PySem.Challenge.rw_patchsquare_k23_whole_unwrapped.Holds := by
 refine holds_law (by decide +kernel) λRO=>?_
 refine holds_open (q:=K23.Q) (loose:=["ROOMS","BLOCK_COUNTS"]) (XP:=XL K23.Q []) (YP:=Hook.says K23.H) K23.left (Hook.of K23.H) (Hook.keeps K23.H) (λs e=>xl_of s (YQ.mp e).1) XL.keeps (by rfl) (by rfl) (by rfl) (λs e=>recFacts_of (YQ.mp e).2) (by rfl) RO (by decide +kernel) ⟨rfl,rfl,rfl,rfl,rfl,by decide +kernel⟩ ?hw ?hc
 case hw=>w_witness2
 refine Pc.IC (l:=io) K23.p K23.Ki 12 38 "_law_script" K23.kG rfl rfl (λw h Y=>PySem.W.kIn_of Y) rfl rfl rfl ⟨rfl,by decide,by decide⟩ K23.ok ?st ?nl ?hh ?hf K23.Sj
 case nl=>intro w;rfl
 case hh=>intro w;exact Pc.EG
 case hf=>
  intro w mg h base KX G I;exact K23.foreign I (Pc.EG)
 case st=>
  intro w;refine⟨⟨?d0,?d1,?d2,?d3,?d4,?d5,?d6,?d7,?d8,?d9,?d10,?d11,?d12,?d13,?d14,?d15,?d16,?d17,?d18,?d19,?d20,?d21,?d22,?d23,?d24,?d25,?d26,?d27,?d28,?d29,?d30,?d31,?d32,?d33,?d34,?d35,?d36,?d37,?d38,trivial⟩,Pc.CL ⟨?T3,?T2,?T1,?TZ,trivial⟩,⟨?e0,?e1,?e2,?e3,?e4,?e5,?e6,?e7,?e8,?e9,?O8,?T9,?T8,?e13,trivial⟩⟩
  case d0=>refine' Pc.aV ?a ?l ?c ?k;(case a=>rfl);(case l=>rfl);(case c=>rfl);(case k=>rfl)
  case d1=>refine' Pc.aV ?a ?l ?c ?k;(case a=>rfl);(case l=>rfl);(case c=>rfl);(case k=>rfl)
  case d2=>refine' Pc.aV ?a ?l ?c ?k;(case a=>rfl);(case l=>rfl);(case c=>rfl);(case k=>rfl)
  case d3=>refine' Pc.aV ?a ?l ?c ?k;(case a=>rfl);(case l=>rfl);(case c=>rfl);(case k=>rfl)
  case d4=>refine' Pc.aV ?a ?l ?c ?k;(case a=>rfl);(case l=>rfl);(case c=>rfl);(case k=>rfl)
  case d5=>refine' Pc.aV ?a ?l ?c ?k;(case a=>rfl);(case l=>rfl);(case c=>rfl);(case k=>rfl)
  case d6=>refine' Pc.aV ?a ?l ?c ?k;(case a=>rfl);(case l=>rfl);(case c=>rfl);(case k=>rfl)
  case d7=>refine' Pc.aV ?a ?l ?c ?k;(case a=>rfl);(case l=>rfl);(case c=>rfl);(case k=>rfl)
  case d8=>refine' Pc.aV ?a ?l ?c ?k;(case a=>rfl);(case l=>rfl);(case c=>rfl);(case k=>rfl)
  case d9=>refine' Pc.aV ?a ?l ?c ?k;(case a=>rfl);(case l=>rfl);(case c=>rfl);(case k=>rfl)
  case d10=>refine' Pc.aV ?a ?l ?c ?k;(case a=>rfl);(case l=>rfl);(case c=>rfl);(case k=>rfl)
  case d11=>refine' Pc.aV ?a ?l ?c ?k;(case a=>rfl);(case l=>rfl);(case c=>rfl);(case k=>rfl)
  case d12=>refine' Pc.aV ?a ?l ?c ?k;(case a=>rfl);(case l=>rfl);(case c=>rfl);(case k=>rfl)
  case d13=>refine' Pc.aV ?a ?l ?c ?k;(case a=>rfl);(case l=>rfl);(case c=>rfl);(case k=>rfl)
  case d14=>refine' Pc.aV ?a ?l ?c ?k;(case a=>rfl);(case l=>rfl);(case c=>rfl);(case k=>rfl)
  case d15=>refine' Pc.aV ?a ?l ?c ?k;(case a=>rfl);(case l=>rfl);(case c=>rfl);(case k=>rfl)
  case d16=>refine' Pc.aV ?a ?l ?c ?k;(case a=>rfl);(case l=>rfl);(case c=>rfl);(case k=>rfl)
  case d17=>refine' Pc.aV ?a ?l ?c ?k;(case a=>rfl);(case l=>rfl);(case c=>rfl);(case k=>rfl)
  case d18=>refine' Pc.aV ?a ?l ?c ?k;(case a=>rfl);(case l=>rfl);(case c=>rfl);(case k=>rfl)
  case d19=>refine' Pc.aV ?a ?l ?c ?k;(case a=>rfl);(case l=>rfl);(case c=>rfl);(case k=>rfl)
  case d20=>refine' Pc.aV ?a ?l ?c ?k;(case a=>rfl);(case l=>rfl);(case c=>rfl);(case k=>rfl)
  case d21=>refine' Pc.aV ?a ?l ?c ?k;(case a=>rfl);(case l=>rfl);(case c=>rfl);(case k=>rfl)
  case d22=>refine' Pc.aV ?a ?l ?c ?k;(case a=>rfl);(case l=>rfl);(case c=>rfl);(case k=>rfl)
  case d23=>refine' Pc.aV ?a ?l ?c ?k;(case a=>rfl);(case l=>rfl);(case c=>rfl);(case k=>rfl)
  case d24=>refine' Pc.aV ?a ?l ?c ?k;(case a=>rfl);(case l=>rfl);(case c=>rfl);(case k=>rfl)
  case d25=>refine' Pc.aV ?a ?l ?c ?k;(case a=>rfl);(case l=>rfl);(case c=>rfl);(case k=>rfl)
  case d26=>refine' Pc.aV ?a ?l ?c ?k;(case a=>rfl);(case l=>rfl);(case c=>rfl);(case k=>rfl)
  case d27=>refine' Pc.aV ?a ?l ?c ?k;(case a=>rfl);(case l=>rfl);(case c=>rfl);(case k=>rfl)
  case d28=>refine' Pc.aV ?a ?l ?c ?k;(case a=>rfl);(case l=>rfl);(case c=>rfl);(case k=>rfl)
  case d29=>refine' Pc.aV ?a ?l ?c ?k;(case a=>rfl);(case l=>rfl);(case c=>rfl);(case k=>rfl)
  case d30=>refine' Pc.aV ?a ?l ?c ?k;(case a=>rfl);(case l=>rfl);(case c=>rfl);(case k=>rfl)
  case d31=>refine' Pc.aV ?a ?l ?c ?k;(case a=>rfl);(case l=>rfl);(case c=>rfl);(case k=>rfl)
  case d32=>refine' Pc.aV ?a ?l ?c ?k;(case a=>rfl);(case l=>rfl);(case c=>rfl);(case k=>rfl)
  case d33=>refine' Pc.aV ?a ?l ?c ?k;(case a=>rfl);(case l=>rfl);(case c=>rfl);(case k=>rfl)
  case d34=>refine' Pc.aV ?a ?l ?c ?k;(case a=>rfl);(case l=>rfl);(case c=>rfl);(case k=>rfl)
  case d35=>refine' Pc.aV ?a ?l ?c ?k;(case a=>rfl);(case l=>rfl);(case c=>rfl);(case k=>rfl)
  case d36=>refine' Pc.aV ?a ?l ?c ?k;(case a=>rfl);(case l=>rfl);(case c=>rfl);(case k=>rfl)
  case d37=>refine' Pc.aV ?a ?l ?c ?k;(case a=>rfl);(case l=>rfl);(case c=>rfl);(case k=>rfl)
  case d38=>refine' Pc.aV ?a ?l ?c ?k;(case a=>rfl);(case l=>rfl);(case c=>rfl);(case k=>rfl)
  case T3=>refine' Pc.gl_int (i:=64) ?ga0;(case ga0=>rfl)
  case T2=>refine' Pc.gl_int (i:=67) ?ga1;(case ga1=>rfl)
  case T1=>refine' Pc.zY (kvs:=[(.inl 15,θ 16),(.inl 19,θ 37),(.inl 23,θ 64),(.inl 27,θ 96),(.inl 31,θ 133)]) ?ga2 ?gl2 ?gc2 ?gv2 ?gr2;(case ga2=>rfl);(case gl2=>rfl);(case gc2=>exact⟨rfl,rfl,rfl⟩);(case gv2=>exact (.cons rfl rfl rfl (.cons rfl rfl rfl (.cons rfl rfl rfl (.cons rfl rfl rfl (.cons rfl rfl rfl .nil))))));(case gr2=>decide)
  case TZ=>refine' Pc.zY (kvs:=[(.inl 15,θ 1),(.inl 19,θ 1),(.inl 23,θ 2),(.inl 27,θ 2),(.inl 31,θ 3)]) ?ga3 ?gl3 ?gc3 ?gv3 ?gr3;(case ga3=>rfl);(case gl3=>rfl);(case gc3=>exact⟨rfl,rfl,rfl⟩);(case gv3=>exact (.cons rfl rfl rfl (.cons rfl rfl rfl (.cons rfl rfl rfl (.cons rfl rfl rfl (.cons rfl rfl rfl .nil))))));(case gr3=>decide)
  case e0=>dsimp only;rfl
  case e1=>dsimp only;rfl
  case e2=>dsimp only;rfl
  case e3=>dsimp only;rfl
  case e4=>dsimp only;rfl
  case e5=>dsimp only;rfl
  case e6=>dsimp only;rfl
  case e7=>dsimp only;rfl
  case e8=>dsimp only;rfl
  case e9=>dsimp only;rfl
  case O8=>dsimp only;rfl
  case T9=>dsimp only;rfl
  case T8=>dsimp only;rfl
  case e13=>dsimp only;rfl
end
