import PyProof.Rows.All
import Wide.All
import OpenK.AllK
import Wide.FinOn
import Lean
import PyProof.EqAt
import PyProof.EqKinds
import PyProof.TupleCall
import PySem.Syntax
import PySem.Str
import PySem.Sem
import PySem.Builtin.Int.W1All
import PySem.Builtin.Str.Common
import PySem.Builtin.Range.Common
import KE.IntText
import KE.KSortAsk
import PyProof.IsRules
import PyProof.NeKinds
import PyProof.DictWalks
import PyProof.EnumMake
import PyProof.EnumFor
import PyProof.ZipIter
import PyProof.Rows.EnumRows
import PyProof.Rows.FactsT2
import KE.KRevIter
import PyProof.CompFree
import PyProof.CompUse
import PyProof.Cells
import PyProof.ConsumeWalk
import PyProof.IsInstanceH
import PyProof.IsiNone
import PyProof.SumWalkG
import PyProof.Rows.SumGenD
import KE.KDictList
import KE.KSortTup
import KE.KSorted
import KE.KSort
import PyProof.Draws
import PyProof.ListRange
import PyProof.MinMaxWalk
import PyProof.WalkInts
import PyProof.Conv_int_bool
import PyProof.Rows.CallKwBuiltin
import KE.KIntText
import PyProof.CallStr
import PyProof.Rows.SeqMore
import PyProof.Rows.StrJoin2
import PyProof.Rows.StrSplitAre
import PyProof.Rows.StrSplitJoin
import PyProof.Rows.SortRuns
import KE.KSortKey
import KE.KLam
import OpenK.KOwn
import PyProof.RulesAs
import PyProof.RulesDel
import PyProof.ExcArgsOwn
import PyProof.ExcAttrAll.ValueError
import PyProof.Rows.RuleN_isinstance
import PyProof.IsiTuple
import PyProof.ExcBaseAll.ValueError
import PySem.Challenge.RW_patchsquare_k39_found_turn
set_option Elab.async false
set_option linter.all false
set_option maxRecDepth 100000
set_option maxHeartbeats 0
abbrev aa:=@Option.map_eq_some_iff
abbrev ae:=@Option.bind_eq_some_iff
abbrev ag:=@List.mem_cons_of_mem
abbrev ah:=@Bool.and_eq_true
abbrev ai:=@List.length_map
abbrev aj:=@Nat.le_refl
abbrev ak:=@List.size_toArray
abbrev ao:=@List.mem_append_right
abbrev aq:=@List.mem_cons_self
abbrev au:=@List.append_assoc
abbrev av:=@Nat.lt_of_lt_of_le
abbrev aw:=@List.mem_of_getElem
abbrev ax:=@Bool.false_eq_true
abbrev ay:=@List.mem_append_left
abbrev az:=@List.length_cons
abbrev ba:=@List.map_cons
abbrev bc:=@List.append_nil
abbrev bh:=@Nat.ne_of_lt
abbrev bp:=@Array.length_toList
abbrev bq:=@decide_eq_true_eq
abbrev br:=@Option.some.inj
abbrev bt:=@PySem.mem_of_lookup
abbrev bu:=@Option.map_some
abbrev bw:=@List.lookup_cons
abbrev bz:=@PyProof.Rows.callWith_type1
abbrev cf:=@if_true
abbrev cg:=@Option.some.injEq
abbrev cq:=@Nat.zero_le
abbrev cw:=@Bool.false_ne_true
abbrev cx:=@if_false
abbrev cy:=@List.nodup_nil
abbrev da:=@List.length_set
abbrev de:=@Array.toList_append
abbrev df:=@List.take_append_drop
abbrev dg:=@Nat.le_trans
abbrev dh:=@Int.toNat_natCast
abbrev dk:=@List.length_append
abbrev dm:=@List.map_map
abbrev dq:=@List.all_eq_true
abbrev dr:=@List.extract_eq_take_drop
abbrev du:=@decide_eq_true
abbrev dw:=@PySem.W.mg_of
abbrev dz:=@Nat.lt_irrefl
abbrev ec:=@List.ext_getElem
abbrev ef:=@decide_eq_false
abbrev eg:=@Ne.symm
abbrev eh:=@Nat.zero_add
abbrev eo:=@List.length_take
abbrev ey:=@List.drop_eq_getElem_cons
abbrev fb:=@List.nodup_append
abbrev fe:=@Bool.not_eq_true'
abbrev fh:=@List.map_congr_left
abbrev fi:=@List.getElem_mem
abbrev fk:=@decide_true
abbrev fm:=@Int.emod_nonneg
abbrev fq:=@List.perm_append_comm
abbrev ft:=@List.length_replicate
abbrev fu:=@Nat.lt_succ_of_lt
abbrev fv:=@List.not_mem_nil
abbrev fw:=@List.map_nil
abbrev f9:=@List.mem_or_eq_of_mem_set
abbrev gb:=@List.length_reverse
abbrev gc:=@List.mem_cons
abbrev gf:=@Bool.or_eq_true
abbrev gh:=@beq_iff_eq
abbrev gi:=@List.lookup_append
abbrev gj:=@List.contains_cons
abbrev gm:=@Int.emod_lt_of_pos
abbrev gn:=@decide_false
abbrev gp:=@Nat.le_of_lt
abbrev gq:=@List.take_of_length_le
abbrev gr:=@List.mem_map
abbrev gu:=@List.drop_of_length_le
abbrev gv:=@List.Perm.append_left
abbrev gw:=@beq_self_eq_true
abbrev gx:=@Nat.lt_succ_self
abbrev gy:=@Int.mul_le_mul_of_nonneg_left
abbrev ic:=@Array.toList_extract
abbrev ie:=@Array.toArray_toList
abbrev ig:=@List.filterMap_cons
abbrev ij:=@Int.le_trans
abbrev ik:=@List.reverse_cons
abbrev il:=@Int.le_refl
abbrev ip:=@List.any_cons
abbrev iq:=@List.Pairwise.imp_of_mem
abbrev ir:=@decide_eq_false_iff_not
abbrev iu:=@congrArg
abbrev iw:=@PySem.F.plainAttrs_list
abbrev iy:=@Nat.le_of_not_lt
abbrev iz:=@PySem.W.cellsFrom_some
abbrev i4:=@Nat.ne_of_gt
abbrev i5:=@List.Perm.append_right
abbrev i6:=@Int.le_of_lt
abbrev i7:=@List.of_mem_zip
abbrev i8:=@List.map_append
section
namespace L2
open PySem PySem.Spec PyProof.Rows
noncomputable def dP (s:Stmt):Arguments:=match s with
 |.FunctionDef _ a _ _ _ _ _ _ _ _=>a
 |_=>{ posonlyargs:=[],args:=[],vararg:=none,kwonlyargs:=[],kw_defaults:=[],kwarg:=none,defaults:=[] }
noncomputable def bL (s:Stmt):List Stmt:=match s with
 |.FunctionDef _ _ b _ _ _ _ _ _ _=>b
 |_=>[]
noncomputable def aH (s:Stmt):Scope:=match s with
 |.FunctionDef _ _ _ _ _ _ sc _ _ _=>sc
 |_=>{ kind:=.function,names:=[],isGenerator:=false,isCoroutine:=false }
end L2
end
section
namespace Pc.Hd
open PySem PySem.W L2
noncomputable def sv (x:String)(t:Tok):Value:=.str (Str.ofString x) t
noncomputable def kv (P:Params)(x:String)(t:Tok)(v:Value):DictEntry:=⟨PyData.keyHash P (Str.ofString x),sv x t,v⟩
noncomputable def vE:Stmt->Str
 |.FunctionDef n ..=>n
 |_=>Str.ofString ""
noncomputable def fo (a:Addr)(s:Stmt)(m c:Value):Addr×Obj:=(a,⟨.type "function",none,.func { name:=vE s,qualname:=vE s,params:=dP s,body:=.stmts (bL s),scope:=aH s,globals:=mainGlobals,closure:=[],defaults:=.none,kwdefaults:=.none,pyModule:=m,code:=c },#[]⟩)
noncomputable def co (a:Addr)(vs:Array Value):Addr×Obj:=(a,⟨.type "code",none,.fields vs,#[]⟩)
noncomputable def tu (a:Addr)(vs:Array Value):Addr×Obj:=(a,⟨.type "tuple",none,.seq vs 0,#[]⟩)
noncomputable def di (a:Addr)(es:Array DictEntry)(n:Nat):Addr×Obj:=(a,⟨.type "dict",none,.dict es n,#[]⟩)
noncomputable def cq (a:Addr)(n q:String)(t1 t2 t3:Tok)(l k:Int)(r s:Addr)(x y:Value)(u:Addr)(c:Int)(v:Tok):Addr×Obj:=co a #[sv n t1,sv q t2,sv "/claim/cut.py" t3,.int l 0,.int k 0,.int 0 0,.int 0 0,.int 3 0,.ref r,.bool true,.int 181 0,.ref s,.none,x,y,.ref u,.int c 0,.int l 0,sv "/claim/cut.py" v]
noncomputable def ec (a:Addr)(n:String)(m u:Addr)(t v:Tok):Addr×Obj:=(a,{ cls:=.type "type",data:=.cls { name:=Str.ofString n,bases:=[.ref 24],mro:=[.ref a,.ref 24,.type "ValueError",.type "Exception",.type "BaseException",.type "object"],ns:=m,qualname:=Str.ofString n },slots:=#[some (.ref u),none,some (sv n t),some (sv n v),some (.builtin "ValueError.__new__"),some (.bool true)] })
noncomputable def mt (s:Stmt)(i:Nat):Stmt:=match s with
 |.ClassDef _ _ _ b ..=>b.getD i (.Pass ⟨0,0,0,0⟩)
 |s=>s
noncomputable def fm (a:Addr)(s:Stmt)(n q:String)(m c:Value):Addr×Obj:=(a,⟨.type "function",none,.func { name:=Str.ofString n,qualname:=Str.ofString q,params:=dP s,body:=.stmts (bL s),scope:=aH s,globals:=mainGlobals,closure:=[],defaults:=.none,kwdefaults:=.none,pyModule:=m,code:=c },#[]⟩)
noncomputable def kd (P:Params)(a:Addr)(t1 t2 t3:Tok)(l:Int)(t4 t5:Tok)(r:Addr)(t6:Tok):Addr×Obj:=di a #[kv P "__module__" t1 (sv "patchsquare.errors" t2),kv P "__firstlineno__" t3 (.int l t4),kv P "__static_attributes__" t5 (.ref r),kv P "__doc__" t6 .none] 2
end Pc.Hd
end
section
namespace K39
open PySem PySem.Spec PyProof.Rows L2
noncomputable abbrev st (i:Nat):Stmt:=PySem.Challenge.pw_patchsquare_k39_found_turn.main.body.getD i (.Pass ⟨0,0,0,0⟩)
end K39
namespace K39
open PySem PySem.W Pc.Hd
noncomputable def K (P:Params):Frag:=[(2,{ cls:=Value.none,data:=Data.dict #[] }),
 di 3 #[kv P "__name__" 165 (sv "law_patchsquare_k39_found_turn" 481),kv P "__doc__" 166 .none,kv P "__package__" 167 .none,kv P "__loader__" 168 (.builtin "__main__.__loader__#opaque"),kv P "__spec__" 169 .none,kv P "__annotations__" 170 (.ref 6),kv P "__builtins__" 171 (.ref 4),kv P "__file__" 173 (sv "/claim/cut.py" 172),kv P "__cached__" 174 .none,kv P "SquareError" 206 (.ref 24),kv P "NoText" 222 (.ref 37),kv P "TooLong" 238 (.ref 49),kv P "NoInverse" 254 (.ref 61),kv P "NoLabel" 270 (.ref 73),kv P "NoMarks" 286 (.ref 85),kv P "NoSquare" 302 (.ref 97),kv P "NoSign" 327 (.ref 116),kv P "NoMend" 352 (.ref 135),kv P "NoPicture" 377 (.ref 154),kv P "MARK_SIDE" 381 (.int 5 380),kv P "UPPER_LEFT" 385 (.ref 157),kv P "UPPER_RIGHT" 389 (.ref 158),kv P "LOWER" 393 (.ref 159),kv P "mark_cells" 404 (.ref 166),kv P "mark_cell" 414 (.ref 173),kv P "mark_depth" 423 (.ref 180),kv P "TURNS" 427 (.int 8 426),kv P "QUARTERS" 429 (.int 4 428),kv P "MOST_OFF" 431 (.int 8 430),kv P "turned_back" 440 (.ref 187),kv P "is_mirroring" 447 (.ref 194),kv P "mirrored" 453 (.ref 199),kv P "quarters_turned" 459 (.ref 204),kv P "column_upwards" 465 (.ref 209),kv P "found_turn" 474 (.ref 216),kv P "marks_off" 480 (.ref 221),kv P "_law_mix" 491 (.ref 228),kv P "_law_salt" 497 (.ref 233),kv P "_law_size" 504 (.ref 240),kv P "_law_square" 516 (.ref 247),kv P "_law_copy" 522 (.ref 252),kv P "_law_turned" 537 (.ref 259),kv P "_law_marks" 551 (.ref 266),kv P "_law_picked" 562 (.ref 273),kv P "_law_unlike" 570 (.ref 280),kv P "_law_whole" 577 (.ref 287),kv P "_law_back" 584 (.ref 294),kv P "_law_due" 590 (.ref 299),kv P "_law_told" 599 (.ref 306),kv P "_law_is_no_marks" 606 (.ref 313),kv P "law" 626 (.ref 320)] 51,
 (4,{ cls:=Value.type "module",dict:=some 0 }),
 di 6 #[] 0,
 tu 15 #[(.type "ValueError")],
 tu 22 #[],
 di 23 #[kv P "__module__" 196 (sv "patchsquare.errors" 187),kv P "__firstlineno__" 200 (.int 2 199),kv P "__static_attributes__" 201 (.ref 22),kv P "__weakref__" 203 (.ref 25),kv P "__doc__" 204 .none] 3,
 (24,{ cls:=Value.type "type",data:=Data.cls { name:=Str.ofString "SquareError",bases:=[Value.type "ValueError"],mro:=[Value.ref 24,Value.type "ValueError",Value.type "Exception",Value.type "BaseException",Value.type "object"],ns:=23,qualname:=Str.ofString "SquareError",subclasses:=[Value.ref 37,Value.ref 49,Value.ref 61,Value.ref 73,Value.ref 85,Value.ref 97,Value.ref 116,Value.ref 135,Value.ref 154] },slots:=#[some (Value.ref 15),none,some (Value.str (Str.ofString "SquareError") 189),some (Value.str (Str.ofString "SquareError") 197),some (Value.builtin "ValueError.__new__"),some (Value.bool true)] }),
 (25,{ cls:=Value.type "getset_descriptor",data:=Data.fields #[Value.str (Str.ofString "__weakref__") 202,Value.ref 24,Value.builtin "ExceptionGroup.__weakref__",Value.none] }),
 tu 28 #[(.ref 24)],
 tu 35 #[],
 kd P 36 214 187 218 4 217 219 35 220,
 ec 37 "NoText" 36 28 207 215,
 tu 40 #[(.ref 24)],
 tu 47 #[],
 kd P 48 230 187 234 6 233 235 47 236,
 ec 49 "TooLong" 48 40 223 231,
 tu 52 #[(.ref 24)],
 tu 59 #[],
 kd P 60 246 187 250 8 249 251 59 252,
 ec 61 "NoInverse" 60 52 239 247,
 tu 64 #[(.ref 24)],
 tu 71 #[],
 kd P 72 262 187 266 10 265 267 71 268,
 ec 73 "NoLabel" 72 64 255 263,
 tu 76 #[(.ref 24)],
 tu 83 #[],
 kd P 84 278 187 282 12 281 283 83 284,
 ec 85 "NoMarks" 84 76 271 279,
 tu 88 #[(.ref 24)],
 tu 95 #[],
 kd P 96 294 187 298 14 297 299 95 300,
 ec 97 "NoSquare" 96 88 287 295,
 tu 100 #[(.ref 24)],
 cq 112 "__init__" "NoSign.__init__" 315 316 317 18 2 107 108 (.ref 109) (.ref 110) 111 320 321,
 fm 113 (mt (st 8) 0) "__init__" "NoSign.__init__" (sv "patchsquare.errors" 187) (.ref 112),
 tu 114 #[(sv "place" 323)],
 di 115 #[kv P "__module__" 310 (sv "patchsquare.errors" 187),kv P "__firstlineno__" 314 (.int 16 313),kv P "__init__" 322 (.ref 113),kv P "__static_attributes__" 324 (.ref 114),kv P "__doc__" 325 .none] 2,
 ec 116 "NoSign" 115 100 303 311,
 tu 119 #[(.ref 24)],
 cq 131 "__init__" "NoMend.__init__" 340 341 342 23 2 126 127 (.ref 128) (.ref 129) 130 345 346,
 fm 132 (mt (st 9) 0) "__init__" "NoMend.__init__" (sv "patchsquare.errors" 187) (.ref 131),
 tu 133 #[(sv "block" 348)],
 di 134 #[kv P "__module__" 335 (sv "patchsquare.errors" 187),kv P "__firstlineno__" 339 (.int 21 338),kv P "__init__" 347 (.ref 132),kv P "__static_attributes__" 349 (.ref 133),kv P "__doc__" 350 .none] 2,
 ec 135 "NoMend" 134 119 328 336,
 tu 138 #[(.ref 24)],
 cq 150 "__init__" "NoPicture.__init__" 365 366 367 28 2 145 146 (.ref 147) (.ref 148) 149 370 371,
 fm 151 (mt (st 10) 0) "__init__" "NoPicture.__init__" (sv "patchsquare.errors" 187) (.ref 150),
 tu 152 #[(sv "row" 373)],
 di 153 #[kv P "__module__" 360 (sv "patchsquare.errors" 187),kv P "__firstlineno__" 364 (.int 26 363),kv P "__init__" 372 (.ref 151),kv P "__static_attributes__" 374 (.ref 152),kv P "__doc__" 375 .none] 2,
 ec 154 "NoPicture" 153 138 353 361,
 tu 157 #[(.int 1 382),(.int 0 383),(.int 1 384)],
 tu 158 #[(.int 1 386),(.int 1 387),(.int 0 388)],
 tu 159 #[(.int 0 390),(.int 1 391),(.int 0 392)],
 cq 165 "mark_cells" "mark_cells" 394 395 396 36 1 160 161 (.ref 162) (.ref 163) 164 402 403,
 fo 166 (st 16) (sv "patchsquare.floor" 378) (.ref 165),
 cq 172 "mark_cell" "mark_cell" 405 406 407 43 3 167 168 (.ref 169) (.ref 170) 171 412 413,
 fo 173 (st 17) (sv "patchsquare.floor" 378) (.ref 172),
 cq 179 "mark_depth" "mark_depth" 415 416 417 50 2 174 175 (.ref 176) (.ref 177) 178 421 422,
 fo 180 (st 18) (sv "patchsquare.floor" 378) (.ref 179),
 cq 186 "turned_back" "turned_back" 432 433 434 57 2 181 182 (.ref 183) (.ref 184) 185 438 439,
 fo 187 (st 23) (sv "patchsquare.turning" 424) (.ref 186),
 cq 193 "is_mirroring" "is_mirroring" 441 442 443 60 1 188 189 (.ref 190) (.ref 191) 192 445 446,
 fo 194 (st 24) (sv "patchsquare.turning" 424) (.ref 193),
 cq 198 "mirrored" "mirrored" 448 449 450 62 1 195 196 .none .none 197 451 452,
 fo 199 (st 25) (sv "patchsquare.turning" 424) (.ref 198),
 cq 203 "quarters_turned" "quarters_turned" 454 455 456 64 2 200 201 .none .none 202 457 458,
 fo 204 (st 26) (sv "patchsquare.turning" 424) (.ref 203),
 cq 208 "column_upwards" "column_upwards" 460 461 462 69 2 205 206 .none .none 207 463 464,
 fo 209 (st 27) (sv "patchsquare.turning" 424) (.ref 208),
 cq 215 "found_turn" "found_turn" 466 467 468 71 1 210 211 (.ref 212) (.ref 213) 214 472 473,
 fo 216 (st 28) (sv "patchsquare.turning" 424) (.ref 215),
 cq 220 "marks_off" "marks_off" 475 476 477 77 1 217 218 .none .none 219 478 479,
 fo 221 (st 29) (sv "patchsquare.turning" 424) (.ref 220),
 cq 227 "_law_mix" "_law_mix" 483 484 485 80 3 222 223 (.ref 224) (.ref 225) 226 489 490,
 fo 228 (st 31) (sv "law_patchsquare_k39_found_turn" 481) (.ref 227),
 cq 232 "_law_salt" "_law_salt" 492 493 494 82 2 229 230 .none .none 231 495 496,
 fo 233 (st 32) (sv "law_patchsquare_k39_found_turn" 481) (.ref 232),
 cq 239 "_law_size" "_law_size" 498 499 500 84 1 234 235 (.ref 236) (.ref 237) 238 502 503,
 fo 240 (st 33) (sv "law_patchsquare_k39_found_turn" 481) (.ref 239),
 cq 246 "_law_square" "_law_square" 505 506 507 86 2 241 242 (.ref 243) (.ref 244) 245 514 515,
 fo 247 (st 34) (sv "law_patchsquare_k39_found_turn" 481) (.ref 246),
 cq 251 "_law_copy" "_law_copy" 517 518 519 95 1 248 249 .none .none 250 520 521,
 fo 252 (st 35) (sv "law_patchsquare_k39_found_turn" 481) (.ref 251),
 cq 258 "_law_turned" "_law_turned" 523 524 525 97 2 253 254 (.ref 255) (.ref 256) 257 535 536,
 fo 259 (st 36) (sv "law_patchsquare_k39_found_turn" 481) (.ref 258),
 cq 265 "_law_marks" "_law_marks" 538 539 540 109 1 260 261 (.ref 262) (.ref 263) 264 549 550,
 fo 266 (st 37) (sv "law_patchsquare_k39_found_turn" 481) (.ref 265),
 cq 272 "_law_picked" "_law_picked" 552 553 554 120 3 267 268 (.ref 269) (.ref 270) 271 560 561,
 fo 273 (st 38) (sv "law_patchsquare_k39_found_turn" 481) (.ref 272),
 cq 279 "_law_unlike" "_law_unlike" 563 564 565 123 2 274 275 (.ref 276) (.ref 277) 278 568 569,
 fo 280 (st 39) (sv "law_patchsquare_k39_found_turn" 481) (.ref 279),
 cq 286 "_law_whole" "_law_whole" 571 572 573 127 1 281 282 (.ref 283) (.ref 284) 285 575 576,
 fo 287 (st 40) (sv "law_patchsquare_k39_found_turn" 481) (.ref 286),
 cq 293 "_law_back" "_law_back" 578 579 580 129 1 288 289 (.ref 290) (.ref 291) 292 582 583,
 fo 294 (st 41) (sv "law_patchsquare_k39_found_turn" 481) (.ref 293),
 cq 298 "_law_due" "_law_due" 585 586 587 133 2 295 296 .none .none 297 588 589,
 fo 299 (st 42) (sv "law_patchsquare_k39_found_turn" 481) (.ref 298),
 cq 305 "_law_told" "_law_told" 591 592 593 140 1 300 301 (.ref 302) (.ref 303) 304 597 598,
 fo 306 (st 43) (sv "law_patchsquare_k39_found_turn" 481) (.ref 305),
 cq 312 "_law_is_no_marks" "_law_is_no_marks" 600 601 602 147 1 307 308 (.ref 309) (.ref 310) 311 604 605,
 fo 313 (st 44) (sv "law_patchsquare_k39_found_turn" 481) (.ref 312),
 cq 319 "law" "law" 607 608 609 151 1 314 315 (.ref 316) (.ref 317) 318 624 625,
 fo 320 (st 45) (sv "law_patchsquare_k39_found_turn" 481) (.ref 319)]
noncomputable def Kf (P:Params):Frag:=(268,{ cls:=Value.none,data:=Data.fields #[] })::K P
noncomputable def as:List Addr:=[268,2,3,4,6,15,22,23,24,25,28,35,36,37,40,47,48,49,52,59,60,61,64,71,72,73,76,83,84,85,88,95,96,97,100,112,113,114,115,116,119,131,132,133,134,135,138,150,151,152,153,154,157,158,159,165,166,172,173,179,180,186,187,193,194,198,199,203,204,208,209,215,216,220,221,227,228,232,233,239,240,246,247,251,252,258,259,265,266,272,273,279,280,286,287,293,294,298,299,305,306,312,313,319,320]
noncomputable def Q:Program:={ PySem.Challenge.pw_patchsquare_k39_found_turn with main:={ PySem.Challenge.pw_patchsquare_k39_found_turn.main with body:=[st 1,st 2,st 3,st 4,st 5,st 6,st 7,st 8,st 9,st 10,st 12,st 13,st 14,st 15,st 16,st 17,st 18,st 20,st 21,st 22,st 23,st 24,st 25,st 26,st 27,st 28,st 29,st 31,st 32,st 33,st 34,st 35,st 36,st 37,st 38,st 39,st 40,st 41,st 42,st 43,st 44,st 45] } }
noncomputable def H:Hook:=kHook Kf as (fun _=>rfl)
open PyProof.Rows
theorem leD {α β γ δ:Type}{o:Option α}{f:α->β×γ}{g:α->δ}{a:β×γ}{b:δ}(h:o.map (fun s=>(f s).1)=some a.1)(h':o.map (fun s=>(f s).2)=some a.2)(k:o.map g=some b):o.map (fun s=>(f s,g s))=some (a,b):=by
 cases o with
 |none=>cases h
 |some s=>exact congrArg some (Prod.ext (Prod.ext (Option.some.inj h) (Option.some.inj h')) (Option.some.inj k))
abbrev oeQ (w:World):=openEnds treeTable PySem.Challenge.pw_patchsquare_k39_found_turn w 6264
noncomputable abbrev seQ (s:Shared):=openSeen Q [] (importedModules PySem.Challenge.pw_patchsquare_k39_found_turn.main.body) (fun s=>xlAt K39.Q [] s&&recOk (RowW.records PySem.Challenge.rw_patchsquare_k39_found_turn.row.toRowW) s) true s
theorem leA (w:World):(oeQ w).map (fun s=>(seQ s).1)=some (openGood Q []).1:=by kernel_rfl
theorem leB (w:World):(oeQ w).map (fun s=>(seQ s).2)=some (openGood Q []).2:=by kernel_rfl
theorem leC (w:World):(oeQ w).map (Hook.obs H)=some (Hook.val H w):=by kernel_rfl
theorem left:LeftO PySem.Challenge.pw_patchsquare_k39_found_turn Q [] (fun s=>xlAt K39.Q [] s&&recOk (RowW.records PySem.Challenge.rw_patchsquare_k39_found_turn.row.toRowW) s) (Hook.obs H) (Hook.val H) 6264:=fun w=>leD (leA w) (leB w) (leC w)
end K39
end
section
namespace L2
open PySem PySem.Spec PyProof.Rows
noncomputable abbrev Key:=Sum Int Str
noncomputable def kQ:Key->Value->Bool
 |.inl k,v=>Value.isInt k v
 |.inr x,v=>Value.isStrOf x v
noncomputable def keyH (w:World):Key->Int
 |.inl k=>hashInt k
 |.inr x=>hashStr w x
theorem bM:∀{k:Key}{v:Value},kQ k v=true->(∃ i t,k=Sum.inl i/\v=Value.int i t)\/(∃ x t,k=Sum.inr x/\v=Value.str x t)
 | .inl i,v,h=>by
  obtain⟨t,e⟩:=Value.isInt_shape (k:=i) (v:=v) h;exact .inl ⟨i,t,rfl,e⟩
 | .inr x,v,h=>by
  obtain⟨t,e⟩:=Value.isStrOf_shape (x:=x) (v:=v) h;exact .inr ⟨x,t,rfl,e⟩
theorem uv (i:Int)(t:Tok):kQ (.inl i) (.int i t)=true:=by simp[kQ,Value.isInt]
theorem tH (x:Str)(t:Tok):kQ (.inr x) (.str x t)=true:=by simp[kQ,Value.isStrOf]
theorem Bk (a b:Int):decide ((Sum.inl a:Key)=Sum.inl b)=(a==b):=by
 by_cases e:a=b
 ·subst e;simp
 ·have h:¬ (Sum.inl a:Key)=Sum.inl b:=fun q=>e (Sum.inl.inj q)
  rw[ef h];exact (beq_eq_false_iff_ne.mpr e).symm
theorem By (a b:Str):decide ((Sum.inr a:Key)=Sum.inr b)=decide (a=b):=by
 by_cases e:a=b
 ·subst e;simp
 ·have h:¬ (Sum.inr a:Key)=Sum.inr b:=fun q=>e (Sum.inr.inj q)
  rw[ef h,ef e]
theorem A8 (a:Int)(b:Str):decide ((Sum.inl a:Key)=Sum.inr b)=false:=ef (fun q=>nomatch q)
theorem CB (a:Str)(b:Int):decide ((Sum.inr a:Key)=Sum.inl b)=false:=ef (fun q=>nomatch q)
noncomputable def cJ (prog:Program)(w:World):PySem.KeyKind prog w Key where
 is:=kQ
 hash:=keyH w
 inj:=fun v a b ha hb=>by
  rcases bM ha with ⟨i,t,rfl,rfl⟩ | ⟨x,t,rfl,rfl⟩
  ·rcases bM hb with ⟨j,u,rfl,e⟩ | ⟨y,u,rfl,e⟩
   ·injection e with e1 _;rw[e1]
   ·exact nomatch e
  ·rcases bM hb with ⟨j,u,rfl,e⟩ | ⟨y,u,rfl,e⟩
   ·exact nomatch e
   ·injection e with e1 _;rw[e1]
 byValue:=fun k v h=>by
  rcases bM h with ⟨i,t,rfl,rfl⟩ | ⟨x,t,rfl,rfl⟩<;>rfl
 pyHash:=fun hv h=>by
  rcases bM hv with ⟨i,t,rfl,rfl⟩ | ⟨x,t,rfl,rfl⟩
  ·exact wpAny_pyHash_int h
  ·exact wpAny_pyHash_str h
 eqBool:=fun hu hv h=>by
  rcases bM hu with ⟨i,t,rfl,rfl⟩ | ⟨x,t,rfl,rfl⟩
  ·rcases bM hv with ⟨j,u,rfl,rfl⟩ | ⟨y,u,rfl,rfl⟩
   ·rw[Bk] at h;exact wpAny_eqBool_int h
   ·rw[A8] at h;exact SeqAt.EqAt.int_str i t y u _ _ _ _ h
  ·rcases bM hv with ⟨j,u,rfl,rfl⟩ | ⟨y,u,rfl,rfl⟩
   ·rw[CB] at h;exact SeqAt.EqAt.str_int x t j u _ _ _ _ h
   ·rw[By] at h;exact wpAny_eqBool_str h
 «strs»:=fun k x t v h=>by
  rcases bM h with ⟨i,u,rfl,e⟩ | ⟨y,u,rfl,e⟩
  ·exact nomatch e
  ·injection e with e1 _
   subst e1;cases v<;>rfl
theorem oM (prog:Program)(w:World)(i:Int)(t:Tok):(cJ prog w).is (.inl i) (.int i t)=true:=uv i t
theorem oO (prog:Program)(w:World)(x:Str)(t:Tok):(cJ prog w).is (.inr x) (.str x t)=true:=tH x t
end L2
namespace L2
open PySem PySem.Spec PyProof.Rows
inductive V where
 | non | bl (b:Bool) | int (i:Int) | str (x:Str) | byt (b:Array UInt8) | flt (b:UInt64) | ref (a:Addr) | ty (n:String)
 deriving DecidableEq
noncomputable def RelV:V->Value->Prop
 |.non,u=>u=Value.none
 |.bl b,u=>u=Value.bool b
 |.int i,u=>∃ t,u=Value.int i t
 |.str x,u=>∃ t,u=Value.str x t
 |.byt b,u=>∃ t,u=Value.bytes b t
 |.flt b,u=>∃ t,u=Value.float b t
 |.ref a,u=>u=Value.ref a
 |.ty n,u=>u=Value.type n
noncomputable abbrev aL:List V->List Value->Prop:=Paired RelV
theorem aL.length {xs:List V}{us:List Value}(r:aL xs us):xs.length=us.length:=Paired.length r
theorem aL.get:∀{xs:List V}{us:List Value}{i:Nat}{x:V},aL xs us->xs[i]? = some x->∃ u,us[i]? = some u/\RelV x u
 |_,_,_,_,.nil,e=>by simp at e
 |_,_,0,_,.cons r _,e=>by simp at e;subst e;exact⟨_,rfl,r⟩
 | _,_,i+1,x,.cons _ t,e=>by
  obtain⟨u,h1,h2⟩:=aL.get (i:=i) (x:=x) t (by simpa using e);exact⟨u,by simpa using h1,h2⟩
theorem aL.set {x:V}{u:Value}(r:RelV x u):∀{xs:List V}{us:List Value}(i:Nat),aL xs us->aL (xs.set i x) (us.set i u)
 |_,_,_,.nil=>.nil
 |_,_,0,.cons _ t=>.cons r t
 |_,_,i+1,.cons q t=>.cons q (aL.set r i t)
theorem aL.append:∀{xs ys:List V}{us ws:List Value},aL xs us->aL ys ws->aL (xs++ys) (us++ws)
 |_,_,_,_,.nil,s=>s
 |_,_,_,_,.cons r t,s=>.cons r (aL.append t s)
theorem aL.take:∀{xs:List V}{us:List Value}(n:Nat),aL xs us->aL (xs.take n) (us.take n)
 |_,_,0,_=>.nil
 |_,_,_+1,.nil=>.nil
 |_,_,n+1,.cons r t=>.cons r (aL.take n t)
theorem aL.drop:∀{xs:List V}{us:List Value}(n:Nat),aL xs us->aL (xs.drop n) (us.drop n)
 |_,_,0,r=>r
 |_,_,_+1,.nil=>.nil
 |_,_,n+1,.cons _ t=>aL.drop n t
noncomputable def Dd:Option V->Option Value->Prop
 |some v,some u=>RelV v u
 |none,none=>True
 |_,_=>False
def KV {κ:Type}:List (κ×V)->List (κ×Value)->Prop:=Paired fun (p:κ×V) (q:κ×Value)=>p.1=q.1/\RelV p.2 q.2
noncomputable def kV:Key->V
 |.inl i=>.int i
 |.inr x=>.str x
inductive HO where
 | lst (xs:List V)
 | tup (xs:List V)
 | dK (kvs:List (Key×V)) | dT (kvs:List (List Key×V))
 | set (S:Int->Bool) (n:Nat)
 | ins (C dx:Addr) (fs:List (Str×V))
 | own (x:Addr)
 | xd (fs:List (Str×V))
 | met (f x:Addr)
 | rng (lo hi:Int)
 | frz (o:Obj) (u:HO)
 | tbl (ps:Array Value)
 | ext (φ:Heap->Prop)
noncomputable abbrev Hp:=Addr->Option HO
noncomputable def upd (H:Hp)(a:Addr)(o:HO):Hp:=fun b=>if b=a then some o else H b
theorem aK {H:Hp}{a:Addr}{o:HO}:upd H a o a=some o:=by unfold upd;rw[if_pos rfl]
theorem aF {H:Hp}{a b:Addr}{o:HO}(h:b≠a):upd H a o b=H b:=by unfold upd;rw[if_neg h]
theorem aS {H:Hp}{a b:Addr}{o:HO}(h:H a=some o)(h':H b=none):a≠b:=by
 intro e;subst e;rw[h] at h';cases h'
noncomputable def jP:Addr:=268
noncomputable def jQ:Str:="_law_picked.<locals>.<lambda>"
noncomputable abbrev jO:Obj:={ cls:=.none,data:=.fields #[] }
def xl (H:Hp)(h:Heap)(a:Addr):Prop:=∃ ps:Array Value,h.get? a=some { cls:=.none,data:=.fields ps }/\PySem.TriplesOk ps.toList/\∀(p:Pos) (cv:Value),codeAmong p ps.toList=some cv->∃ c,cv = .ref c/\H c=some (.own a)/\h.CodeRec (.ref c) jQ
def JT (H:Hp):Prop:=H jP=some (.frz jO (.tbl #[]))
section
variable (P:Program)(w:World)
noncomputable def bU (H:Hp)(h:Heap)(a:Addr):HO->Prop
 |.lst xs=>xs.length<=sizeLine/\∃(its:List Value) (n:Nat),aL xs its/\h.get? a=some { cls:=.type "list",data:=.seq its.toArray n }
 |.tup xs=>xs.length<=sizeLine/\∃ its:List Value,aL xs its/\IsTup h a its.toArray
 |.dK kvs=>kvs.length<=sizeLine/\(a==sysModules)=false/\∃ vs,KV kvs vs/\h.DictOf (cJ P w) a vs
 | .dT kvs=>kvs.length<=sizeLine/\(a==sysModules)=false/\∃ xs:List (List Key×Addr×Value),
   Paired (fun (p:List Key×V) (q:List Key×Addr×Value)=>p.1=q.1/\H q.2.1=some (.tup (p.1.map kV))/\RelV p.2 q.2.2) kvs xs /\
   ∃ o es ep,h.get? a=some o/\o.ExactDict/\o.data = .dict es ep/\es.toList=xs.map (entryOfKey (tupleKind (cJ P w)))/\(xs.map (·.1)).Nodup
 |.set S n=>h.SetOf (intKind P w) a S n
 | .ins C dx fs=>H dx=some (.own a)/\fs.length<=1000/\dx≠a/\h.get? a=some (PySem.W.instObj C dx) /\
   ∃ mA,h.Ns1 dx mA/\(∀ f,Dd (fs.lookup f) (mA f))/\PySem.Within mA (fs.map (·.1))
 |.own _=>∃ o,h.get? a=some o
 |.xd fs=>∃ mA,h.Ns1 a mA/\∀ f,Dd (fs.lookup f) (mA f)
 |.rng lo hi=>∃ t u v,h.get? a=some { cls:=.type "range",data:=.fields #[.int lo t,.int hi u,.int 1 v] }
 |.frz o u=>(match u with | .tbl _=>True | _=>h.get? a=some o)/\bU H h a u
 |.tbl _=>xl H h a
 |.met f x=>h.get? a=some (PySem.W.methodObj (.ref f) (.ref x))
 |.ext φ=>φ h/\(∃ o,h.get? a=some o)/\∀ h1 h2:Heap,φ h1->(∀ o,h1.get? a=some o->h2.get? a=some o)->φ h2
def hV (H:Hp)(h:Heap):Prop:=∀ a o,H a=some o->bU P w H h a o
end
section
variable {P:Program}{w:World}{H H':Hp}{h h':Heap}{a:Addr}{o:HO}
theorem bU.lt (x:bU P w H h a o):a<h.objs.size:=by
 cases o with
 |lst xs=>obtain⟨_,_,_,_,e⟩:=x;exact Heap.lt_size e
 |tup xs=>obtain⟨_,_,_,p⟩:=x;exact p.lt
 |dK kvs=>obtain⟨_,_,_,_,o,_,_,e,_⟩:=x;exact Heap.lt_size e
 |dT kvs=>obtain⟨_,_,_,_,o,_,_,e,_⟩:=x;exact Heap.lt_size e
 |set S n=>obtain⟨o,_,_,_,e,_⟩:=x;exact Heap.lt_size e
 |ins C dx fs=>obtain⟨_,_,_,e,_⟩:=x;exact Heap.lt_size e
 |own y=>obtain⟨_,e⟩:=x;exact Heap.lt_size e
 |xd fs=>obtain⟨_,⟨_,_,_,e,_⟩,_⟩:=x;exact Heap.lt_size e
 |rng lo hi=>obtain⟨_,_,_,e⟩:=x;exact Heap.lt_size e
 |frz ob u=>obtain⟨e,q⟩:=x;cases u with
  |tbl ps=>obtain⟨_,e,_⟩:=q;exact Heap.lt_size e
  |_=>exact Heap.lt_size (show h.get? a=some ob from e)
 |tbl ps=>obtain⟨_,e,_⟩:=x;exact Heap.lt_size e
 |met f y=>exact Heap.lt_size (show h.get? a=some _ from x)
 |ext φ=>obtain⟨_,⟨_,e⟩,_⟩:=x;exact Heap.lt_size e
theorem Paired.mapP {α β:Type}{F G:α->β->Prop}:∀{l₁:List α}{l₂:List β},Paired F l₁ l₂->(∀ a b,F a b->G a b)->Paired G l₁ l₂
 |_,_,.nil,_=>.nil
 |_,_,.cons r t,f=>.cons (f _ _ r) (Paired.mapP t f)
theorem bU.stay (x:bU P w H h a o)(k:∀ b u,(b=a\/H b=some (.own a))->h.get? b=some u->h'.get? b=some u)
  (ho:∀ b,H b=some (.own a)->H' b=some (.own a)) (ht:∀ b xs,H b=some (.tup xs)->H' b=some (.tup xs)):bU P w H' h' a o:=by
 induction o with
 |lst xs=>obtain⟨z,its,n,r,e⟩:=x;exact⟨z,its,n,r,k _ _ (.inl rfl) e⟩
 |tup xs=>obtain⟨z,its,r,ob,e,c⟩:=x;exact⟨z,its,r,ob,k _ _ (.inl rfl) e,c⟩
 |dK kvs=>obtain⟨z,y,vs,r,ob,es,ep,e,c⟩:=x;exact⟨z,y,vs,r,ob,es,ep,k _ _ (.inl rfl) e,c⟩
 |dT kvs =>
  obtain⟨z,y,xs,r,ob,es,ep,e,c⟩:=x;exact⟨z,y,xs,Paired.mapP r fun p q z=>⟨z.1,ht _ _ z.2.1,z.2.2⟩,ob,es,ep,k _ _ (.inl rfl) e,c⟩
 |set S n=>obtain⟨ob,es,ep,t,e,c⟩:=x;exact⟨ob,es,ep,t,k _ _ (.inl rfl) e,c⟩
 |ins C dx fs =>
  obtain⟨d,z,ne,e,mA,⟨od,es,ep,e2,c⟩,r⟩:=x;exact⟨ho _ d,z,ne,k _ _ (.inl rfl) e,mA,⟨od,es,ep,k _ _ (.inr d) e2,c⟩,r⟩
 |own y=>obtain⟨ob,e⟩:=x;exact⟨ob,k _ _ (.inl rfl) e⟩
 |xd fs=>obtain⟨mA,⟨od,es,ep,e,c⟩,r⟩:=x;exact⟨mA,⟨od,es,ep,k _ _ (.inl rfl) e,c⟩,r⟩
 |rng lo hi=>obtain⟨t,u,v,e⟩:=x;exact⟨t,u,v,k _ _ (.inl rfl) e⟩
 |frz ob u ih =>
  obtain⟨e,q⟩:=x;refine⟨?_,ih q⟩;cases u with
  |tbl ps=>trivial
  |_=>exact k a ob (.inl rfl) e
 |tbl ps =>
  obtain⟨ps,e,z,f⟩:=x;refine⟨ps,k _ _ (.inl rfl) e,z,fun p cv q=>?_⟩;obtain⟨c,e1,e2,c',oc,vs,t,e3,e4,e5⟩:=f p cv q;cases e3;exact⟨c,e1,ho _ e2,c,oc,vs,t,rfl,k _ _ (.inr e2) e4,e5⟩
 |met f y =>
  have e:h.get? a=some (PySem.W.methodObj (.ref f) (.ref y)):=x;show h'.get? a=some (PySem.W.methodObj (.ref f) (.ref y));exact k a _ (.inl rfl) e
 |ext φ=>obtain⟨p,⟨o,e⟩,st⟩:=x;exact⟨st _ _ p fun o q=>k _ _ (.inl rfl) q,⟨o,k _ _ (.inl rfl) e⟩,st⟩
theorem hV.lt (x:hV P w H h)(e:H a=some o):a<h.objs.size:=(x a o e).lt
theorem hV.fresh (x:hV P w H h)(e:h.objs.size<=a):H a=none:=by
 cases q:H a with
 |none=>rfl
 |some u=>exact absurd (av (x.lt q) e) (dz _)
theorem hV.kept (x:hV P w H h)(k:∀ b u,h.get? b=some u->h'.get? b=some u):hV P w H h':=fun a o e =>
 (x a o e).stay (fun b u _ q=>k b u q) (fun _ q=>q) fun _ _ q=>q
theorem hV.laid (x:hV P w H h)(k:∀ b u,h.get? b=some u->h'.get? b=some u)(hp:h.objs.size<=a)(new:bU P w (upd H a o) h' a o):hV P w (upd H a o) h':=fun b u e=>by
 have hn:=x.fresh hp;by_cases hb:b=a
 ·subst hb;rw[aK] at e;cases e;exact new
 ·rw[aF hb] at e;exact (x b u e).stay (fun c v _ q=>k c v q) (fun c q=>by rw[aF (aS q hn)];exact q) fun c xs q=>by rw[aF (aS q hn)];exact q
end
def Rd (H:Hp)(a:Addr)(u:HO):Prop:=H a=some u\/∃ o,H a=some (.frz o u)
theorem Rd.ok {P:Program}{w:World}{H:Hp}{h:Heap}{a:Addr}{u:HO}(r:Rd H a u)(x:hV P w H h):bU P w H h a u:=by
 rcases r with r | ⟨o,r⟩
 ·exact x a u r
 ·obtain⟨_,q⟩:=x a _ r;exact q
noncomputable def nk:Option HO->Prop
 | some (.lst _)=>True
 | some (.dK _)=>True
 | some (.dT _)=>True
 | some (.set _ _)=>True
 | some (.ins _ _ _)=>True
 | some (.ext _)=>True
 |_=>False
section
variable {P:Program}{w:World}{H:Hp}{h h':Heap}{x e:Addr}{o':HO}
theorem hV.write (ok:hV P w H h)(mu:nk (H x))(he:e=x\/H e=some (.own x))(k:∀ b u,b≠e->h.get? b=some u->h'.get? b=some u)(heo:∃ u,h'.get? e=some u)
  (new:bU P w (upd H x o') h' x o'):hV P w (upd H x o') h':=fun b u q=>by
 have nown:∀ c y,H c=some (.own y)->c≠x:=fun c y r z=>by subst z;rw[r] at mu;exact mu
 have ntup:∀ c xs,H c=some (.tup xs)->c≠x:=fun c xs r z=>by subst z;rw[r] at mu;exact mu
 by_cases hb:b=x
 ·subst hb;rw[aK] at q;cases q;exact new
 ·rw[aF hb] at q;by_cases hbe:b=e
  ·have q':H b=some (.own x):=by
    rcases he with z | z
    ·exact absurd (hbe.trans z) hb
    ·rw[hbe];exact z
   rw[q] at q';cases q';obtain⟨v,hv⟩:=heo;exact⟨v,by rw[hbe];exact hv⟩
  ·refine (ok b u q).stay (fun c v hc r=>k c v ?_ r) (fun c r=>by rw[aF (nown c b r)];exact r) fun c xs r=>by rw[aF (ntup c xs r)];exact r
   rcases hc with rfl | hc
   ·exact hbe
   ·rintro rfl;rcases he with z | z
    ·exact nown c b hc z
    ·rw[hc] at z;cases z;exact hb rfl
end
structure Un (fs ex:List Addr)(H H':Hp)(h h':Heap):Prop where
 keep:∀ b o,h.get? b=some o->H b=none->b∉fs->b∉ex->h'.get? b=some o
 slot:∀ b o,h.get? b=some o->H b=none->b∈fs->b∉ex->∃ sl,h'.get? b=some { o with slots:=sl }
 free:∀ b o,h.get? b=some o->H b=none->b∉ex->H' b=none
 there:∀ b o,h.get? b=some o->b∉ex->∃ o',h'.get? b=some o'
 tups:∀ b xs,H b=some (.tup xs)->H' b=some (.tup xs)
 frzs:∀ b o u,H b=some (.frz o u)->H' b=some (.frz o u)
 tbls:∀ b ps,H b=some (.tbl ps)->∃ more,H' b=some (.tbl (ps++more))
section
variable {fs fs' ex ex':List Addr}{H H1 H2:Hp}{h h1 h2 h':Heap}{a x e:Addr}{o:HO}
theorem Un.any (u:Un fs ex H H1 h h1){b:Addr}{ob:Obj}(q:h.get? b=some ob)(n:H b=none)(hx:b∉ex):∃ sl,h1.get? b=some { ob with slots:=sl }:=by
 by_cases hb:b∈fs
 ·exact u.slot b ob q n hb hx
 ·exact⟨ob.slots,u.keep b ob q n hb hx⟩
theorem Un.kept (k:∀ b u,h.get? b=some u->h'.get? b=some u):Un fs ex H H h h' :=
 ⟨fun b ob q _ _ _=>k b ob q,fun b ob q _ _ _=>⟨ob.slots,k b ob q⟩,fun _ _ _ n _=>n,fun b ob q _=>⟨ob,k b ob q⟩,fun _ _ q=>q,fun _ _ _ q=>q,fun _ ps q=>⟨#[],by rw[q];simp⟩⟩
theorem Un.refl:Un fs ex H H h h:=Un.kept fun _ _ q=>q
theorem Un.laid (k:∀ b u,h.get? b=some u->h'.get? b=some u)(hp:h.objs.size<=a)(hn:H a=none):Un fs ex H (upd H a o) h h' where
 keep:=fun b u q _ _ _=>k b u q
 slot:=fun b u q _ _ _=>⟨u.slots,k b u q⟩
 free:=fun b u q n _=>by rw[aF (bh (av (Heap.lt_size q) hp))];exact n
 there:=fun b u q _=>⟨u,k b u q⟩
 tups:=fun b xs q=>by rw[aF (aS q hn)];exact q
 frzs:=fun b u xs q=>by rw[aF (aS q hn)];exact q
 tbls:=fun b ps q=>⟨#[],by rw[aF (aS q hn),q];simp⟩
theorem Un.write (mu:nk (H x))(he:e=x\/H e=some (.own x))(k:∀ b u,b≠e->h.get? b=some u->h'.get? b=some u)(heo:∃ u,h'.get? e=some u):Un fs ex H (upd H x o) h h':=by
 have hx:∀ b,H b=none->b≠x:=fun b n z=>by subst z;rw[n] at mu;exact mu
 have hb:∀ b,H b=none->b≠e:=fun b n z=>by
  subst z;rcases he with r | r
  ·exact hx b n r
  ·rw[n] at r;cases r
 have hm:∀ b u,H b=some u->¬ nk (some u)->b≠x:=fun b u q nm z=>by subst z;rw[q] at mu;exact nm mu
 refine⟨fun b u q n _ _=>k b u (hb b n) q,fun b u q n _ _=>⟨u.slots,k b u (hb b n) q⟩,fun b u q n _=>by rw[aF (hx b n)];exact n,fun b u q _=>?_,
  fun b xs q=>by rw[aF (hm b _ q fun z=>z)];exact q,fun b u xs q=>by rw[aF (hm b _ q fun z=>z)];exact q,fun b ps q=>⟨#[],by rw[aF (hm b _ q fun z=>z),q];simp⟩⟩
 by_cases hbe:b=e
 ·subst hbe;exact heo
 ·exact⟨u,k b u hbe q⟩
end
noncomputable def trk (h:Heap)(H:Hp):List Addr:=(List.range h.objs.size).filter fun a=>(H a).isSome
noncomputable def nH (h:Heap)(H:Hp):Heap:=PySem.W.hideAll h (trk h H)
theorem tG (h:Heap)(H:Hp):(nH h H).objs.size=h.objs.size:=PySem.W.hideAll_size _ _
theorem vR {h:Heap}{H:Hp}{b:Addr}{o:Obj}(e:h.get? b=some o)(n:H b=none):(nH h H).get? b=some o :=
 PySem.W.hideAll_get _ e fun hm=>by
  have q:(H b).isSome=true:=(List.mem_filter.mp hm).2;rw[n] at q;simp at q
theorem zK {h:Heap}{H:Hp}{b:Addr}{o:Obj}(e:(nH h H).get? b=some o):h.get? b=some o/\H b=none:=by
 have e':h.get? b=some o:=PySem.W.of_hideAll (trk h H) e;refine⟨e',?_⟩;cases q:H b with
 |none=>rfl
 |some x =>
  have hm:b∈trk h H:=List.mem_filter.mpr ⟨List.mem_range.mpr (Heap.lt_size e'),by simp[q]⟩;have z:(nH h H).get? b=none:=PySem.W.hideAll_none (trk h H) hm;rw[z] at e;cases e
noncomputable def y3 (g h:Heap)(L:Addr):List (Addr×Obj):=(List.range h.objs.size).filterMap fun a=>if a=L\/(g.get? a).isSome=true then none else (h.get? a).map fun o=>(a,o)
noncomputable def rest (g h:Heap)(L d:Addr):List (Addr×Obj):=(y3 g h L).filter fun p=>decide (p.1≠d)
end L2
namespace L2
open PySem PySem.Spec PyProof.Rows
structure Mod (K:PySem.W.Frag)(mg:Str->Option Value)(base:Heap):Prop where
 kin:K.In base
 glob:base.Ns mainGlobals mg
 blt:∃ mb,base.Ns builtinsNs mb/\∀ x:Str,x≠"__name__"->mb x=bootBuiltins x
 nolimit:base.NoLimit
structure Cx where
 prog:Program
 w:World
 K:PySem.W.Frag
 mg:Str->Option Value
 base:Heap
 A:Around
 N:List Str
 s₀:Shared
 H₀:Hp
 env:Env
 outer:List Env
 stack:List Env
 ex:List Addr
 fn:Str->Bool
 calm:Bool
 pn:List (Addr×Obj)
 xe:Value->Shared->Prop
noncomputable def gI (l:List Env):List Addr:=l.filterMap (·.frame)
noncomputable abbrev Cx.fs (X:Cx):List Addr:=gI X.outer
def xJ (sc:Scope)(x:Str):Prop:=sc.names.lookup x=some .local\/sc.names.lookup x=some .cell\/sc.names.lookup x=some .free
def Loc (sc:Scope)(x:Str):Prop:=sc.names.lookup x=some .local\/sc.names.lookup x=some .cell
noncomputable def Look (env:Env)(h:Heap)(m:Str->Option Value)(x:Str)(u:Value):Prop :=
 (env.kindOf x=some .local/\m x=some u)\/((env.kindOf x=some .cell\/env.kindOf x=some .free)/\∃ c,env.cells.lookup x=some c/\h.IsCell c (some u))
structure Cx.Ok (X:Cx):Prop where
 mod:Mod X.K X.mg X.base
 kind:X.env.scope.kind = .function
 glob:X.env.globals=mainGlobals
 blt:X.env.builtins=builtinsNs
 above:X.s₀.heap.objs.size<=X.env.locals
 inj:∀ x y c,X.env.cells.lookup x=some c->X.env.cells.lookup y=some c->x=y
 has:∀ x,(X.env.kindOf x=some .cell\/X.env.kindOf x=some .free)->∃ c,X.env.cells.lookup x=some c
 cab:∀ x c,X.fn x=true->X.env.cells.lookup x=some c->X.s₀.heap.objs.size<=c
 hd:X.calm=true->X.A.handled=none
 frames:X.A.frames=some X.stack
 stk:X.stack=X.outer\/(X.stack=X.env::X.outer/\X.env.frame=some X.env.locals)
 exf:∀ b∈X.ex,b≠X.env.locals/\∀ x c,X.env.cells.lookup x=some c->c≠b
 bs:∀ b o,X.base.get? b=some o->X.s₀.heap.get? b=some o/\X.H₀ b=none
 bsz:X.base.objs.size<=X.s₀.heap.objs.size
 noex:∀ b o,X.base.get? b=some o->b∉X.ex
 exfs:∀ b∈X.ex,b∉X.fs
 funs:X.s₀.heap.FunFrames X.base X.outer
 frf:∀ b∈X.fs,X.H₀ b=none
 jt:JT X.H₀
structure Inv (X:Cx)(pins:List (Addr×Obj))(σ:List (Option V))(H:Hp)(s:Shared):Prop where
 ok:X.Ok
 os:s.os=X.s₀.os
 bare:AllBare s.gens
 base:Un X.fs X.ex X.H₀ H X.s₀.heap s.heap
 loc:∃ m,s.heap.Ns X.env.locals m/\∀(i:Nat) (x:Str) (v:V),X.N[i]? = some x->σ[i]? = some (some v)->xJ X.env.scope x->∃ u,RelV v u/\Look X.env s.heap m x u
 cell:∀ x c,X.env.cells.lookup x=some c->∃ v,s.heap.IsCell c v
 free:H X.env.locals=none
 freeC:∀ x c,X.env.cells.lookup x=some c->H c=none
 pin:∀ p∈X.pn++pins,s.heap.get? p.1=some p.2/\H p.1=none/\p.1≠X.env.locals/\p.1∉X.fs/\∀ v,p.2.data≠.cell v
 hok:hV X.prog X.w H s.heap
 len:σ.length=X.N.length
section
variable {X:Cx}{pins:List (Addr×Obj)}{σ:List (Option V)}{H H':Hp}{s:Shared}{h':Heap}
theorem Cx.Ok.nofr (ok:X.Ok){b:Addr}{o:Obj}(e:X.base.get? b=some o):b∉X.fs:=fun hb=>by
 have:=(ok.funs.mem hb).1;rw[e] at this;cases this
theorem Inv.bs (I:Inv X pins σ H s):∀ b o,X.base.get? b=some o->s.heap.get? b=some o/\H b=none:=fun b o e =>
 ⟨I.base.keep b o (I.ok.bs b o e).1 (I.ok.bs b o e).2 (I.ok.nofr e) (I.ok.noex b o e),I.base.free b o (I.ok.bs b o e).1 (I.ok.bs b o e).2 (I.ok.noex b o e)⟩
theorem Inv.bk (I:Inv X pins σ H s):∀ b o,X.base.get? b=some o->s.heap.get? b=some o:=fun b o e=>(I.bs b o e).1
theorem Inv.mod (I:Inv X pins σ H s):Mod X.K X.mg X.base:=I.ok.mod
theorem Inv.kIn (I:Inv X pins σ H s):X.K.In s.heap:=I.ok.mod.kin.keeps I.bk
theorem Inv.nolimit (I:Inv X pins σ H s):s.heap.NoLimit:=I.ok.mod.nolimit.keeps I.bk
theorem Inv.lt (I:Inv X pins σ H s):X.env.locals<s.heap.objs.size:=let ⟨_,hn,_⟩:=I.loc;hn.lt
theorem Inv.sz (I:Inv X pins σ H s):X.s₀.heap.objs.size<=s.heap.objs.size:=dg I.ok.above (gp I.lt)
theorem Inv.nofs (I:Inv X pins σ H s){a:Addr}(h:s.heap.objs.size<=a):a∉X.fs:=fun hb=>by
 obtain⟨_,o,ho,_⟩:=I.ok.funs.mem hb;exact absurd (av (Heap.lt_size ho) (dg I.sz h)) (dz _)
theorem Inv.cne (I:Inv X pins σ H s):∀ x c,X.env.cells.lookup x=some c->c≠X.env.locals:=fun x c e z=>by
 obtain⟨v,o,ho,hd⟩:=I.cell x c e;obtain⟨m,⟨o',es,ep,ho',hd',_⟩,_⟩:=I.loc;rw[z,ho'] at ho;cases ho;rw[hd'] at hd;cases hd
theorem Inv.funs (I:Inv X pins σ H s):s.heap.FunFrames X.base X.outer:=by
 have all:∀(l:List Env),(∀ b∈gI l,b∈X.fs)->X.s₀.heap.FunFrames X.base l->s.heap.FunFrames X.base l:=by
  intro l
  induction l with
  |nil=>intro _ _;trivial
  |cons env r ih =>
   intro hs hl;obtain⟨hk,⟨L,o,hf,hn,ho,hd⟩,hr⟩:=hl;have hL:L∈X.fs:=hs L (by unfold gI;rw[ig,hf];exact aq);obtain⟨sl,e⟩:=I.base.slot L o ho (I.ok.frf L hL) hL fun z=>I.ok.exfs L z hL
   exact⟨hk,⟨L,_,hf,hn,e,hd⟩,ih (fun b hb=>hs b (by unfold gI;rw[ig,hf];exact ag _ hb)) hr⟩
 exact all X.outer (fun _ hb=>hb) I.ok.funs
theorem Inv.stack (I:Inv X pins σ H s):s.heap.FunFrames X.base X.stack:=by
 rcases I.ok.stk with e | ⟨e,hf⟩
 ·rw[e];exact I.funs
 ·rw[e];obtain⟨m,hn,_⟩:=I.loc;refine .cons (by rw[I.ok.kind];decide) hf hn ?_ I.funs;exact Heap.get?_none_of_le (dg I.ok.bsz I.ok.above)
theorem Inv.stkSub (I:Inv X pins σ H s):∀ b∈gI X.stack,b∈X.env.locals::X.fs:=fun b hb=>by
 rcases I.ok.stk with e | ⟨e,hf⟩
 ·rw[e] at hb;exact ag _ hb
 ·rw[e] at hb;unfold gI at hb;rw[ig,hf] at hb;exact hb
theorem Inv.stkFree (I:Inv X pins σ H s):∀ b∈gI X.stack,H b=none:=fun b hb=>by
 rcases gc.mp (I.stkSub b hb) with e | hb
 ·rw[e];exact I.free
 ·obtain⟨_,o,ho,_⟩:=I.ok.funs.mem hb;exact I.base.free b o ho (I.ok.frf b hb) fun z=>I.ok.exfs b z hb
theorem Inv.step {g':Array GenState}{t':Nat}{d':Drawn}{ch:List Addr}(I:Inv X pins σ H s)
  (hch:∀ b∈ch,(b∈X.ex\/X.s₀.heap.objs.size<=b)/\b≠X.env.locals/\(∀ x c,X.env.cells.lookup x=some c->c≠b)/\∀ p∈X.pn++pins,p.1≠b)
  (keep:∀ b o,b≠X.env.locals->b∉X.fs->b∉ch->s.heap.get? b=some o->H b=none->h'.get? b=some o)
  (slot:∀ b o,b≠X.env.locals->b∈X.fs->b∉ch->s.heap.get? b=some o->H b=none->∃ sl,h'.get? b=some { o with slots:=sl }) (free:∀ b o,b∉ch->s.heap.get? b=some o->H b=none->H' b=none)
  (there:∀ b o,b∉ch->s.heap.get? b=some o->∃ o',h'.get? b=some o')
  (tups:∀ b xs,H b=some (.tup xs)->H' b=some (.tup xs)) (frzs:∀ b o u,H b=some (.frz o u)->H' b=some (.frz o u)) (tbls:∀ b ps,H b=some (.tbl ps)->∃ more,H' b=some (.tbl (ps++more)))
  (ns:∀ m,s.heap.Ns X.env.locals m->h'.Ns X.env.locals m) (hok:hV X.prog X.w H' h') (hg:AllBare g') :
  Inv X pins σ H' { s with heap:=h',gens:=g',drawn:=d',toks:=t' }:=by
 have neL:∀ b o,X.s₀.heap.get? b=some o->b≠X.env.locals:=fun b o e=>bh (av (Heap.lt_size e) I.ok.above)
 have neC:∀ b o,X.s₀.heap.get? b=some o->b∉X.ex->b∉ch:=fun b o e hx hb=>by
  rcases (hch b hb).1 with z | z
  ·exact hx z
  ·exact absurd (av (Heap.lt_size e) z) (dz _)
 have cellK:∀ x c,X.env.cells.lookup x=some c->∀ v,s.heap.IsCell c v->h'.IsCell c v:=fun x c e v ⟨o,ho,hd⟩=>by
  have nch:c∉ch:=fun z=>(hch c z).2.2.1 x c e rfl
  by_cases hc:c∈X.fs
  ·obtain⟨sl,q⟩:=slot c o (I.cne x c e) hc nch ho (I.freeC x c e);exact⟨_,q,hd⟩
  ·exact⟨o,keep c o (I.cne x c e) hc nch ho (I.freeC x c e),hd⟩
 refine⟨I.ok,I.os,hg,⟨fun b o e n hb hx=>?_,fun b o e n hb hx=>?_,fun b o e n hx=>?_,fun b o e hx=>?_,fun b xs e=>tups b xs (I.base.tups b xs e),fun b o xs e=>frzs b o xs (I.base.frzs b o xs e),fun b ps e=>?_⟩,?_,fun x c e=>?_,?_,fun x c e=>?_,fun p hp=>?_,hok,I.len⟩
 ·exact keep b o (neL b o e) hb (neC b o e hx) (I.base.keep b o e n hb hx) (I.base.free b o e n hx)
 ·obtain⟨sl,e1⟩:=I.base.slot b o e n hb hx;obtain⟨sl',e2⟩:=slot b _ (neL b o e) hb (neC b o e hx) e1 (I.base.free b o e n hx);exact⟨sl',e2⟩
 ·obtain⟨o',e1⟩:=I.base.there b o e hx;exact free b o' (neC b o e hx) e1 (I.base.free b o e n hx)
 ·obtain⟨o',e1⟩:=I.base.there b o e hx;exact there b o' (neC b o e hx) e1
 ·obtain⟨m1,e1⟩:=I.base.tbls b ps e;obtain⟨m2,e2⟩:=tbls b _ e1;exact⟨m1++m2,by rw[e2,Array.append_assoc]⟩
 ·obtain⟨m,hn,hl⟩:=I.loc;refine⟨m,ns m hn,fun i x v e1 e2 e3=>?_⟩;obtain⟨u,r,l⟩:=hl i x v e1 e2 e3;refine⟨u,r,?_⟩;rcases l with l | ⟨k,c,e,z⟩
  ·exact .inl l
  ·exact .inr ⟨k,c,e,cellK x c e _ z⟩
 ·obtain⟨v,z⟩:=I.cell x c e;exact⟨v,cellK x c e v z⟩
 ·obtain⟨m,⟨o,_,_,ho,_⟩,_⟩:=I.loc;exact free _ o (fun z=>(hch _ z).2.1 rfl) ho I.free
 ·obtain⟨v,o,ho,hd⟩:=I.cell x c e;exact free c o (fun z=>(hch c z).2.2.1 x c e rfl) ho (I.freeC x c e)
 ·obtain⟨e,n,ne,nf,d⟩:=I.pin p hp;have nch:p.1∉ch:=fun z=>(hch p.1 z).2.2.2 p hp rfl
  exact⟨keep p.1 p.2 ne nf nch e n,free p.1 p.2 nch e n,ne,nf,d⟩
theorem Inv.un {t':Nat}(I:Inv X pins σ H s)(u:Un X.fs [] H H' s.heap h')(hok:hV X.prog X.w H' h'):Inv X pins σ H' { s with heap:=h',toks:=t' }:=by
 obtain⟨m,⟨o,es,ep,ho,r⟩,_⟩:=id I.loc;obtain⟨sl,hL⟩:=u.any ho I.free (by simp);exact I.step (g':=s.gens) (d':=s.drawn) (ch:=[]) (fun _ z=>nomatch z) (fun b o _ hb _ e n=>u.keep b o e n hb (by simp)) (fun b o _ hb _ e n=>u.slot b o e n hb (by simp)) (fun b o _ e n=>u.free b o e n (by simp)) (fun b o _ e=>u.there b o e (by simp)) u.tups u.frzs u.tbls (fun m' hm=>by
  obtain⟨o',es',ep',ho',r'⟩:=hm;rw[ho] at ho';cases ho';exact⟨_,es',ep',hL,r'⟩) hok I.bare
theorem Inv.call {g':Array GenState}{t':Nat}{d':Drawn}{ch:List Addr}(I:Inv X pins σ H s)(u:Un (gI X.stack) ch H H' s.heap h')(hok:hV X.prog X.w H' h')(hg:AllBare g')
  (hch:∀ b∈ch,(b∈X.ex\/X.s₀.heap.objs.size<=b)/\b≠X.env.locals/\(∀ x c,X.env.cells.lookup x=some c->c≠b)/\∀ p∈X.pn++pins,p.1≠b) :
  Inv X pins σ H' { s with heap:=h',gens:=g',drawn:=d',toks:=t' }:=by
 obtain⟨m,⟨o,es,ep,ho,r⟩,_⟩:=id I.loc;obtain⟨sl,hL⟩:=u.any ho I.free fun z=>(hch _ z).2.1 rfl
 exact I.step (ch:=ch) hch (fun b o hL hb hc e n=>u.keep b o e n (fun z=>(gc.mp (I.stkSub b z)).elim hL hb) hc) (fun b o _ _ hc e n=>u.any e n hc) (fun b o hc e n=>u.free b o e n hc) (fun b o hc e=>u.there b o e hc) u.tups u.frzs u.tbls (fun m' hm=>by
  obtain⟨o',es',ep',ho',r'⟩:=hm;rw[ho] at ho';cases ho';exact⟨_,es',ep',hL,r'⟩) hok hg
theorem Inv.turned {t':Nat}{it:Addr}(I:Inv X pins σ H s)(k:∀ b o,b≠it->s.heap.get? b=some o->h'.get? b=some o)(hn:H it=none)(hL:it≠X.env.locals)
  (h1:it∈X.ex\/X.s₀.heap.objs.size<=it) (h2:∀ x c,X.env.cells.lookup x=some c->c≠it) (h3:∀ p∈X.pn++pins,p.1≠it):Inv X pins σ H { s with heap:=h',toks:=t' }:=by
 have nit:∀ b u,H b=some u->b≠it:=fun b u e z=>by rw[z,hn] at e;cases e
 refine I.step (g':=s.gens) (d':=s.drawn) (ch:=[it]) (fun b hb=>?_) (fun b o _ _ hc e _=>k b o (fun z=>hc (by simp[z])) e) (fun b o _ _ hc e _=>⟨o.slots,k b o (fun z=>hc (by simp[z])) e⟩) (fun _ _ _ _ n=>n)
  (fun b o hc e=>⟨o,k b o (fun z=>hc (by simp[z])) e⟩) (fun _ _ e=>e) (fun _ _ _ e=>e) (fun b ps e=>⟨#[],by rw[e];simp⟩) (fun m hm=>?_) (fun b u e=>?_) I.bare
 ·have e:b=it:=by simpa using hb
  subst e;exact⟨h1,hL,h2,h3⟩
 ·obtain⟨o,es,ep,ho,r⟩:=hm;exact⟨o,es,ep,k _ o (eg hL) ho,r⟩
 ·refine (I.hok b u e).stay (fun c v hc q=>k c v ?_ q) (fun _ q=>q) fun _ _ q=>q
  rcases hc with z | z
  ·rw[z];exact nit b u e
  ·exact nit c _ z
theorem Inv.tok (I:Inv X pins σ H s)(t:Nat):Inv X pins σ H { s with toks:=t }:=I.un (h':=s.heap) (t':=t) Un.refl I.hok
theorem Inv.kept {t':Nat}(I:Inv X pins σ H s)(k:∀ b u,s.heap.get? b=some u->h'.get? b=some u):Inv X pins σ H { s with heap:=h',toks:=t' }:=I.un (Un.kept k) (I.hok.kept k)
theorem Inv.laid {a:Addr}{o:HO}{t':Nat}(I:Inv X pins σ H s)(k:∀ b u,s.heap.get? b=some u->h'.get? b=some u)(hp:s.heap.objs.size<=a)(new:bU X.prog X.w (upd H a o) h' a o) :
  Inv X pins σ (upd H a o) { s with heap:=h',toks:=t' }:=I.un (Un.laid k hp (I.hok.fresh hp)) (I.hok.laid k hp new)
theorem Inv.write {x e:Addr}{o:HO}{t':Nat}(I:Inv X pins σ H s)(mu:nk (H x))(he:e=x\/H e=some (.own x))(k:∀ b u,b≠e->s.heap.get? b=some u->h'.get? b=some u)(heo:∃ u,h'.get? e=some u)
  (new:bU X.prog X.w (upd H x o) h' x o):Inv X pins σ (upd H x o) { s with heap:=h',toks:=t' }:=I.un (Un.write mu he k heo) (I.hok.write mu he k heo new)
theorem Inv.weak {σ':List (Option V)}(I:Inv X pins σ H s)(hl:σ'.length=σ.length)(w:∀(i:Nat) v,σ'[i]? = some (some v)->σ[i]? = some (some v)):Inv X pins σ' H s :=
 ⟨I.ok,I.os,I.bare,I.base,let ⟨m,hn,hl'⟩:=I.loc;⟨m,hn,fun i x v e1 e2 e3=>hl' i x v e1 (w i v e2) e3⟩,I.cell,I.free,I.freeC,I.pin,I.hok,hl.trans I.len⟩
theorem Inv.pins_of {pins':List (Addr×Obj)}(I:Inv X pins σ H s)(h:∀ p∈pins',s.heap.get? p.1=some p.2/\H p.1=none/\p.1≠X.env.locals/\p.1∉X.fs/\∀ v,p.2.data≠.cell v):Inv X pins' σ H s :=
 ⟨I.ok,I.os,I.bare,I.base,I.loc,I.cell,I.free,I.freeC,fun p hp=>(List.mem_append.mp hp).elim (fun z=>I.pin p (ay _ z)) (h p),I.hok,I.len⟩
theorem kP {N:List Str}(hN:N.Nodup){i j:Nat}{x:Str}(a:N[i]? = some x)(b:N[j]? = some x):i=j:=by
 obtain⟨h1,e1⟩:=List.getElem?_eq_some_iff.mp a;obtain⟨h2,e2⟩:=List.getElem?_eq_some_iff.mp b;exact (List.getElem_inj hN).mp (e1.trans e2.symm)
theorem tM {M:Model}{A:Around}{E:Value->Shared->Prop}{i:Nat}{x:Str}{v:V}{u:Value}{Q:Unit->Shared->Prop}(I:Inv X pins σ H s)(hN:X.N.Nodup)(hi:X.N[i]? = some x)(hx:Loc X.env.scope x)(r:RelV v u)
  (h:∀ s',Inv X pins (σ.set i (some v)) H s'->(∃ a,Heap.SameBut a s.heap s'.heap/\(a=X.env.locals\/X.env.cells.lookup x=some a))->Q () s') (hf:X.fn x=true\/X.env.scope.names.lookup x=some .local:=by first | exact .inl rfl | exact .inr rfl | assumption):wpAny M A (storeName X.env x u) Q E s:=by
 obtain⟨m,hn,hl⟩:=id I.loc;have hcls:(X.env.scope.kind == .class || (X.env.scope.kind == .module&&X.env.locals != X.env.globals))=false:=by rw[I.ok.kind];rfl
 have hiσ:i<σ.length:=by rw[I.len];exact (List.getElem?_eq_some_iff.mp hi).1
 have cne:=I.cne;have tracked:∀{a:Addr}{h':Heap},(∃ o,s.heap.get? a=some o/\H a=none)->Heap.SameBut a s.heap h'->hV X.prog X.w H h':=fun {a h'} ha hs b ob e=>by
  obtain⟨_,_,hfree⟩:=ha;refine (I.hok b ob e).stay (fun c w' hc q=>(hs.2 c ?_).trans q) (fun _ q=>q) fun _ _ q=>q
  rintro rfl;rcases hc with rfl | hc
  ·rw[hfree] at e;cases e
  ·rw[hfree] at hc;cases hc
 rcases hx with hk | hk
 ·refine wpAny_storeName_local hk hn (fun h' hn' hs=>?_) hcls;obtain⟨oL,_,_,hoL,_⟩:=id hn;refine h _ ⟨I.ok,I.os,I.bare,⟨fun b o e n hb hx=>?_,fun b o e n hb hx=>?_,I.base.free,fun b o e hx=>?_,I.base.tups,I.base.frzs,I.base.tbls⟩,⟨_,hn',fun j y v' e1 e2 e3=>?_⟩,fun y c e=>?_,I.free,I.freeC,fun p hp=>?_,tracked ⟨oL,hoL,I.free⟩ hs,by simpa using I.len⟩ ⟨_,hs,.inl rfl⟩
  ·exact (hs.2 b (bh (av (Heap.lt_size e) I.ok.above))).trans (I.base.keep b o e n hb hx)
  ·obtain⟨sl,e1⟩:=I.base.slot b o e n hb hx;exact⟨sl,(hs.2 b (bh (av (Heap.lt_size e) I.ok.above))).trans e1⟩
  ·obtain⟨o',e1⟩:=I.base.there b o e hx;exact⟨o',(hs.2 b (bh (av (Heap.lt_size e) I.ok.above))).trans e1⟩
  ·by_cases hj:j=i
   ·subst hj;rw[hi] at e1;cases e1;rw[List.getElem?_set_self hiσ] at e2;cases e2;exact⟨u,r,.inl ⟨hk,by simp⟩⟩
   ·rw[List.getElem?_set_ne (eg hj)] at e2;obtain⟨u',r',q⟩:=hl j y v' e1 e2 e3;refine⟨u',r',?_⟩;rcases q with ⟨k,e⟩ | ⟨k,c,e,z⟩
    ·refine .inl ⟨k,?_⟩;have:y≠x:=fun e=>hj (kP hN e1 (e ▸ hi))
     simp[this,e]
    ·exact .inr ⟨k,c,e,z.sameBut hs (cne y c e)⟩
  ·obtain⟨w',z⟩:=I.cell y c e;exact⟨w',z.sameBut hs (cne y c e)⟩
  ·obtain⟨e,n,ne,nf,d⟩:=I.pin p hp;exact⟨(hs.2 p.1 ne).trans e,n,ne,nf,d⟩
 ·have hfn:X.fn x=true:=by
   rcases hf with z | z
   ·exact z
   ·rw[z] at hk;cases hk
  obtain⟨c,hc⟩:=I.ok.has x (.inl hk);obtain⟨w',z⟩:=I.cell x c hc;refine wpAny_storeName_cell I.ok.kind hk hc z (fun h' hc' hs=>?_);obtain⟨oc,hoc,hocd⟩:=id z;refine h { s with heap:=h' } ⟨I.ok,I.os,I.bare,⟨fun b o e n hb hx=>?_,fun b o e n hb hx=>?_,I.base.free,fun b o e hx=>?_,I.base.tups,I.base.frzs,I.base.tbls⟩,⟨m,hn.sameBut hs (Ne.symm (cne x c hc)),fun j y v' e1 e2 e3=>?_⟩,fun y c' e=>?_,I.free,I.freeC,fun p hp=>?_,tracked ⟨oc,hoc,I.freeC x c hc⟩ hs,by simpa using I.len⟩ ⟨c,hs,.inr hc⟩
  ·exact (hs.2 b (bh (av (Heap.lt_size e) (I.ok.cab x c hfn hc)))).trans (I.base.keep b o e n hb hx)
  ·obtain⟨sl,e1⟩:=I.base.slot b o e n hb hx;exact⟨sl,(hs.2 b (bh (av (Heap.lt_size e) (I.ok.cab x c hfn hc)))).trans e1⟩
  ·obtain⟨o',e1⟩:=I.base.there b o e hx;exact⟨o',(hs.2 b (bh (av (Heap.lt_size e) (I.ok.cab x c hfn hc)))).trans e1⟩
  ·by_cases hj:j=i
   ·subst hj;rw[hi] at e1;cases e1;rw[List.getElem?_set_self hiσ] at e2;cases e2;exact⟨u,r,.inr ⟨.inl hk,c,hc,hc'⟩⟩
   ·rw[List.getElem?_set_ne (eg hj)] at e2;obtain⟨u',r',q⟩:=hl j y v' e1 e2 e3;refine⟨u',r',?_⟩;rcases q with q | ⟨k,c',e,z'⟩
    ·exact .inl q
    ·refine .inr ⟨k,c',e,z'.sameBut hs ?_⟩;rintro rfl;exact hj (kP hN e1 (I.ok.inj _ _ _ e hc ▸ hi))
  ·by_cases hcc:c'=c
   ·subst hcc;exact⟨_,hc'⟩
   ·obtain⟨w2,z2⟩:=I.cell y c' e;exact⟨w2,z2.sameBut hs hcc⟩
  ·obtain⟨e,n,ne,nf,d⟩:=I.pin p hp;refine⟨(hs.2 p.1 ?_).trans e,n,ne,nf,d⟩;intro q;rw[q,hoc] at e;have q':oc=p.2:=br e;exact d w' (by rw[<-q'];exact hocd)
theorem fM {M:Model}{A:Around}{E:Value->Shared->Prop}{i:Nat}{x:Str}{v:V}{u:Value}{Q:Unit->Shared->Prop}(I:Inv X pins σ H s)(hN:X.N.Nodup)(hi:X.N[i]? = some x)(hx:Loc X.env.scope x)(r:RelV v u)
  (h:∀ s',Inv X pins (σ.set i (some v)) H s'->Q () s') (hf:X.fn x=true\/X.env.scope.names.lookup x=some .local:=by first | exact .inl rfl | exact .inr rfl | assumption):wpAny M A (storeName X.env x u) Q E s :=
 tM I hN hi hx r (fun s' I' _=>h s' I') hf
theorem Inv.call' {s':Shared}{ch:List Addr}(I:Inv X pins σ H s)(ho:s'.os=s.os)(u:Un (gI X.stack) ch H H' s.heap s'.heap)(hok:hV X.prog X.w H' s'.heap)(hg:AllBare s'.gens)
  (hch:∀ b∈ch,(b∈X.ex\/X.s₀.heap.objs.size<=b)/\b≠X.env.locals/\(∀ x c,X.env.cells.lookup x=some c->c≠b)/\∀ p∈X.pn++pins,p.1≠b):Inv X pins σ H' s':=by
 obtain⟨h',g',d',t',o'⟩:=s';have e:o'=s.os:=ho;subst e;exact I.call (g':=g') (t':=t') (d':=d') u hok hg hch
end
noncomputable abbrev XK:=Value->Option Addr->Hp->Prop
noncomputable abbrev St:=List (Option V)
noncomputable abbrev VK:=V->Hp->Prop
noncomputable abbrev TE:=St->Hp->VK->Prop
noncomputable abbrev TT:=St->Hp->(Bool->Hp->Prop)->Prop
noncomputable abbrev TA:=St->Hp->(List V->Hp->Prop)->Prop
structure Ends where
 nx:St->Hp->Prop
 rt:VK
 bk:St->Hp->Prop:=fun _ _=>False
 ct:St->Hp->Prop:=fun _ _=>False
noncomputable abbrev TS:=Ends->St->Hp->Prop
def EP (X:Cx)(pins:List (Addr×Obj))(σ:St)(Q:VK)(u:Value)(s':Shared):Prop:=∃ v H',Inv X pins σ H' s'/\RelV v u/\Q v H'
def TP (X:Cx)(pins:List (Addr×Obj))(σ:St)(Q:Bool->Hp->Prop)(b:Bool)(s':Shared):Prop:=∃ H',Inv X pins σ H' s'/\Q b H'
def AP (X:Cx)(pins:List (Addr×Obj))(σ:St)(Q:List V->Hp->Prop)(us:List Value)(s':Shared):Prop:=∃ vs H',Inv X pins σ H' s'/\aL vs us/\Q vs H'
noncomputable def SP (X:Cx)(pins:List (Addr×Obj))(D:Ends)(f:Flow)(s':Shared):Prop :=
 match f with
 |.next=>∃ σ' H',Inv X pins σ' H' s'/\D.nx σ' H'
 |.brk=>∃ σ' H',Inv X pins σ' H' s'/\D.bk σ' H'
 |.cont=>∃ σ' H',Inv X pins σ' H' s'/\D.ct σ' H'
 |.ret u=>∃ v σ' H',Inv X pins σ' H' s'/\RelV v u/\D.rt v H'
noncomputable def PE (X:Cx)(e:Expr)(t:TE):Prop :=
 ∀(pins:List (Addr×Obj)) (s:Shared) (σ:St) (H:Hp) (Q:VK),Inv X pins σ H s->t σ H Q->wpAny (model X.prog X.w) X.A (eval e X.env) (EP X pins σ Q) X.xe s
noncomputable def PT (X:Cx)(e:Expr)(t:TT):Prop :=
 ∀(pins:List (Addr×Obj)) (s:Shared) (σ:St) (H:Hp) (Q:Bool->Hp->Prop),Inv X pins σ H s->t σ H Q->wpAny (model X.prog X.w) X.A (isTrue e X.env (eval e X.env)) (TP X pins σ Q) X.xe s
noncomputable def PW (X:Cx)(e:Expr)(t:TT):Prop :=
 ∀(whole:Sem Value) (pins:List (Addr×Obj)) (s:Shared) (σ:St) (H:Hp) (Q:Bool->Hp->Prop),Inv X pins σ H s->t σ H Q->wpAny (model X.prog X.w) X.A (isTrue e X.env whole) (TP X pins σ Q) X.xe s
theorem PW.pt {X:Cx}{e:Expr}{t:TT}(h:PW X e t):PT X e t:=h _
noncomputable def PA (X:Cx)(es:List Expr)(t:TA):Prop :=
 ∀(pos:Pos) (pins:List (Addr×Obj)) (s:Shared) (σ:St) (H:Hp) (Q:List V->Hp->Prop),Inv X pins σ H s->t σ H Q->wpAny (model X.prog X.w) X.A (spliced (backTo pos (starEach es X.env))) (AP X pins σ Q) X.xe s
noncomputable def PS (X:Cx)(st:Stmt)(t:TS):Prop :=
 ∀(pins:List (Addr×Obj)) (s:Shared) (σ:St) (H:Hp) (D:Ends),Inv X pins σ H s->t D σ H->wpAny (model X.prog X.w) X.A (exec st X.env) (SP X pins D) X.xe s
noncomputable def iG (X:Cx)(st:List Stmt)(t:TS):Prop :=
 ∀(pins:List (Addr×Obj)) (s:Shared) (σ:St) (H:Hp) (D:Ends),Inv X pins σ H s->t D σ H->wpAny (model X.prog X.w) X.A (execs st X.env) (SP X pins D) X.xe s
theorem cC {α:Type}{t:Sem α}{Q Q':α->Shared->Prop}{M:Model}{A:Around}{E:Value->Shared->Prop}{s:Shared}(h:wpAny M A t Q E s)(hQ:∀ a s,Q a s->Q' a s):wpAny M A t Q' E s:=wpAny_mono h hQ fun _ _ x=>x
end L2
namespace L2
open PySem PySem.Spec PyProof.Rows
section
variable {X:Cx}
def qu (i:Nat):TE:=fun σ H Q=>∃ v,σ[i]? = some (some v)/\Q v H
def tC (v:V):TE:=fun _ H Q=>Q v H
theorem kT {i:Nat}{x:Str}{pos:Pos}(hN:X.N[i]? = some x)(hv:xJ X.env.scope x)(hd:(x==("__debug__" : Str))=false:=by decide) (hcd:(x==("__classdict__" : Str))=false:=by decide):PE X (.Name x pos) (qu i):=by
 intro pins s σ H Q I h;obtain⟨v,e,h⟩:=h;obtain⟨m,hn,hl⟩:=I.loc;obtain⟨u,r,l⟩:=hl i x v hN e hv;have fin:EP X pins σ Q u s:=⟨v,H,I,r,h⟩;rcases l with ⟨hk,hm⟩ | ⟨hk,c,hc,hcell⟩
 ·exact wpAny_Name (wpAny_loadName_local I.ok.kind hk hn hm fin) hd
 ·rcases hk with hk | hk
  ·exact wpAny_Name (wpAny_loadName_cell I.ok.kind hk hc hcell fin) hd
  ·exact wpAny_Name (wpAny_loadName_free I.ok.kind hk hc hcell fin hcd) hd
theorem rq {i j pos}:PE X (.Constant (.int i) j pos) (tC (.int i)):=fun _ _ _ H _ I h=>wpAny_Constant_int ⟨.int i,H,I.tok _,⟨_,rfl⟩,h⟩
theorem vU {b j pos}:PE X (.Constant (.bool b) j pos) (tC (.bl b)):=fun _ _ _ H _ I h=>Constant_bool ⟨.bl b,H,I,rfl,h⟩
theorem qJ {j pos}:PE X (.Constant .none j pos) (tC .non):=fun _ _ _ H _ I h=>Constant_none ⟨.non,H,I,rfl,h⟩
theorem qN {x j pos}:PE X (.Constant (.str x) j pos) (tC (.str x)):=fun _ _ _ H _ I h=>Calls.Constant_str ⟨.str x,H,I.tok _,⟨_,rfl⟩,h⟩
def Gl (X:Cx)(x:Str):Prop:=X.env.kindOf x=some .globalImplicit
theorem gW {E:Value->Shared->Prop}{pins:List (Addr×Obj)}{s:Shared}{σ:St}{H:Hp}{x:Str}{u:Value}{pos:Pos}{Q:Value->Shared->Prop}(I:Inv X pins σ H s)(hg:Gl X x)(hm:X.mg x=some u)(h:Q u s)
  (hd:(x==("__debug__" : Str))=false:=by decide):wpAny (model X.prog X.w) X.A (eval (.Name x pos) X.env) Q E s :=
 Calls.Name_function_global I.ok.kind hg (Calls.loadGlobal_global (by rw[I.ok.glob];exact I.mod.glob.keeps I.bk) hm h) hd
theorem eI {E:Value->Shared->Prop}{pins:List (Addr×Obj)}{s:Shared}{σ:St}{H:Hp}{x:Str}{u:Value}{pos:Pos}{Q:Value->Shared->Prop}(I:Inv X pins σ H s)(hg:Gl X x)(hm:X.mg x=none)(hv:bootBuiltins x=some u)(h:Q u s)
  (hn:x≠"__name__":=by decide) (hd:(x==("__debug__" : Str))=false:=by decide):wpAny (model X.prog X.w) X.A (eval (.Name x pos) X.env) Q E s:=by
 obtain⟨mb,h1,h2⟩:=I.mod.blt;exact Calls.Name_function_global I.ok.kind hg (Calls.loadGlobal_builtin (by rw[I.ok.glob];exact I.mod.glob.keeps I.bk) hm (by rw[I.ok.blt];exact h1.keeps I.bk) ((h2 x hn).trans hv) h) hd
theorem dB {x:Str}{v:V}{u:Value}{pos:Pos}(hg:Gl X x)(hm:X.mg x=some u)(r:RelV v u)(hd:(x==("__debug__" : Str))=false:=by decide):PE X (.Name x pos) (tC v) :=
 fun _ _ _ H _ I h=>gW I hg hm ⟨v,H,I,r,h⟩ hd
theorem rD {x:Str}{v:V}{u:Value}{pos:Pos}(hg:Gl X x)(hm:X.mg x=none)(hv:bootBuiltins x=some u)(r:RelV v u)(hn:x≠"__name__":=by decide) (hd:(x==("__debug__" : Str))=false:=by decide):PE X (.Name x pos) (tC v) :=
 fun _ _ _ H _ I h=>eI I hg hm hv ⟨v,H,I,r,h⟩ hn hd
variable {a b:Expr}{ta tb:TE}{pos:Pos}
def tB (t:TE):TT:=fun σ H Q=>t σ H fun x H1=>∃ c,x = .bl c/\Q c H1
theorem wt {e:Expr}{t:TE}(h:PE X e t)(he:∀ whole,isTrue e X.env whole=(do let v <- whole;standAt e.pos;holding [v] (truthy v)):=by intro _;rfl):PT X e (tB t):=by
 intro pins s σ H Q I hw;refine isTrue_plain (cC (h pins s σ H _ I hw) fun v s1 ⟨x,H1,I1,r1,q1⟩=>?_) (he _);obtain⟨d,rfl,q⟩:=q1;cases r1;exact wpAny_truthy_bool ⟨H1,I1,q⟩
variable {tA tB':TT}{rest:List Expr}
def tAnd (t u:TT):TT:=fun σ H Q=>t σ H fun c H1=>if c=true then u σ H1 Q else Q false H1
def tOr (t u:TT):TT:=fun σ H Q=>t σ H fun c H1=>if c=true then Q true H1 else u σ H1 Q
def Co (t:TT):TT:=fun σ H Q=>t σ H fun c H1=>Q (!c) H1
theorem yj (ha:PT X a tA):PW X (.BoolOp .And [a] pos) tA:=by
 intro wh pins s σ H Q I h;refine isTrue_and (cC (ha pins s σ H Q I h) fun c s1 e=>?_);cases c with
 |true=>exact isTrue_and_nil e
 |false=>exact e
theorem wV (ha:PT X a tA):PW X (.BoolOp .Or [a] pos) tA:=by
 intro wh pins s σ H Q I h;refine isTrue_or (cC (ha pins s σ H Q I h) fun c s1 e=>?_);cases c with
 |false=>exact isTrue_or_nil e
 |true=>exact e
theorem CN (ha:PT X a tA)(hb:PW X (.BoolOp .And (b::rest) pos) tB'):PW X (.BoolOp .And (a::b::rest) pos) (tAnd tA tB'):=by
 intro wh pins s σ H Q I h;refine isTrue_and (cC (ha pins s σ H _ I h) fun c s1 ⟨H1,I1,q1⟩=>?_);cases c with
 |true=>exact hb wh pins s1 σ H1 Q I1 q1
 |false=>exact⟨H1,I1,q1⟩
theorem Ag (ha:PT X a tA)(hb:PW X (.BoolOp .Or (b::rest) pos) tB'):PW X (.BoolOp .Or (a::b::rest) pos) (tOr tA tB'):=by
 intro wh pins s σ H Q I h;refine isTrue_or (cC (ha pins s σ H _ I h) fun c s1 ⟨H1,I1,q1⟩=>?_);cases c with
 |true=>exact⟨H1,I1,q1⟩
 |false=>exact hb wh pins s1 σ H1 Q I1 q1
theorem qv (ha:PT X a tA):PT X (.UnaryOp .Not a pos) (Co tA):=by
 intro pins s σ H Q I h;exact isTrue_not (ha pins s σ H (fun c H1=>Q (!c) H1) I h)
def Dm (ta tb:TE):TE:=fun σ H Q=>ta σ H fun x H1=>∃ c,x = .bl c/\if c=true then tb σ H1 Q else Q (.bl false) H1
def tOrV (ta tb:TE):TE:=fun σ H Q=>ta σ H fun x H1=>∃ c,x = .bl c/\if c=true then Q (.bl true) H1 else tb σ H1 Q
def zR (ta:TE):TE:=fun σ H Q=>ta σ H fun x H1=>∃ c,x = .bl c/\Q (.bl (!c)) H1
theorem B7 {op}{t:TE}(h:PE X a t):PE X (.BoolOp op [a] pos) t:=fun pins s σ H Q I hw=>BoolOp_one (h pins s σ H Q I hw)
theorem Cn (ha:PE X a ta)(hb:PE X (.BoolOp .And (b::rest) pos) tb):PE X (.BoolOp .And (a::b::rest) pos) (Dm ta tb):=by
 intro pins s σ H Q I h;refine BoolOp_and (cC (ha pins s σ H _ I h) fun v s1 ⟨x,H1,I1,r1,q1⟩=>?_);obtain⟨c,rfl,q1⟩:=q1;cases r1;refine wpAny_truthy_bool ?_;cases c with
 |true=>exact hb pins s1 σ H1 Q I1 q1
 |false=>exact⟨.bl false,H1,I1,rfl,q1⟩
theorem DW (ha:PE X a ta)(hb:PE X (.BoolOp .Or (b::rest) pos) tb):PE X (.BoolOp .Or (a::b::rest) pos) (tOrV ta tb):=by
 intro pins s σ H Q I h;refine BoolOp_or (cC (ha pins s σ H _ I h) fun v s1 ⟨x,H1,I1,r1,q1⟩=>?_);obtain⟨c,rfl,q1⟩:=q1;cases r1;refine wpAny_truthy_bool ?_;cases c with
 |false=>exact hb pins s1 σ H1 Q I1 q1
 |true=>exact⟨.bl true,H1,I1,rfl,q1⟩
theorem wj (ha:PE X a ta):PE X (.UnaryOp .Not a pos) (zR ta):=by
 intro pins s σ H Q I h;refine UnaryOp_ (cC (ha pins s σ H _ I h) fun v s1 ⟨x,H1,I1,r1,q1⟩=>?_);obtain⟨c,rfl,q1⟩:=q1;cases r1;exact not_of (wpAny_truthy_bool ⟨.bl (!c),H1,I1,rfl,q1⟩)
def tIf (t:TT)(ta tb:TE):TE:=fun σ H Q=>t σ H fun c H1=>if c=true then ta σ H1 Q else tb σ H1 Q
theorem wq {c:Expr}(hc:PT X c tA)(ha:PE X a ta)(hb:PE X b tb):PE X (.IfExp c a b pos) (tIf tA ta tb):=by
 intro pins s σ H Q I h;refine wpAny_IfExp (cC (hc pins s σ H _ I h) fun d s1 ⟨H1,I1,q1⟩=>?_);cases d with
 |true=>exact ha pins s1 σ H1 Q I1 q1
 |false=>exact hb pins s1 σ H1 Q I1 q1
end
end L2
namespace L2
open PySem PySem.Spec PyProof.Rows
noncomputable def mD (K:PySem.W.Frag)(H:Hp)(a:Addr)(xs:List V):Prop :=
 Rd H a (.lst xs) \/
  ∃(o:Obj) (its:Array Value) (n:Nat),K.lookup a=some o/\o.cls = .type "list"/\o.dict=none/\o.data = .seq its n/\its.size<=sizeLine/\aL xs its.toList
noncomputable def jm (K:PySem.W.Frag)(H:Hp)(a:Addr)(xs:List V):Prop :=
 Rd H a (.tup xs) \/
  ∃(o:Obj) (its:Array Value) (n:Nat),K.lookup a=some o/\o.cls = .type "tuple"/\o.data = .seq its n/\its.size<=sizeLine/\aL xs its.toList
noncomputable def absV:Value->Option V
 |.none=>some .non
 |.bool b=>some (.bl b)
 |.int i _=>some (.int i)
 |.str x _=>some (.str x)
 |.bytes b _=>some (.byt b)
 |.float b _=>some (.flt b)
 |.ref a=>some (.ref a)
 |.type n=>some (.ty n)
 |_=>none
theorem RelV.abs {x:V}{u:Value}(r:RelV x u):absV u=some x:=by
 cases x with
 |non=>cases r;rfl
 |bl _=>cases r;rfl
 |int _=>obtain⟨t,rfl⟩:=r;rfl
 |str _=>obtain⟨t,rfl⟩:=r;rfl
 |byt _=>obtain⟨t,rfl⟩:=r;rfl
 |flt _=>obtain⟨t,rfl⟩:=r;rfl
 |ref _=>cases r;rfl
 |ty _=>cases r;rfl
theorem RelV.inj {x y:V}{u:Value}(r:RelV x u)(q:RelV y u):x=y:=br (r.abs.symm.trans q.abs)
theorem aL.inj:∀{xs ys:List V}{us:List Value},aL xs us->aL ys us->xs=ys
 |_,_,_,.nil,.nil=>rfl
 |_,_,_,.cons r t,.cons r' t'=>by rw[r.inj r',aL.inj t t']
section
variable {X:Cx}{pins:List (Addr×Obj)}{σ:St}{H:Hp}{s:Shared}{a:Addr}{xs ys:List V}
theorem Inv.list (I:Inv X pins σ H s)(h:mD X.K H a xs):∃ its:List Value,aL xs its/\PlainL s.heap a its.toArray/\xs.length<=sizeLine:=by
 rcases h with h | ⟨o,its,n,hk,hc,hd,hs,hz,r⟩
 ·obtain⟨z,its,n,r,e⟩:=h.ok I.hok;exact⟨its,r,⟨_,n,e,rfl,rfl,rfl⟩,z⟩
 ·refine⟨its.toList,r,⟨o,n,I.kIn a o hk,hc,hd,by simpa using hs⟩,?_⟩;have e:=r.length;simp only[Array.length_toList] at e;omega
theorem Inv.tuple (I:Inv X pins σ H s)(h:jm X.K H a xs):∃ its:List Value,aL xs its/\IsTup s.heap a its.toArray/\xs.length<=sizeLine:=by
 rcases h with h | ⟨o,its,n,hk,hc,hs,hz,r⟩
 ·obtain⟨z,its,r,p⟩:=h.ok I.hok;exact⟨its,r,p,z⟩
 ·refine⟨its.toList,r,⟨o,I.kIn a o hk,hc,n,by simpa using hs⟩,?_⟩;have e:=r.length;simp only[Array.length_toList] at e;omega
theorem Inv.list_inj (I:Inv X pins σ H s)(h:mD X.K H a xs)(h':mD X.K H a ys):xs=ys:=by
 obtain⟨its,r,⟨o,n,e,_,_,d⟩,_⟩:=I.list h;obtain⟨its',r',⟨o',n',e',_,_,d'⟩,_⟩:=I.list h';rw[e] at e';cases e';rw[d] at d';injection d' with d1 _
 have:its=its':=by simpa using congrArg Array.toList d1
 subst this;exact r.inj r'
theorem Inv.tuple_inj (I:Inv X pins σ H s)(h:jm X.K H a xs)(h':jm X.K H a ys):xs=ys:=by
 obtain⟨its,r,⟨o,e,_,n,d⟩,_⟩:=I.tuple h;obtain⟨its',r',⟨o',e',_,n',d'⟩,_⟩:=I.tuple h';rw[e] at e';cases e';rw[d] at d';injection d' with d1 _
 have:its=its':=by simpa using congrArg Array.toList d1
 subst this;exact r.inj r'
end
noncomputable abbrev Cx.wish (X:Cx)(E:Value->Shared->Prop):Cx:={ X with xe:=E }
noncomputable abbrev Cx.nox (X:Cx):Cx:=X.wish fun _ _=>False
theorem Cx.Ok.wish {X:Cx}(ok:X.Ok)(E:Value->Shared->Prop):(X.wish E).Ok :=
 ⟨ok.mod,ok.kind,ok.glob,ok.blt,ok.above,ok.inj,ok.has,ok.cab,ok.hd,ok.frames,ok.stk,ok.exf,ok.bs,ok.bsz,ok.noex,ok.exfs,ok.funs,ok.frf,ok.jt⟩
theorem Cx.Ok.unwish {X:Cx}{E:Value->Shared->Prop}(ok:(X.wish E).Ok):X.Ok :=
 ⟨ok.mod,ok.kind,ok.glob,ok.blt,ok.above,ok.inj,ok.has,ok.cab,ok.hd,ok.frames,ok.stk,ok.exf,ok.bs,ok.bsz,ok.noex,ok.exfs,ok.funs,ok.frf,ok.jt⟩
section
variable {X:Cx}{pins:List (Addr×Obj)}{σ:St}{H:Hp}{s:Shared}{E:Value->Shared->Prop}
theorem Inv.wish (I:Inv X pins σ H s)(E:Value->Shared->Prop):Inv (X.wish E) pins σ H s:=⟨I.ok.wish E,I.os,I.bare,I.base,I.loc,I.cell,I.free,I.freeC,I.pin,I.hok,I.len⟩
theorem Inv.unwish (I:Inv (X.wish E) pins σ H s):Inv X pins σ H s:=⟨I.ok.unwish,I.os,I.bare,I.base,I.loc,I.cell,I.free,I.freeC,I.pin,I.hok,I.len⟩
theorem SP.unwish {D:Ends}{f:Flow}{s':Shared}(h:SP (X.wish E) pins D f s'):SP X pins D f s':=by
 cases f with
 |next=>obtain⟨σ',H',I,q⟩:=h;exact⟨σ',H',I.unwish,q⟩
 |brk=>obtain⟨σ',H',I,q⟩:=h;exact⟨σ',H',I.unwish,q⟩
 |cont=>obtain⟨σ',H',I,q⟩:=h;exact⟨σ',H',I.unwish,q⟩
 |ret u=>obtain⟨v,σ',H',I,r,q⟩:=h;exact⟨v,σ',H',I.unwish,r,q⟩
theorem iG.nox {st:List Stmt}{t:TS}(h:iG X.nox st t):iG X st t:=fun pins s σ H D I hw =>
 wpAny_mono (h pins s σ H D (I.wish _) hw) (fun _ _ q=>q.unwish) fun _ _ z=>False.elim z
end
section
variable {X:Cx}{st:Stmt}{rest:List Stmt}{t u:TS}{e:Expr}{te:TE}{pos:Pos}
def rK:TS:=fun D σ H=>D.nx σ H
def D5 (t u:TS):TS:=fun D σ H=>t { D with nx:=u D } σ H
theorem sg:iG X [] rK:=fun _ _ σ H _ I h=>wpAny_execs_nil ⟨σ,H,I,h⟩
theorem gK (h1:PS X st t)(h2:iG X rest u):iG X (st::rest) (D5 t u):=by
 intro pins s σ H D I h;refine wpAny_execs_cons (cC (h1 pins s σ H { D with nx:=u D } I h) fun f s1 q=>?_);cases f with
 |next =>
  obtain⟨σ',H',I',q⟩:=q;exact h2 pins s1 σ' H' D I' q
 |ret v=>exact q
 |brk=>exact q
 |cont=>exact q
theorem gU (h1:PS X st t):iG X [st] t:=by
 intro pins s σ H D I h;refine wpAny_execs_cons (cC (h1 pins s σ H D I h) fun f s1 q=>?_);cases f with
 |next=>exact wpAny_execs_nil q
 |ret v=>exact q
 |brk=>exact q
 |cont=>exact q
theorem yU:PS X (.Pass pos) rK:=fun _ _ σ H _ I h=>wpAny_Pass ⟨σ,H,I,h⟩
theorem Inv.quiet {pins:List (Addr×Obj)}{σ:St}{H:Hp}{s:Shared}(I:Inv X pins σ H s):interactive X.env=false:=by simp[interactive,I.ok.kind]
theorem BF {x j pos pos'}:PS X (.Expr (.Constant (.str x) j pos) pos') rK:=fun _ s σ H _ I h=>wpAny_Expr (Calls.Constant_str (show SP X _ _ .next { s with toks:=s.toks+1 } from ⟨σ,H,I.tok _,h⟩)) I.quiet
def wR (te:TE):TS:=fun D σ H=>te σ H fun _ H1=>D.nx σ H1
theorem j4 (he:PE X e te)(hs:swapsWith e none pos.line X.env=pure false:=by rfl):PS X (.Expr e pos) (wR te):=by
 intro pins s σ H D I h;exact wpAny_Expr_any (cC (he pins s σ H _ I h) fun v s1 ⟨x,H1,I1,r1,q1⟩=>⟨σ,H1,I1,q1⟩) I.quiet hs
def zd (te:TE):TS:=fun D σ H=>te σ H D.rt
theorem la (he:PE X e te):PS X (.Return (some e) pos) (zd te):=by
 intro pins s σ H D I h;exact wpAny_Return_some (cC (he pins s σ H _ I h) fun v s1 ⟨x,H1,I1,r1,q1⟩=>⟨x,σ,H1,I1,r1,q1⟩)
def Es:TS:=fun D _ H=>D.rt .non H
theorem yh:PS X (.Return none pos) Es:=fun _ _ σ H _ I h=>wpAny_Return_none ⟨.non,σ,H,I,rfl,h⟩
def Eo (c:TT)(t u:TS):TS:=fun D σ H=>c σ H fun b H1=>if b=true then t D σ H1 else u D σ H1
theorem z6 {c:Expr}{a b:List Stmt}{tc:TT}(hc:PT X c tc)(ha:iG X a t)(hb:iG X b u):PS X (.If c a b pos) (Eo tc t u):=by
 intro pins s σ H D I h;refine wpAny_If (cC (hc pins s σ H _ I h) fun d s1 ⟨H1,I1,q1⟩=>?_);cases d with
 |true=>exact ha pins s1 σ H1 D I1 q1
 |false=>exact hb pins s1 σ H1 D I1 q1
end
noncomputable abbrev TG:=V->St->Hp->(St->Hp->Prop)->Prop
noncomputable abbrev AI:=List V->St->Hp->(St->Hp->Prop)->Prop
noncomputable def PG (X:Cx)(target:Expr)(t:TG):Prop :=
 ∀(pins:List (Addr×Obj)) (s:Shared) (σ:St) (H:Hp) (v:V) (u:Value) (Q:St->Hp->Prop),Inv X pins σ H s->RelV v u->t v σ H Q ->
  wpAny (model X.prog X.w) X.A (assign target X.env u) (fun _ s'=>∃ σ' H',Inv X pins σ' H' s'/\Q σ' H') X.xe s
noncomputable def DM (X:Cx)(ts:List Expr)(t:AI):Prop :=
 ∀(pins:List (Addr×Obj)) (s:Shared) (σ:St) (H:Hp) (vs:List V) (us:List Value) (Q:St->Hp->Prop),Inv X pins σ H s->aL vs us->t vs σ H Q ->
  wpAny (model X.prog X.w) X.A (assignInOrder ((assignEach ts X.env).map (·.2)) us) (fun _ s'=>∃ σ' H',Inv X pins σ' H' s'/\Q σ' H') X.xe s
noncomputable abbrev AR:=V->V->V->Hp->(Hp->Prop)->Prop
noncomputable def DB (X:Cx)(t:AR):Prop :=
 ∀(pins:List (Addr×Obj)) (s:Shared) (σ:St) (H:Hp) (o i v:V) (ov iv u:Value) (Q:Hp->Prop),Inv X pins σ H s->RelV o ov->RelV i iv->RelV v u->t o i v H Q ->
  wpAny (model X.prog X.w) X.A (setItem ov iv u) (fun _ s'=>∃ H',Inv X pins σ H' s'/\Q H') X.xe s
section
variable {X:Cx}{pos:Pos}
noncomputable def j8 (i:Nat):TG:=fun v σ H Q=>Q (σ.set i (some v)) H
theorem rP {i:Nat}{x:Str}(hN:X.N.Nodup)(hi:X.N[i]? = some x)(hx:Loc X.env.scope x)(hf:X.fn x=true\/X.env.scope.names.lookup x=some .local:=by first | exact .inl rfl | exact .inr rfl | assumption):PG X (.Name x pos) (j8 i):=by
 intro pins s σ H v u Q I r h;exact wpAny_assign_Name (fM I hN hi hx r (fun s' I'=>⟨_,H,I',h⟩) hf)
noncomputable def Dg:AI:=fun vs σ H Q=>vs=[]/\Q σ H
noncomputable def AJ (t:TG)(u:AI):AI:=fun vs σ H Q=>∃ v r,vs=v::r/\t v σ H fun σ' H'=>u r σ' H' Q
theorem xW:DM X [] Dg:=by
 intro pins s σ H vs us Q I r h;obtain⟨e,h⟩:=h;subst e;cases r;exact assignInOrder_nil ⟨σ,H,I,h⟩
theorem wW {e:Expr}{es:List Expr}{t:TG}{u:AI}(h1:PG X e t)(h2:DM X es u)
  (hs:(assignEach (e::es) X.env).map (·.2)=assign e X.env::(assignEach es X.env).map (·.2):=by rfl):DM X (e::es) (AJ t u):=by
 intro pins s σ H vs us Q I r h;obtain⟨v,vr,e1,h⟩:=h;subst e1;cases r with
 |cons r rr =>
  rw[hs];refine assignInOrder_cons (cC (h1 pins s σ H _ _ _ I r h) fun _ s1 ⟨σ1,H1,I1,q1⟩=>?_);exact h2 pins s1 σ1 H1 _ _ Q I1 rr q1
noncomputable def wm (K:PySem.W.Frag)(n:Nat)(t:AI):TG:=fun v σ H Q=>∃ a xs,v = .ref a/\jm K H a xs/\xs.length=n/\t xs σ H Q
theorem uR {es:List Expr}{k:Nat}{t:AI}{n:Nat}(hc:X.calm=true)(h:DM X es t)
  (hn:(assignEach es X.env).length=n:=by rfl) (hst:(assignEach es X.env).findIdx? (·.1)=none:=by rfl):PG X (.Tuple es k pos) (wm X.K n t):=by
 intro pins s σ H v u Q I r hw;obtain⟨a,xs,e1,hq,hl,hw⟩:=hw;subst e1;cases r;obtain⟨its,rv,ht,hz⟩:=I.tuple hq;refine assign_Tuple_tuple (I.ok.hd hc) ht (by simp[hn,<-hl,rv.length]) hst fun h' hx=>?_
 have I1:Inv X pins σ H { s with heap:=h' }:=I.kept (t':=s.toks) fun b o e=>hx b o (bh (Heap.lt_size e)) e
 exact h pins _ σ H xs _ Q I1 (by simpa using rv) hw
noncomputable def DR (to ti:TE)(t:AR):TG:=fun v σ H Q=>to σ H fun o H1=>ti σ H1 fun i H2=>t o i v H2 fun H3=>Q σ H3
theorem Cs {o i:Expr}{to ti:TE}{t:AR}(ho:PE X o to)(hi:PE X i ti)(hs:DB X t)
  (ha:∀ v,assign (.Subscript o i pos) X.env v=(do
   let ov <- holding [v] (eval o X.env);let iv <- holding [v,ov] (eval i X.env)
   standAt pos
   holding [v,ov,iv] (setItem ov iv v)
   release [v,ov,iv] []):=by intro _;rfl):PG X (.Subscript o i pos) (DR to ti t):=by
 intro pins s σ H v u Q I r h;rw[ha];refine wpAny_bind (wpAny_holding (cC (ho pins s σ H _ I h) fun ov s1 ⟨x,H1,I1,r1,q1⟩=>?_));refine wpAny_bind (wpAny_holding (cC (hi pins s1 σ H1 _ I1 q1) fun iv s2 ⟨y,H2,I2,r2,q2⟩=>?_));refine wpAny_bind (wpAny_standAt (wpAny_bind (wpAny_holding (cC (hs pins s2 σ H2 x y v ov iv u _ I2 r1 r2 r q2) fun _ s3 ⟨H3,I3,q3⟩=>?_))));exact wpAny_release ⟨σ,H3,I3,q3⟩
def wg (te:TE)(g:TG):TS:=fun D σ H=>te σ H fun x H1=>g x σ H1 D.nx
theorem xn {tg e:Expr}{te:TE}{g:TG}(he:PE X e te)(hg:PG X tg g)(hs:swapsWithSole [tg] e pos.line X.env=pure false:=by rfl)(hw:swappedStores [tg] e X.env=pure none:=by rfl)
  (h1:(assignEach [tg] X.env).map (·.2)=[assign tg X.env]:=by rfl):PS X (.Assign [tg] e pos) (wg te g):=by
 intro pins s σ H D I h;refine wpAny_Assign_stores (cC (he pins s σ H _ I h) fun v s1 ⟨x,H1,I1,r1,q1⟩=>?_) hs hw;rw[h1];exact cC (hg pins s1 σ H1 x v _ I1 r1 q1) fun _ s2 q=>q
theorem nD {i:Nat}{x:Str}{e:Expr}{te:TE}{pos':Pos}(hN:X.N.Nodup)(hi:X.N[i]? = some x)(hx:Loc X.env.scope x)(he:PE X e te)(hs:swapsWith e (some (.Name x pos')) pos.line X.env=pure false:=by rfl)(hf:X.fn x=true\/X.env.scope.names.lookup x=some .local:=by first | exact .inl rfl | exact .inr rfl | assumption) :
  PS X (.Assign [.Name x pos'] e pos) (wg te (j8 i)):=by
 intro pins s σ H D I h;refine wpAny_Assign_Name (cC (he pins s σ H _ I h) fun v s1 ⟨y,H1,I1,r1,q1⟩=>?_) hs;exact fM I1 hN hi hx r1 (fun s2 I2=>⟨_,H1,I2,q1⟩) hf
end
section
variable {X:Cx}{pos:Pos}
end
structure It where
 go:Nat->Hp->Prop
 yld:Nat->Hp->V->Hp->Prop
 stop:Nat->Hp->Prop
noncomputable def jJ (X:Cx)(pins:List (Addr×Obj))(H:Hp)(b:Addr):Prop :=
 H b=none/\b≠X.env.locals/\b∉X.fs/\(b∈X.ex\/X.s₀.heap.objs.size<=b)/\(∀ x c,X.env.cells.lookup x=some c->c≠b)/\∀ p∈X.pn++pins,p.1≠b
theorem Inv.fpOk {X:Cx}{pins:List (Addr×Obj)}{σ:St}{H H':Hp}{s:Shared}{b:Addr}(I:Inv X pins σ H s)(hb:s.heap.objs.size<=b)(hn:H' b=none):jJ X pins H' b:=by
 refine⟨hn,i4 (av I.lt hb),I.nofs hb,.inr (dg I.sz hb),fun x c e z=>?_,fun p hp z=>?_⟩
 ·obtain⟨v,q⟩:=I.cell x c e;exact absurd (av q.lt (by rw[z];exact hb)) (dz _)
 ·exact absurd (av (Heap.lt_size (I.pin p hp).1) (by rw[z];exact hb)) (dz _)
structure Turn (P:Program)(w:World)(K:PySem.W.Frag)(tg:Expr)(J:It)(fp:List Addr)(it:Addr)(tn:Nat->Heap->Prop):Prop where
 mem:it∈fp
 obj:∀ i h,tn i h->∀ b∈fp,∃ o,h.get? b=some o/\∀ v,o.data≠.cell v
 keep:∀ i h h',tn i h->(∀ b∈fp,∀ o,h.get? b=some o->h'.get? b=some o)->tn i h'
 item:∀(X:Cx),X.prog=P->X.w=w->X.K=K->X.calm=true->∀(i:Nat) (pins:List (Addr×Obj)) (s:Shared) (σ:St) (H:Hp) (E:Value->Shared->Prop),Inv X pins σ H s->(∀ b∈fp,jJ X pins H b)->tn i s.heap->J.go i H ->
  wpAny (model P w) X.A (pyNext (.ref it)) (fun r s1=>∃ u,r=some u /\
   wpAny (model P w) X.A (letOwnedTupleGo tg (.ref it) u) (fun _ s2=>∃ x H',Inv X pins σ H' s2/\RelV x u/\J.yld i H x H'/\tn (i+1) s2.heap/\∀ b∈fp,H' b=none) E s1) E s
 done:∀(X:Cx),X.prog=P->X.w=w->X.K=K->X.calm=true->∀(i:Nat) (pins:List (Addr×Obj)) (s:Shared) (σ:St) (H:Hp) (E:Value->Shared->Prop),Inv X pins σ H s->(∀ b∈fp,jJ X pins H b)->tn i s.heap->J.stop i H ->
  wpAny (model P w) X.A (pyNext (.ref it)) (fun r s1=>r=none/\Inv X pins σ H s1) E s
 self:∀(A:Around) (i:Nat) (s:Shared) (Q:Value->Shared->Prop) (E:Value->Shared->Prop),tn i s.heap->Q (.ref it) s->wpAny (model P w) A (pyIter (.ref it)) Q E s
noncomputable abbrev TI:=St->Hp->(It->Hp->Prop)->Prop
noncomputable def C2 (X:Cx)(pins:List (Addr×Obj))(σ:St)(tg:Expr)(R:It->Hp->Prop)(itv:Value)(s2:Shared):Prop :=
 ∃(it:Addr) (fp:List Addr) (tn:Nat->Heap->Prop) (J:It) (H':Hp),itv = .ref it/\Inv X pins σ H' s2/\Turn X.prog X.w X.K tg J fp it tn/\tn 0 s2.heap/\(∀ b∈fp,jJ X pins H' b)/\R J H'
noncomputable def PI (X:Cx)(tg iter:Expr)(wi:TI):Prop :=
 ∀(pins:List (Addr×Obj)) (s:Shared) (σ:St) (H:Hp) (R:It->Hp->Prop),Inv X pins σ H s->wi σ H R ->
  wpAny (model X.prog X.w) X.A (eval iter X.env) (fun v s1=>wpAny (model X.prog X.w) X.A (pyIter v) (C2 X pins σ tg R) X.xe s1) X.xe s
theorem rH {M:Model}{A:Around}{E:Value->Shared->Prop}{s:Shared}{tg:Expr}{it:Addr}{u:Value}{o:Obj}{n:String}{vs:Array Value}{Q:Unit->Shared->Prop}(ho:s.heap.get? it=some o)(hc:o.cls = .type n)(hd:o.data = .fields vs)
  (hn:["enumerate","zip","dict_itemiterator","dict_reverseitemiterator","odict_iterator","itertools.zip_longest","itertools.pairwise"].contains n=false) (hQ:Q () s):wpAny M A (letOwnedTupleGo tg (.ref it) u) Q E s:=by
 unfold letOwnedTupleGo;cases tg<;>first
  | exact wpAny_pure hQ
  | (cases u<;>first
    | exact wpAny_pure hQ
    | (refine wpAny_bind (wpAny_load ho ?_)
       rw[hc,hd];show wpAny M A (if (["enumerate","zip","dict_itemiterator","dict_reverseitemiterator","odict_iterator","itertools.zip_longest","itertools.pairwise"].contains n&&vs[0]?==some (rawInt _))=true then _ else _) Q E s;rw[if_neg (by intro h;rw[hn,Bool.false_and] at h;cases h)];exact wpAny_pure hQ))
noncomputable def Itl (K:PySem.W.Frag)(a:Addr):It :=
 ⟨fun i H=>∃ xs x,mD K H a xs/\xs[i]? = some x,fun i H x H'=>H'=H/\∀ xs,mD K H a xs->xs[i]? = some x,fun i H=>∃ xs,mD K H a xs/\xs.length<=i⟩
noncomputable def Itt (K:PySem.W.Frag)(a:Addr):It :=
 ⟨fun i H=>∃ xs x,jm K H a xs/\xs[i]? = some x,fun i H x H'=>H'=H/\∀ xs,jm K H a xs->xs[i]? = some x,fun i H=>∃ xs,jm K H a xs/\xs.length<=i⟩
theorem uc {P:Program}{w:World}{K:PySem.W.Frag}{tg:Expr}(a it:Addr):Turn P w K tg (Itl K a) [it] it (fun i h=>h.IsListIter it a i) where
 mem:=by simp
 obj:=fun i h st b hb=>by
  have e:b=it:=by simpa using hb
  subst e;obtain⟨o,e,c,d⟩:=st;exact⟨o,e,fun v z=>by rw[d] at z;cases z⟩
 keep:=fun i h h' st k=>st.at fun o e=>k it (by simp) o e
 item:=by
  intro X hP hw hK hc i pins s σ H E I hf st hg;subst hP hw hK;obtain⟨xs,x,hq,hx⟩:=hg;obtain⟨its,rv,p,hz⟩:=I.list hq;obtain⟨u,hu,ru⟩:=rv.get hx;obtain⟨f0,f1,f2,f3,f4,f5⟩:=hf it (by simp);refine wpAny_pyNext_list_item st p.isList (x:=u) (by simpa using hu) fun h' st' sb=>?_
  have I1:Inv X pins σ H { s with heap:=h' }:=I.turned (t':=s.toks) (fun b o hb e=>(sb.2 b hb).trans e) f0 f1 f3 f4 f5;obtain⟨o,e,c,d⟩:=id st';exact⟨u,rfl,rH (s:={ s with heap:=h' }) e c d (by decide) ⟨x,H,I1,ru,⟨rfl,fun ys hy=>by rw[I.list_inj hy hq];exact hx⟩,st',fun b hb=>(hf b hb).1⟩⟩
 done:=by
  intro X hP hw hK hc i pins s σ H E I hf st hg;subst hP hw hK;obtain⟨xs,hq,hx⟩:=hg;obtain⟨its,rv,p,hz⟩:=I.list hq;obtain⟨f0,f1,f2,f3,f4,f5⟩:=hf it (by simp);have hl:=rv.length;exact wpAny_pyNext_list_end (I.ok.hd hc) st p.isList (by simp;omega) fun h' eb=>⟨rfl,I.turned (t':=s.toks) (fun b o hb e=>eb b o hb e) f0 f1 f3 f4 f5⟩
 self:=fun _ _ _ _ _ st h=>wpAny_pyIter_listiter st h
theorem rg {P:Program}{w:World}{K:PySem.W.Frag}{tg:Expr}(a it:Addr):Turn P w K tg (Itt K a) [it] it (fun i h=>h.IsTupleIter it a i) where
 mem:=by simp
 obj:=fun i h st b hb=>by
  have e:b=it:=by simpa using hb
  subst e;obtain⟨o,e,c,d⟩:=st;exact⟨o,e,fun v z=>by rw[d] at z;cases z⟩
 keep:=fun i h h' st k=>st.at fun o e=>k it (by simp) o e
 item:=by
  intro X hP hw hK hc i pins s σ H E I hf st hg;subst hP hw hK;obtain⟨xs,x,hq,hx⟩:=hg;obtain⟨its,rv,p,hz⟩:=I.tuple hq;obtain⟨u,hu,ru⟩:=rv.get hx;obtain⟨f0,f1,f2,f3,f4,f5⟩:=hf it (by simp);refine wpAny_pyNext_tuple_item st (show s.heap.IsTuple a its.toArray from p) (x:=u) (by simpa using hu) fun h' st' sb=>?_
  have I1:Inv X pins σ H { s with heap:=h' }:=I.turned (t':=s.toks) (fun b o hb e=>(sb.2 b hb).trans e) f0 f1 f3 f4 f5;obtain⟨o,e,c,d⟩:=id st';exact⟨u,rfl,rH (s:={ s with heap:=h' }) e c d (by decide) ⟨x,H,I1,ru,⟨rfl,fun ys hy=>by rw[I.tuple_inj hy hq];exact hx⟩,st',fun b hb=>(hf b hb).1⟩⟩
 done:=by
  intro X hP hw hK hc i pins s σ H E I hf st hg;subst hP hw hK;obtain⟨xs,hq,hx⟩:=hg;obtain⟨its,rv,p,hz⟩:=I.tuple hq;obtain⟨f0,f1,f2,f3,f4,f5⟩:=hf it (by simp);have hl:=rv.length;exact wpAny_pyNext_tuple_end (I.ok.hd hc) st (show s.heap.IsTuple a its.toArray from p) (by simp;omega) fun h' eb=>⟨rfl,I.turned (t':=s.toks) (fun b o hb e=>eb b o hb e) f0 f1 f3 f4 f5⟩
 self:=fun _ _ _ _ _ st h=>wpAny_pyIter_tupleiter st h
end L2
namespace L2
open PySem PySem.Spec PyProof.Rows
section
variable {X:Cx}{tg:Expr}
def tFor (wi:TI)(g:TG)(tb:TS):TS:=fun D σ H=>wi σ H fun J H1=>∃ W:Nat->Nat->St->Hp->Prop,(∃ m,W 0 m σ H1)/\∀ i m σ H,W i m σ H ->
 (J.stop i H/\D.nx σ H)\/(J.go i H/\∃ N:St->Hp->Prop,(∀ σ' H',N σ' H'->∃ m',m'<m/\W (i+1) m' σ' H')/\∀ x H',J.yld i H x H'->g x σ H' fun σ2 H2=>tb { D with nx:=N,ct:=N,bk:=D.nx } σ2 H2)
noncomputable def kX (fp:List Addr)(h:Heap):List (Addr×Obj):=fp.filterMap fun b=>(h.get? b).map fun o=>(b,o)
theorem eE {fp:List Addr}{h:Heap}{b:Addr}{o:Obj}(hb:b∈fp)(e:h.get? b=some o):(b,o)∈kX fp h:=List.mem_filterMap.mpr ⟨b,hb,by rw[e];rfl⟩
theorem tU {fp:List Addr}{h:Heap}{p:Addr×Obj}(hp:p∈kX fp h):p.1∈fp/\h.get? p.1=some p.2:=by
 obtain⟨b,hb,e⟩:=List.mem_filterMap.mp hp;cases q:h.get? b with
 |none=>rw[q] at e;cases e
 |some o =>
  rw[q] at e;have e':(b,o)=p:=br e;subst e';exact⟨hb,q⟩
theorem Inv.pinned {pins:List (Addr×Obj)}{σ:St}{H:Hp}{s:Shared}{fp:List Addr}(I:Inv X pins σ H s)(hf:∀ b∈fp,jJ X pins H b)(ho:∀ b∈fp,∃ o,s.heap.get? b=some o/\∀ v,o.data≠.cell v):Inv X (pins++kX fp s.heap) σ H s :=
 I.pins_of fun p hp=>(List.mem_append.mp hp).elim (fun z=>I.pin p (ao _ z)) fun z=>by
  obtain⟨hb,e⟩:=tU z;obtain⟨f0,f1,f2,_⟩:=hf p.1 hb;obtain⟨o,e',d⟩:=ho p.1 hb;rw[e] at e';cases e';exact⟨e,f0,f1,f2,d⟩
theorem Inv.unpinned {pins pl:List (Addr×Obj)}{σ:St}{H:Hp}{s:Shared}(I:Inv X (pins++pl) σ H s):Inv X pins σ H s:=I.pins_of fun p hp=>I.pin p (ao _ (ay _ hp))
theorem CP {iter:Expr}{body:List Stmt}{wi:TI}{g:TG}{tb:TS}{pos:Pos}(hp:PassesOwn (model X.prog X.w) X.A X.env X.xe)(hc:X.calm=true)(hi:PI X tg iter wi)(hg:PG X tg g)(hb:iG X body tb)
  (hs:∀ x,foldedSetIterable iter X.env x=pure x:=by intro _;rfl):PS X (.For tg iter body [] pos) (tFor wi g tb):=by
 intro pins s σ H D I h;refine wpAny_For (cC (hi pins s σ H _ I h) fun v s1 h1=>cC h1 fun itv s2 h2=>?_) hs;obtain⟨it,fp,tn,J,H2,e,I2,T,st2,f2,W,⟨m0,w0⟩,turn⟩:=h2;subst e;have stat:∀{H':Hp},(∀ b∈fp,H' b=none)->∀ b∈fp,jJ X pins H' b:=fun hn b hb=>⟨hn b hb,(f2 b hb).2⟩
 refine codeAny_forLoop_any (fun n s'=>∃ i σ' H',Inv X pins σ' H' s'/\tn i s'.heap/\(∀ b∈fp,H' b=none)/\W i n σ' H') ?_ m0 ⟨0,σ,H2,I2,st2,fun b hb=>(f2 b hb).1,w0⟩;rintro n s3 ⟨i,σ3,H3,I3,st3,fr3,w3⟩;rcases turn i n σ3 H3 w3 with ⟨stop,qn⟩ | ⟨go,N,hN,step⟩
 ·refine wpAny_passesOwn hp (cC (T.done X rfl rfl rfl hc i pins s3 σ3 H3 X.xe I3 (stat fr3) st3 stop) fun r s4 ⟨hr,I4⟩=>?_);subst hr;exact wpAny_execs_nil ⟨σ3,H3,I4,qn⟩
 ·refine wpAny_passesOwn hp (cC (T.item X rfl rfl rfl hc i pins s3 σ3 H3 X.xe I3 (stat fr3) st3 go) fun r s4 ⟨u,hr,h4⟩=>?_);subst hr;refine wpAny_passesOwn hp (cC h4 fun _ s5 ⟨x,H5,I5,r5,y5,st5,fr5⟩=>?_);have I5':=I5.pinned (stat fr5) (T.obj _ _ st5);refine wpAny_passesOwn hp (cC (hg _ s5 σ3 H5 x u _ I5' r5 (step x H5 y5)) fun _ s6 ⟨σ6,H6,I6,q6⟩=>?_);refine wpAny_passesOwn hp (cC (hb _ s6 σ6 H6 _ I6 q6) fun f s7 q7=>?_);have again:∀{σ7:St}{H7:Hp},Inv X (pins++kX fp s5.heap) σ7 H7 s7->N σ7 H7->∃ m,m<n/\∃ i σ' H',Inv X pins σ' H' s7/\tn i s7.heap/\(∀ b∈fp,H' b=none)/\W i m σ' H':=fun {σ7 H7} I7 n7=>by
   obtain⟨m',hm,w7⟩:=hN σ7 H7 n7;refine⟨m',hm,i+1,σ7,H7,I7.unpinned,T.keep _ _ _ st5 fun b hb o e=>(I7.pin (b,o) (ao _ (ao _ (eE hb e)))).1,fun b hb=>?_,w7⟩;obtain⟨o,e,d⟩:=T.obj _ _ st5 b hb;exact (I7.pin (b,o) (ao _ (ao _ (eE hb e)))).2.1
  cases f with
  |next=>obtain⟨σ7,H7,I7,n7⟩:=q7;exact again I7 n7
  |cont=>obtain⟨σ7,H7,I7,n7⟩:=q7;exact again I7 n7
  |brk=>obtain⟨σ7,H7,I7,q7⟩:=q7;exact⟨σ7,H7,I7.unpinned,q7⟩
  |ret v=>obtain⟨x7,σ7,H7,I7,r7,q7⟩:=q7;exact⟨x7,σ7,H7,I7.unpinned,r7,q7⟩
end
end L2
namespace L2
open PySem PySem.Spec PyProof.Rows
noncomputable abbrev R2:=V->V->Hp->VK->Prop
noncomputable def kS (X:Cx)(f:Value->Value->Sem Value)(r:R2):Prop :=
 ∀(pins:List (Addr×Obj)) (s:Shared) (σ:St) (H:Hp) (x y:V) (v u:Value) (Q:VK),Inv X pins σ H s->RelV x v->RelV y u->r x y H Q ->
  wpAny (model X.prog X.w) X.A (f v u) (EP X pins σ Q) X.xe s
noncomputable def UnR (X:Cx)(f:Value->Sem Value)(r:V->Hp->VK->Prop):Prop :=
 ∀(pins:List (Addr×Obj)) (s:Shared) (σ:St) (H:Hp) (x:V) (v:Value) (Q:VK),Inv X pins σ H s->RelV x v->r x H Q ->
  wpAny (model X.prog X.w) X.A (f v) (EP X pins σ Q) X.xe s
noncomputable def eL (X:Cx)(f:Value)(r:List V->Hp->VK->Prop):Prop :=
 ∀(pins:List (Addr×Obj)) (s:Shared) (σ:St) (H:Hp) (xs:List V) (us:List Value) (Q:VK),Inv X pins σ H s->aL xs us->r xs H Q ->
  wpAny (model X.prog X.w) X.A (call f us) (EP X pins σ Q) X.xe s
noncomputable def TruR (X:Cx)(r:V->Hp->(Bool->Hp->Prop)->Prop):Prop :=
 ∀(pins:List (Addr×Obj)) (s:Shared) (σ:St) (H:Hp) (x:V) (v:Value) (Q:Bool->Hp->Prop),Inv X pins σ H s->RelV x v->r x H Q ->
  wpAny (model X.prog X.w) X.A (truthy v) (TP X pins σ Q) X.xe s
def DU (r:R2)(ta tb:TE):TE:=fun σ H Q=>ta σ H fun x H1=>tb σ H1 fun y H2=>r x y H2 Q
def tUn (r:V->Hp->VK->Prop)(ta:TE):TE:=fun σ H Q=>ta σ H fun x H1=>r x H1 Q
noncomputable def rI (C:Int->Int->Prop)(g:Int->Int->V):R2:=fun x y H Q=>∃ i j,x = .int i/\y = .int j/\C i j/\Q (g i j) H
noncomputable def zc (g:Int->Int->V):R2:=fun x y H Q=>∃ i j,x = .int i/\y = .int j/\Q (g i j) H
def rU (g:Int->V):V->Hp->VK->Prop:=fun x H Q=>∃ i,x = .int i/\Q (g i) H
section
variable {X:Cx}{a b c:Expr}{ta tb tc:TE}{pos:Pos}
theorem BC (ha:PE X a ta)(hb:PE X b tb){pins:List (Addr×Obj)}{s:Shared}{σ:St}{H:Hp}{R:V->V->Hp->Prop}(I:Inv X pins σ H s)
  (h:ta σ H fun x H1=>tb σ H1 fun y H2=>R x y H2) {Q:Value->Shared->Prop}{f:Value->Value->Sem Value}
  (hf:∀ v u s2 x y H2,Inv X pins σ H2 s2->RelV x v->RelV y u->R x y H2->wpAny (model X.prog X.w) X.A (f v u) Q X.xe s2) :
  wpAny (model X.prog X.w) X.A (eval a X.env) (fun v s₁=>wpAny (model X.prog X.w) X.A (eval b X.env) (fun u s₂=>wpAny (model X.prog X.w) X.A (f v u) Q X.xe s₂) X.xe s₁) X.xe s:=by
 refine cC (ha pins s σ H _ I h) fun v s1 ⟨x,H1,I1,r1,q1⟩=>?_
 refine cC (hb pins s1 σ H1 _ I1 q1) fun u s2 ⟨y,H2,I2,r2,q2⟩=>?_
 exact hf v u s2 x y H2 I2 r1 r2 q2
theorem AK {op:Operator}{r:R2}(ho:kS X (binaryOp op) r)(ha:PE X a ta)(hb:PE X b tb):PE X (.BinOp a op b pos) (DU r ta tb):=by
 intro pins s σ H Q I h;exact wpAny_BinOp (BC ha hb I h fun v u s2 x y H2 I2 rx ry q=>ho pins s2 σ H2 x y v u Q I2 rx ry q)
theorem Eh {op:UnaryOp}{r:V->Hp->VK->Prop}(ho:UnR X (unaryOp op) r)(ha:PE X a ta):PE X (.UnaryOp op a pos) (tUn r ta):=by
 intro pins s σ H Q I h;exact UnaryOp_ (cC (ha pins s σ H _ I h) fun v s1 ⟨x,H1,I1,r1,q1⟩=>ho pins s1 σ H1 x v Q I1 r1 q1)
theorem opI {f:Value->Value->Sem Value}{C:Int->Int->Prop}{g:Int->Int->Int}
  (rule:∀(i j:Int) (t u:Tok) (s:Shared) (Q:Value->Shared->Prop) (E:Value->Shared->Prop),C i j->Q (.int (g i j) s.toks) { s with toks:=s.toks+1 }->wpAny (model X.prog X.w) X.A (f (.int i t) (.int j u)) Q E s) :
  kS X f (rI C fun i j=>.int (g i j)):=by
 intro pins s σ H x y v u Q I rx ry h;obtain⟨i,j,rfl,rfl,hc,q⟩:=h;obtain⟨t,rfl⟩:=rx;obtain⟨t',rfl⟩:=ry;exact rule i j t t' s _ _ hc ⟨.int (g i j),H,I.tok _,⟨_,rfl⟩,q⟩
theorem EK {f:Value->Value->Sem Value}{g:Int->Int->Int}
  (rule:∀(i j:Int) (t u:Tok) (s:Shared) (Q:Value->Shared->Prop) (E:Value->Shared->Prop),Q (.int (g i j) s.toks) { s with toks:=s.toks+1 }->wpAny (model X.prog X.w) X.A (f (.int i t) (.int j u)) Q E s) :
  kS X f (zc fun i j=>.int (g i j)):=by
 intro pins s σ H x y v u Q I rx ry h;obtain⟨i,j,rfl,rfl,q⟩:=h;obtain⟨t,rfl⟩:=rx;obtain⟨t',rfl⟩:=ry;exact rule i j t t' s _ _ ⟨.int (g i j),H,I.tok _,⟨_,rfl⟩,q⟩
theorem yH {f:Value->Value->Sem Value}{g:Int->Int->Bool}
  (rule:∀(i j:Int) (t u:Tok) (s:Shared) (Q:Value->Shared->Prop) (E:Value->Shared->Prop),Q (.bool (g i j)) s->wpAny (model X.prog X.w) X.A (f (.int i t) (.int j u)) Q E s) :
  kS X f (zc fun i j=>.bl (g i j)):=by
 intro pins s σ H x y v u Q I rx ry h;obtain⟨i,j,rfl,rfl,q⟩:=h;obtain⟨t,rfl⟩:=rx;obtain⟨t',rfl⟩:=ry;exact rule i j t t' s _ _ ⟨.bl (g i j),H,I,rfl,q⟩
def CDiv (i j:Int):Prop:=0<j/\j<1073741824
def yR (i j:Int):Prop:=(-(2 ^ 64)<i/\i<2 ^ 64)\/(-(2 ^ 64)<j/\j<2 ^ 64)
theorem yR.ok {i j:Int}(h:yR i j):IntMulOk i j:=by
 rcases h with ⟨h1,h2⟩ | ⟨h1,h2⟩
 ·exact .of_left (intBits_le_64 h1 h2)
 ·exact .of_right (intBits_le_64 h1 h2)
theorem BY:kS X (binaryOp .Add) (zc fun i j=>.int (i+j)):=EK fun _ _ _ _ _ _ _ q=>add_int q
theorem BQ:kS X (binaryOp .Sub) (zc fun i j=>.int (i - j)):=EK fun _ _ _ _ _ _ _ q=>sub_int q
theorem CZ:kS X (binaryOp .Mult) (rI yR fun i j=>.int (i*j)):=opI fun _ _ _ _ _ _ _ hc q=>mul_int q hc.ok
theorem zJ:kS X (binaryOp .FloorDiv) (rI CDiv fun i j=>.int (i / j)):=opI fun i j _ _ _ _ _ hc q=>by
 have h1:(0:Int)<j:=hc.1;have h2:j<1073741824:=hc.2;exact floordiv_int (by omega) (by rw[Int.fdiv_eq_ediv_of_nonneg i (by omega)];exact q) (.inl (PyProof.noPylong_small (by omega)))
theorem Cr:kS X (binaryOp .Mod) (rI (fun _ j=>0<j) fun i j=>.int (i%j)):=opI fun i j _ _ _ _ _ hc q=>by
 have h1:(0:Int)<j:=hc;exact mod_int' (by omega) (by rw[Int.fmod_eq_emod_of_nonneg i (by omega)];exact q)
theorem unI {f:Value->Sem Value}{g:Int->Int}
  (rule:∀(i:Int) (t:Tok) (s:Shared) (Q:Value->Shared->Prop) (E:Value->Shared->Prop),Q (.int (g i) s.toks) { s with toks:=s.toks+1 }->wpAny (model X.prog X.w) X.A (f (.int i t)) Q E s) :
  UnR X f (rU fun i=>.int (g i)):=by
 intro pins s σ H x v Q I rx h;obtain⟨i,rfl,q⟩:=h;obtain⟨t,rfl⟩:=rx;exact rule i t s _ _ ⟨.int (g i),H,I.tok _,⟨_,rfl⟩,q⟩
theorem A6:UnR X (unaryOp .USub) (rU fun i=>.int (-i)):=unI fun _ _ _ _ _ q=>neg_int q
end
section
variable {X:Cx}{a b c:Expr}{ta tb tc:TE}{pos:Pos}
theorem Bv {pins:List (Addr×Obj)}{σ:St}{H:Hp}{s:Shared}{Q:VK}{k k':Bool}(I:Inv X pins σ H s)(q:Q (.bl k) H)(e:k=k'):EP X pins σ Q (.bool k') s:=by
 subst e;exact⟨.bl k,H,I,rfl,q⟩
theorem EO:kS X (compareOp .Lt) (zc fun i j=>.bl (decide (i<j))):=yH fun _ _ _ _ _ _ _ q=>lt_int q
theorem DA:kS X (compareOp .LtE) (zc fun i j=>.bl (decide (i<=j))):=yH fun _ _ _ _ _ _ _ q=>le_int q
theorem Ew:kS X (compareOp .Gt) (zc fun i j=>.bl (decide (j<i))):=yH fun _ _ _ _ _ _ _ q=>gt_int q
theorem Dr:kS X (compareOp .GtE) (zc fun i j=>.bl (decide (j<=i))):=yH fun _ _ _ _ _ _ _ q=>ge_int q
theorem BU:kS X (compareOp .Is) (fun x y H Q=>y = .non/\Q (.bl (decide (x = .non))) H):=by
 intro pins s σ H x y v u Q I rx ry h;obtain⟨rfl,q⟩:=h;cases ry;refine is_none_gen (Bv I q ?_);cases x<;>first
  | (cases rx;rfl)
  | (obtain⟨t,rfl⟩:=rx;rfl)
theorem yT {op:CmpOp}{r:R2}(ho:kS X (compareOp op) r)(ha:PE X a ta)(hb:PE X b tb)(hm:behindInMarks op b=false):PE X (.Compare a [op] [b] pos) (DU r ta tb):=by
 intro pins s σ H Q I h;exact wpAny_Compare1 (BC ha hb I h fun v u s2 x y H2 I2 rx ry q=>ho pins s2 σ H2 x y v u Q I2 rx ry q) hm
def E1 (t:TE):TT:=fun σ H Q=>t σ H fun x H'=>∃ k,x = .bl k/\Q k H'
theorem x8 {op:CmpOp}{r:R2}(ho:kS X (compareOp op) r)(ha:PE X a ta)(hb:PE X b tb)(hm:behindInMarks op b=false):PT X (.Compare a [op] [b] pos) (E1 (DU r ta tb)):=by
 intro pins s σ H Q I h;refine wpAny_isTrue_Compare1 (cC (ha pins s σ H _ I h) fun v s1 ⟨x,H1,I1,r1,q1⟩=>cC (hb pins s1 σ H1 _ I1 q1) fun u s2 ⟨y,H2,I2,r2,q2⟩ =>
  cC (ho pins s2 σ H2 x y v u _ I2 r1 r2 q2) fun c s3 ⟨z,H3,I3,r3,k,e,q3⟩=>?_) hm
 subst e;cases r3;exact wpAny_truthy_bool ⟨H3,I3,q3⟩
noncomputable def B3 (K:PySem.W.Frag)(x:V)(H:Hp)(k:Bool):Prop :=
 match x with
 |.non=>k=false
 |.bl b=>k=b
 |.int i=>k=(i != 0)
 |.str y=>y.length<=sizeLine/\k=((y.length:Int) != 0)
 |.byt y=>y.size<=sizeLine/\k=((y.size:Int) != 0)
 |.ref p=>(∃ xs,mD K H p xs/\k = !xs.isEmpty)\/(∃ xs,jm K H p xs/\k = !xs.isEmpty)\/∃ kvs,H p=some (.dK kvs)/\k = !kvs.isEmpty
 |_=>False
theorem qU {κ:Type}{kvs:List (κ×V)}{vs:List (κ×Value)}(r:KV kvs vs):(!vs.isEmpty) = !kvs.isEmpty:=by
 cases r<;>rfl
theorem kK {xs:List V}{its:List Value}(r:aL xs its):(!its.toArray.isEmpty) = !xs.isEmpty:=by
 cases r<;>simp
theorem lb:(sizeLine:Nat)<2 ^ 63:=by rw[sizeLine_eq];decide
theorem Bm:TruR X (fun x H Q=>∃ k,B3 X.K x H k/\Q k H):=by
 intro pins s σ H x v Q I rx h;obtain⟨k,e,q⟩:=h;have hl:=lb;have hs:sizeLine=16777216:=sizeLine_eq;cases x with
 |non =>
  cases rx;have e':k=false:=e;subst e';exact truthy_none ⟨H,I,q⟩
 |bl b =>
  cases rx;have e':k=b:=e;subst e';exact wpAny_truthy_bool ⟨H,I,q⟩
 |int i =>
  obtain⟨t,rfl⟩:=rx;have e':k=(i != 0):=e;subst e';exact PySem.P.truthy_int ⟨H,I,q⟩
 |str y =>
  obtain⟨t,rfl⟩:=rx;obtain⟨hy,e'⟩:y.length<=sizeLine/\k=((y.length:Int) != 0):=e;subst e';exact PySem.P.truthy_str (by omega) ⟨H,I.tok _,q⟩
 |byt y =>
  obtain⟨t,rfl⟩:=rx;obtain⟨hy,e'⟩:y.size<=sizeLine/\k=((y.size:Int) != 0):=e;subst e';exact PySem.W.truthy_bytes (by omega) ⟨H,I.tok _,q⟩
 |ref p =>
  cases rx;have e':(∃ xs,mD X.K H p xs/\k = !xs.isEmpty)\/(∃ xs,jm X.K H p xs/\k = !xs.isEmpty)\/∃ kvs,H p=some (.dK kvs)/\k = !kvs.isEmpty:=e;rcases e' with ⟨xs,hx,e'⟩ | ⟨xs,hx,e'⟩ | ⟨kvs,hx,e'⟩
  ·subst e';obtain⟨its,r,pl,hz⟩:=I.list hx;have hlen:=r.length;exact wpAny_truthy_list pl.isList (by simp only[List.size_toArray];omega) ⟨H,I.tok _,by rw[kK r];exact q⟩
  ·subst e';obtain⟨its,r,pl,hz⟩:=I.tuple hx;have hlen:=r.length;exact truthy_tuple pl (by simp only[List.size_toArray];omega) ⟨H,I.tok _,by rw[kK r];exact q⟩
  ·subst e';obtain⟨hz,hS,vs,r,m⟩:kvs.length<=sizeLine/\(p==sysModules)=false/\∃ vs,KV kvs vs/\s.heap.DictOf (cJ X.prog X.w) p vs:=I.hok p _ hx;have hlen:kvs.length=vs.length:=Paired.length r;exact wpAny_truthy_dict hS m (by omega) ⟨H,I.tok _,by rw[qU r];exact q⟩
 |_=>exact (show False from e).elim
theorem xk (ha:PE X a ta)(he:∀ whole,isTrue a X.env whole=(do let v <- whole;standAt a.pos;holding [v] (truthy v))) :
  PT X a (fun σ H Q=>ta σ H fun x H'=>∃ k,B3 X.K x H' k/\Q k H'):=by
 intro pins s σ H Q I h;exact isTrue_plain (cC (ha pins s σ H _ I h) fun v s1 ⟨x,H1,I1,r1,q1⟩=>Bm pins s1 σ H1 x v Q I1 r1 q1) (he _)
theorem vals1 {x:V}{us:List Value}(r:aL [x] us):∃ u,us=[u]/\RelV x u:=by
 cases r with
 |cons r1 r2=>cases r2;exact⟨_,rfl,r1⟩
theorem vals2 {x y:V}{us:List Value}(r:aL [x,y] us):∃ u w',us=[u,w']/\RelV x u/\RelV y w':=by
 cases r with
 |cons r1 r2 =>
  cases r2 with
  |cons r3 r4=>cases r4;exact⟨_,_,rfl,r1,r3⟩
theorem uq (hc:X.calm=true):eL X (.builtin "min") (fun xs H Q=>∃ i j,xs=[.int i,.int j]/\Q (.int (if j<i then j else i)) H):=by
 intro pins s σ H xs us Q I r h;obtain⟨i,j,rfl,q⟩:=h;obtain⟨u,w',rfl,⟨t,rfl⟩,⟨t',rfl⟩⟩:=vals2 r;refine min_two_ints (I.ok.hd hc) fun h' tk k=>⟨_,H,I.kept k,?_,q⟩
 by_cases hj:j<i
 ·rw[if_pos hj,if_pos hj];exact⟨_,rfl⟩
 ·rw[if_neg hj,if_neg hj];exact⟨_,rfl⟩
end
end L2
namespace L2
open PySem PySem.Spec PyProof.Rows
structure ObjM (h:Heap)(x dx C:Addr)(mA:Str->Option Value):Prop where
 obj:h.get? x=some (PySem.W.instObj C dx)
 ns:h.Ns1 dx mA
 ne:dx≠x
section
variable {prog:Program}{w:World}{A:Around}{E:Value->Shared->Prop}{s:Shared}{K:PySem.W.Frag}{x dx C f:Addr}{mA:Str->Option Value}{name:Str}{v:Value}
end
section
variable {P:Program}{w:World}{H H':Hp}{h h':Heap}{a C dx:Addr}{fs fs':List (Str×V)}
end
structure Cls (K:PySem.W.Frag)(C:Addr):Prop where
 pg:PySem.W.plainGet K C Str.empty=true
 hd:PySem.W.hasDictIn K C=true
 po:PySem.W.plainOver K C=true
 sa:PySem.W.findIn K (.ref C) "__setattr__" = some (some (.builtin "object.__setattr__"))
structure Con (K:PySem.W.Frag)(C:Addr)(f:Str)(v:V)(u:Value):Prop where
 at_:PySem.W.findIn K (.ref C) f=some (some u)
 rel:RelV v u
 get:PySem.W.specialIn K u "__get__" = some none
 cp:PySem.W.copiedNames.contains f=false
structure Meth (K:PySem.W.Frag)(C:Addr)(m:Str)(f:Addr):Prop where
 at_:PySem.W.findIn K (.ref C) m=some (some (.ref f))
 fn:PySem.W.isFn K (.ref f)=true
 kp:PySem.W.keepIn K (.ref f)=true
section
variable {X:Cx}{pins:List (Addr×Obj)}{σ:St}{H:Hp}{s:Shared}{a C dx:Addr}{fs:List (Str×V)}{f:Str}{v:V}{A:Around}{E:Value->Shared->Prop}
end
section
variable {X:Cx}{o e value:Expr}{f:Str}{pos pos' tpos:Pos}{ta tv:TE}
end
section
variable {X:Cx}{pins:List (Addr×Obj)}{σ:St}{H:Hp}{s:Shared}{A:Around}{E:Value->Shared->Prop}{Q:Value->Shared->Prop}{c:Value}{b:Bool}
inductive ke (K:PySem.W.Frag) (H:Hp):V->Value->Prop where
 | non:ke K H .non (.type "NoneType")
 | bl (x:Bool):ke K H (.bl x) (.type "bool")
 | int (i:Int):ke K H (.int i) (.type "int")
 | str (x:Str):ke K H (.str x) (.type "str")
 | flt (x:UInt64):ke K H (.flt x) (.type "float")
 | lst {a:Addr}{xs:List V}(e:H a=some (.lst xs)):ke K H (.ref a) (.type "list")
 | frz {a:Addr}{o:Obj}{xs:List V}(e:H a=some (.frz o (.lst xs))):ke K H (.ref a) (.type "list")
 | tup {a:Addr}{xs:List V}(e:H a=some (.tup xs)):ke K H (.ref a) (.type "tuple")
 | dK {a:Addr}{kvs:List (Key×V)}(e:H a=some (.dK kvs)):ke K H (.ref a) (.type "dict")
 | dT {a:Addr}{kvs:List (List Key×V)}(e:H a=some (.dT kvs)):ke K H (.ref a) (.type "dict")
 | ins {a C dx:Addr}{fs:List (Str×V)}(e:H a=some (.ins C dx fs)) (cl:Cls K C) (ha:PySem.W.findIn K (.ref C) "__class__" = some (some (.builtin "object.__class__")))
   (hn:PySem.W.specialIn K (.builtin "object.__class__") "__get__" = some (some (.builtin "getset_descriptor.__get__"))) (htk:PySem.W.takesIn K (.builtin "object.__class__")=some true)
   (hm:PySem.W.mroIn K C (.type "object")=some true):ke K H (.ref a) (.ref C)
end
end L2
namespace L2
open PySem PySem.Spec PyProof.Rows
structure eM (k:Nat)(A:Around):Prop where
 hd:A.handled=none
 dp:A.depth+3*k+5<recursionLimit
 un:A.units+16*k+200<cLine
theorem eM.deeper {k:Nat}{A:Around}(r:eM (k+1) A)(env:Env):eM k (A.deeper env) :=
 ⟨r.hd,by have:=r.dp;show A.depth+1+3*k+5<_;omega,by have:=r.un;show A.units+3+16*k+200<_;omega⟩
theorem eM.depth {k:Nat}{A:Around}(r:eM k A):A.depth<recursionLimit:=by have:=r.dp;omega
theorem eM.units {k:Nat}{A:Around}(r:eM k A):A.units+64<cLine:=by have:=r.un;omega
def pW:TA:=fun _ H Q=>Q [] H
def dF (ta:TE)(tr:TA):TA:=fun σ H Q=>ta σ H fun x H1=>tr σ H1 fun xs H2=>Q (x::xs) H2
section
variable {X:Cx}{e:Expr}{es:List Expr}{te:TE}{t:TA}{pos:Pos}
theorem eK:PA X [] pW:=fun _ _ _ _ H Q I h=>Calls.spliced_nil ⟨[],H,I,.nil,h⟩
theorem aX (ha:PE X e te)(hr:PA X es t)(hs:starEach (e::es) X.env=(false,eval e X.env)::starEach es X.env:=by rfl):PA X (e::es) (dF te t):=by
 intro pos pins s σ H Q I h;rw[hs];show wpAny _ _ (spliced ((false,eval e X.env)::backTo pos (starEach es X.env))) _ _ s;refine Calls.spliced_cons (cC (ha pins s σ H _ I h) fun u s1 ⟨x,H1,I1,r1,q1⟩=>?_);exact cC (hr pos pins s1 σ H1 _ I1 q1) fun us s2 ⟨xs,H2,I2,r2,q2⟩=>⟨x::xs,H2,I2,.cons r1 r2,q2⟩
def D2 (t:TA):TE:=fun σ H Q=>t σ H fun xs H1=>xs.length<=sizeLine/\∀ p,H1 p=none->Q (.ref p) (upd H1 p (.tup xs))
def tLst (t:TA):TE:=fun σ H Q=>t σ H fun xs H1=>xs.length<=sizeLine/\∀ p,H1 p=none->Q (.ref p) (upd H1 p (.lst xs))
theorem xu {x1}(h:PA X es t):PE X (.Tuple es x1 pos) (D2 t):=by
 intro pins s σ H Q I hq;refine wpAny_Tuple_spliced (cC (h pos pins s σ H _ I hq) fun us s1 ⟨xs,H1,I1,r,z,q⟩=>⟨by rw[<-r.length];exact z,?_⟩);have hf:H1 s1.heap.objs.size=none:=I1.hok.fresh (aj _);refine⟨.ref s1.heap.objs.size,upd H1 s1.heap.objs.size (.tup xs),I1.laid (t':=s1.toks) (fun b u e=>Heap.get?_push_of_some _ e) (aj _) ?_,rfl,q _ hf⟩;exact⟨z,us,r,⟨_,Heap.get?_push_size _ rfl,rfl,_,rfl⟩⟩
theorem wx (h:PA X es t):PE X (.List es pos) (tLst t):=by
 intro pins s σ H Q I hq;refine wpAny_List_spliced (cC (h pos pins s σ H _ I hq) fun us s1 ⟨xs,H1,I1,r,z,q⟩=>⟨by rw[<-r.length];exact z,?_⟩);have hf:H1 s1.heap.objs.size=none:=I1.hok.fresh (aj _);refine⟨.ref s1.heap.objs.size,upd H1 s1.heap.objs.size (.lst xs),I1.laid (t':=s1.toks) (fun b u e=>Heap.get?_push_of_some _ e) (aj _) ?_,rfl,q _ hf⟩;exact⟨z,us,0,r,Heap.get?_push_size _ rfl⟩
end
noncomputable abbrev Sp:=List V->Hp->VK->XK->Prop
noncomputable abbrev qb:=List Env->Hp->Shared->XK->Value->Shared->Prop
structure vv (P:Program)(w:World)(K:PySem.W.Frag)(mg:Str->Option Value)(base:Heap)(A:Around)(outer:List Env)(s:Shared)(H:Hp):Prop where
 frames:A.frames=some outer
 mod:Mod K mg base
 bs:∀ b o,base.get? b=some o->s.heap.get? b=some o/\H b=none
 bsz:base.objs.size<=s.heap.objs.size
 funs:s.heap.FunFrames base outer
 frf:∀ b∈gI outer,H b=none
 hok:hV P w H s.heap
 bare:AllBare s.gens
 jt:JT H
noncomputable def CE (outer:List Env)(P:Program)(w:World)(H:Hp)(s:Shared)(Q:VK)(u:Value)(s':Shared):Prop :=
 ∃ v H',s'.os=s.os/\AllBare s'.gens/\Un (gI outer) [] H H' s.heap s'.heap/\hV P w H' s'.heap/\RelV v u/\Q v H'
noncomputable def CR (CX:qb)(outer:List Env)(P:Program)(w:World)(H:Hp)(s:Shared)(Q:VK)(E:XK)(r:Result)(s':Shared):Prop :=
 match r with
 | .ok (.ret u)=>CE outer P w H s Q u s'
 |.ok _=>False
 |.error e=>CX outer H s E e s'
structure iP (P:Program)(w:World)(K:PySem.W.Frag)(mg:Str->Option Value)(base:Heap)(CX:qb)(k:Nat)(f:Addr)(fd:FuncData)(ps:List Str)(sp:Sp):Prop where
 len:∀ vs H Q E,sp vs H Q E->vs.length=ps.length
 run:∀(A:Around) (outer:List Env) (s:Shared) (H:Hp) (args:Args) (us:List Value) (vs:List V) (Q:VK) (E:XK),eM k A->vv P w K mg base A outer s H->BindsTo s fd args (ps.zip us)->aL vs us->sp vs H Q E ->
  codeAny (model P w) A (.call (.ref f) args) (CR CX outer P w H s Q E) s
section
variable {X:Cx}{pins:List (Addr×Obj)}{σ:St}{H:Hp}{s s':Shared}
theorem Inv.env0 (I:Inv X pins σ H s):vv X.prog X.w X.K X.mg X.base X.A X.stack s H :=
 ⟨I.ok.frames,I.ok.mod,I.bs,dg I.ok.bsz I.sz,I.stack,I.stkFree,I.hok,I.bare,I.base.frzs _ _ _ I.ok.jt⟩
theorem Inv.after {Q:VK}{u:Value}(I:Inv X pins σ H s)(h:CE X.stack X.prog X.w H s Q u s'):EP X pins σ Q u s':=by
 obtain⟨v,H',os,bare,un,hok,r,q⟩:=h;obtain⟨hh,g,d,t,os'⟩:=s';obtain rfl:os'=s.os:=os;exact⟨v,H',I.call (h':=hh) (g':=g) (d':=d) (t':=t) (ch:=[]) un hok bare (fun b z=>absurd z (by simp)),r,q⟩
end
def vH (sp:Sp)(dvs:List V)(E:XK)(t:TA):TE:=fun σ H Q=>t σ H fun vs H1=>sp (vs++dvs) H1 Q E
noncomputable def Binds (K:PySem.W.Frag)(fd:FuncData)(ps:List Str)(ds:List Value):Prop :=
 ∀(s:Shared) (us:List Value),K.In s.heap->(us++ds).length=ps.length->BindsTo s fd ⟨us,[]⟩ (ps.zip (us++ds))
theorem Binds.all {K:PySem.W.Frag}{fd:FuncData}{ps:List Str}(h:∀ us:List Value,us.length=ps.length->bindArgs fd ⟨us,[]⟩=pure (ps.zip us)):Binds K fd ps []:=fun s us _ hl=>by
 rw[bc] at hl ⊢;exact .of_eq (h us hl)
def nN (CX:qb)(X:Cx)(E:XK):Prop:=∀(pins:List (Addr×Obj)) (σ:St) (H:Hp) (s:Shared) (e:Value) (s':Shared),Inv X pins σ H s->CX X.stack H s E e s'->X.xe e s'
section
variable {X:Cx}{CX:qb}{k:Nat}{f C:Addr}{fd:FuncData}{ps:List Str}{sp:Sp}{dvs:List V}{ds:List Value}{E:XK}{x m:Str}{p pos apos:Pos}{e o:Expr}{es:List Expr}{ta:TE}{t:TA}
theorem uZ {pins:List (Addr×Obj)}{σ:St}{H:Hp}{s:Shared}{Q:VK}{us:List Value}{vs:List V}(F:iP X.prog X.w X.K X.mg X.base CX k f fd ps sp)(hr:eM k X.A)(hb:Binds X.K fd ps ds)(hd:aL dvs ds)(hx:nN CX X E)
  (I:Inv X pins σ H s) (r:aL vs us) (h:sp (vs++dvs) H Q E):wpAny (model X.prog X.w) X.A (call (.ref f) us) (EP X pins σ Q) X.xe s:=by
 have r2:aL (vs++dvs) (us++ds):=r.append hd;have hl:(us++ds).length=ps.length:=by rw[<-r2.length];exact F.len _ _ _ _ h
 refine wpAny_call (codeAny_mono (F.run X.A X.stack s H ⟨us,[]⟩ (us++ds) (vs++dvs) Q E hr I.env0 (hb s us I.kIn hl) r2 h) fun r s' hq=>?_);cases r with
 |error e=>exact hx pins σ H s e s' I hq
 |ok fl =>
  cases fl with
  |ret u=>exact I.after hq
  |next=>exact False.elim hq
  |brk=>exact False.elim hq
  |cont=>exact False.elim hq
theorem y4 (F:iP X.prog X.w X.K X.mg X.base CX k f fd ps sp)(hr:eM k X.A)(hg:Gl X x)(hm:X.mg x=some (.ref f))(hk:PySem.W.keepIn X.K (.ref f)=true)(hb:Binds X.K fd ps ds)(hd:aL dvs ds)(hx:nN CX X E)
  (ha:PA X (e::es) t) (hdb:(x==("__debug__" : Str))=false:=by decide) (he:starEach (e::es) X.env=(false,eval e X.env)::starEach es X.env:=by rfl) (hpl:(backTo pos (starEach es X.env)).any (·.1)=false:=by rfl) :
  PE X (.Call (.Name x p) (e::es) [] pos) (vH sp dvs E t):=by
 intro pins s σ H Q I h;refine wpAny_Call_Name_kw (gW I hg hm ?_ hdb);refine PySem.W.callWith_K (h₀:=X.base) I.ok.mod.kin hk (cC (ha pos pins s σ H _ I h) fun us s1 ⟨vs,H1,I1,r,q⟩=>⟨I1.kIn,?_⟩) he hpl;exact uZ F hr hb hd hx I1 r q
theorem v9 (F:iP X.prog X.w X.K X.mg X.base CX k f fd ps sp)(hr:eM k X.A)(hg:Gl X x)(hm:X.mg x=some (.ref f))(hk:PySem.W.keepIn X.K (.ref f)=true)(hb:Binds X.K fd ps ds)(hd:aL dvs ds)(hx:nN CX X E)
  (hdb:(x==("__debug__" : Str))=false:=by decide):PE X (.Call (.Name x p) [] [] pos) (vH sp dvs E pW):=by
 intro pins s σ H Q I h;refine wpAny_Call_Name_kw (gW I hg hm ?_ hdb);exact PySem.W.callWith_K0 I.kIn hk (uZ (us:=[]) F hr hb hd hx I .nil h)
structure Mk (K:PySem.W.Frag)(C f:Addr):Prop where
 makes:PySem.W.makesIn K C=true
 init:PySem.W.findIn K (.ref C) "__init__" = some (some (.ref f))
 fn:PySem.W.isFn K (.ref f)=true
 kp:PySem.W.keepIn K (.ref C)=true
end
section
variable {X:Cx}{CX:qb}{k:Nat}{f C:Addr}{fd:FuncData}{ps ks:List Str}{sp:Sp}{E:XK}{x m:Str}{p pos apos kpos:Pos}{e o:Expr}{es:List Expr}{kws:List Keyword}{te ta:TE}{t tk:TA}{nm:Option Str}
structure KBinds (K:PySem.W.Frag)(fd:FuncData)(ps ks:List Str)(g:List Value->List Value->List Value)(gV:List V->List V->List V):Prop where
 to:∀(s:Shared) (us ws:List Value),K.In s.heap->(g us ws).length=ps.length->BindsTo s fd ⟨us,ks.zip ws⟩ (ps.zip (g us ws))
 rel:∀{vs:List V}{us:List Value}{zs:List V}{ws:List Value},aL vs us->aL zs ws->aL (gV vs zs) (g us ws)
variable {g:List Value->List Value->List Value}{gV:List V->List V->List V}
end
structure cW (N P:List Str)(sc:Scope):Prop where
 kind:sc.kind = .function
 co:sc.isCoroutine=false
 gen:sc.isGenerator=false
 nd:N.Nodup
 pre:N.take P.length=P
 par:∀ x∈P,sc.names.lookup x=some .local\/sc.names.lookup x=some .cell
 nofree:∀ y∈sc.names,y.2≠.free
theorem mH {kindOf:Str->Option NameKind}{x:Str}:∀{binds:List (Str×Value)}{m:Str->Option Value},(∀ v,(x,v)∉binds)->bindL kindOf binds m x=m x
 |[],_,_=>rfl
 | (n,v)::r,m,h=>by
  unfold bindL;rw[mH fun w hw=>h w (ag _ hw)];split
  ·have:x≠n:=by rintro rfl;exact h v aq
   simp[this]
  ·rfl
theorem mJ {kindOf:Str->Option NameKind}{x:Str}:∀{binds:List (Str×Value)}{m:Str->Option Value},(∀ v,(x,v)∉binds)->bindC kindOf binds m x=m x
 |[],_,_=>rfl
 | (n,v)::r,m,h=>by
  unfold bindC;rw[mJ fun w hw=>h w (ag _ hw)];split
  ·rfl
  ·have:x≠n:=by rintro rfl;exact h v aq
   simp[this]
theorem lW {kindOf:Str->Option NameKind}{x:Str}{v:Value}:∀{P:List Str}{vs:List Value}{i:Nat}{m:Str->Option Value},P.Nodup->P[i]? = some x->vs[i]? = some v->kindOf x=some .local ->
  bindL kindOf (P.zip vs) m x=some v
 |[],_,_,_,_,h,_,_=>by simp at h
 |_::_,[],_,_,_,_,h,_=>by simp at h
 | p::P,w::vs,0,m,nd,h1,h2,hk=>by
  simp at h1 h2;subst h1;subst h2;show bindL kindOf ((p,w)::P.zip vs) m p=_;unfold bindL;rw[mH fun v hv=>(List.nodup_cons.mp nd).1 (i7 hv).1,if_pos hk];simp
 | p::P,w::vs,i+1,m,nd,h1,h2,hk=>by
  show bindL kindOf ((p,w)::P.zip vs) m x=_;unfold bindL;exact lW (i:=i) (List.nodup_cons.mp nd).2 (by simpa using h1) (by simpa using h2) hk
theorem my {kindOf:Str->Option NameKind}{x:Str}{v:Value}:∀{P:List Str}{vs:List Value}{i:Nat}{m:Str->Option Value},P.Nodup->P[i]? = some x->vs[i]? = some v->kindOf x≠some .local ->
  bindC kindOf (P.zip vs) m x=some v
 |[],_,_,_,_,h,_,_=>by simp at h
 |_::_,[],_,_,_,_,h,_=>by simp at h
 | p::P,w::vs,0,m,nd,h1,h2,hk=>by
  simp at h1 h2;subst h1;subst h2;show bindC kindOf ((p,w)::P.zip vs) m p=_;unfold bindC;rw[mJ fun v hv=>(List.nodup_cons.mp nd).1 (i7 hv).1,if_neg hk];simp
 | p::P,w::vs,i+1,m,nd,h1,h2,hk=>by
  show bindC kindOf ((p,w)::P.zip vs) m x=_;unfold bindC;exact my (i:=i) (List.nodup_cons.mp nd).2 (by simpa using h1) (by simpa using h2) hk
noncomputable def start (N:List Str)(vs:List V):St:=vs.map some++List.replicate (N.length - vs.length) none
noncomputable def eN (CX:qb)(P:Program)(w:World)(K:PySem.W.Frag)(mg:Str->Option Value)(base:Heap)(N:List Str)(qual:Str)(scope:Scope)(f:Addr)(cd:Value)(A:Around)(outer:List Env)(s:Shared)(H:Hp)(E:XK):Cx where
 prog:=P
 w:=w
 K:=K
 mg:=mg
 base:=base
 A:=A.deeper (envOfC qual scope s.heap.objs.size f cd)
 N:=N
 s₀:=s
 H₀:=H
 env:=envOfC qual scope s.heap.objs.size f cd
 outer:=outer
 stack:=envOfC qual scope s.heap.objs.size f cd::outer
 ex:=[]
 calm:=true
 fn:=fun _=>true
 pn:=[]
 xe:=fun e s'=>wpAny (model P w) (A.deeper (envOfC qual scope s.heap.objs.size f cd)) (leaving (envOfC qual scope s.heap.objs.size f cd) e) (fun _ s''=>CX outer H s E e s'') (fun e' s''=>CX outer H s E e' s'') s'
theorem oK {sc:Scope}{n:Nat}{x:Str}(h:sc.names.lookup x=some .cell):∃ c,(cellsFrom n sc.names []).lookup x=some c:=by
 have q:=iz sc.names n [] (.inl h);exact Option.isSome_iff_exists.mp q
theorem lG {CX:qb}{P:Program}{w:World}{K:PySem.W.Frag}{mg:Str->Option Value}{base:Heap}{N ps:List Str}{qual:Str}{scope:Scope}{f:Addr}{cd:Value}{A:Around}{outer:List Env}{s s1:Shared}{H:Hp}{E:XK}{us:List Value}{vs:List V}
  (S:cW N ps scope) (hd:A.handled=none) (e0:vv P w K mg base A outer s H) (hl:vs.length=ps.length) (r:aL vs us)
  (x:InCallC s s.heap.objs.size (bindL (envOfC qual scope s.heap.objs.size f cd).kindOf (ps.zip us) fun _=>none) (cellsFrom (s.heap.objs.size+1) scope.names []) (bindC (envOfC qual scope s.heap.objs.size f cd).kindOf (ps.zip us) fun _=>none) s1) :
  Inv (eN CX P w K mg base N qual scope f cd A outer s H E) [] (start N vs) H s1:=by
 have hpl:ps.length<=N.length:=by have:=iu List.length S.pre;rw[eo] at this;omega
 obtain⟨h1,tk,rfl,hk⟩:=x.done;have noA:∀ b:Addr,b∉(eN CX P w K mg base N qual scope f cd A outer s H E).ex:=fun b z=>absurd (show b∈([]:List Addr) from z) (by simp)
 refine⟨⟨e0.mod,S.kind,rfl,rfl,aj _,fun y z c h1 h2=>?_,fun y hy=>?_,fun y c _ h=>?_,fun _=>hd,Around.frames_deeper e0.frames,.inr ⟨rfl,rfl⟩,fun b z=>absurd z (noA b),e0.bs,e0.bsz,fun b _ _=>noA b,fun b z=>absurd z (noA b),e0.funs,e0.frf,e0.jt⟩,
  rfl,e0.bare,Un.kept hk,⟨_,x.toInCall.ns,fun i y v h1 h2 h3=>?_⟩,fun y c h=>⟨_,x.cell y c h⟩,e0.hok.fresh (Nat.le_refl _),fun y c h=>?_,fun p hp=>absurd (show p∈([]:List (Addr×Obj)) from hp) (by simp),e0.hok.kept hk,?_⟩
 ·exact name_of_addr x.apart (bt h1) (bt h2)
 ·have hy:scope.names.lookup y=some .cell\/scope.names.lookup y=some .free:=hy;rcases hy with hy | hy
  ·exact oK hy
  ·exact absurd rfl (S.nofree _ (bt hy))
 ·exact gp (x.above y c (bt h))
 ·have hi:i<vs.length:=by
   unfold start at h2;by_cases hi:i<vs.length
   ·exact hi
   ·rw[List.getElem?_append_right (by simpa using hi)] at h2;rw[List.getElem?_replicate] at h2;split at h2<;>cases h2
  have ha:vs[i]? = some v:=by
   unfold start at h2;rw[List.getElem?_append_left (by simpa using hi),List.getElem?_map] at h2;cases e:vs[i]? with
   |none=>rw[e] at h2;cases h2
   |some a=>rw[e] at h2;cases h2;rfl
  obtain⟨u,hu,rv⟩:=r.get ha;have hp:ps[i]? = some y:=by
   rw[<-S.pre,List.getElem?_take_of_lt (by omega)];exact h1
  have ndP:ps.Nodup:=by rw[<-S.pre];exact S.nd.sublist (List.take_sublist _ _)
  refine⟨u,rv,?_⟩;rcases S.par y (List.mem_of_getElem? hp) with k | k
  ·exact .inl ⟨k,lW ndP hp hu k⟩
  ·obtain⟨c,e⟩:=oK (n:=s.heap.objs.size+1) k;refine .inr ⟨.inl k,c,e,?_⟩;have q:=x.cell y c e;rw[my ndP hp hu (by show scope.names.lookup y≠_;rw[k];decide)] at q;exact q
 ·exact e0.hok.fresh (gp (x.above y c (bt h)))
 ·unfold start;show _=N.length;rw[dk,ai,ft];omega
theorem AA {CX:qb}{P:Program}{w:World}{K:PySem.W.Frag}{mg:Str->Option Value}{base:Heap}{k:Nat}{f:Addr}{name qual:Str}{params:Arguments}{body:List Stmt}{scope:Scope}{dV kV doc pm cdv ct oc:Value}{an od:Option Addr}
  {osl:Array (Option Value)}{N ps:List Str}{sp:Sp}(lk:K.lookup f=some ⟨oc,od,.func (PySem.W.fnOf name qual params body scope dV kV doc pm an cdv ct),osl⟩) (hcd:PySem.W.codeIn K cdv qual=true) (S:cW N ps scope)
  (len:∀ vs H Q E,sp vs H Q E->vs.length=ps.length)
  (hbody:∀(A:Around) (outer:List Env) (s:Shared) (H:Hp) (vs:List V) (Q:VK) (E:XK),eM k (A.deeper (envOfC qual scope s.heap.objs.size f cdv))->sp vs H Q E ->
   ∃ t,iG (eN CX P w K mg base N qual scope f cdv A outer s H E) body t/\t { nx:=fun _ H'=>Q .non H',rt:=Q } (start N vs) H) :
  iP P w K mg base CX (k+1) f (PySem.W.fnOf name qual params body scope dV kV doc pm an cdv ct) ps sp:=by
 refine⟨len,fun A outer s H args us vs Q E hr e0 hb r hsp=>?_⟩;have hl:=len _ _ _ _ hsp;have KX:K.In s.heap:=e0.mod.kin.keeps fun b o e=>(e0.bs b o e).1
 have lim:s.heap.NoLimit:=e0.mod.nolimit.keeps fun b o e=>(e0.bs b o e).1
 have hkind:∀ y∈ps.zip us,scope.names.lookup y.1=some .local\/(scope.names.lookup y.1=some .cell/\((cellsFrom (s.heap.objs.size+1) scope.names []).lookup y.1).isSome=true):=fun ⟨n,v⟩ hy=>by
  rcases S.par n (i7 hy).1 with q | q
  ·exact .inl q
  ·exact .inr ⟨q,iz _ _ _ (.inl q)⟩
 refine codeAny_call_function hr.depth (KX _ _ lk) rfl S.co S.gen rfl (PySem.W.codeRec_of KX hcd) (hb _ _ _ _ ?_);refine wpAny_newFunctionEnv_cells S.kind hkind fun env he s1 x=>?_
 subst he;refine⟨lim.keeps x.toInCall.keep,codeAny_func ?_⟩;obtain⟨t,ht,hq⟩:=hbody A outer s H vs Q E (hr.deeper _) hsp;have I:Inv (eN CX P w K mg base N qual scope f cdv A outer s H E) [] (start N vs) H s1:=lG S hr.hd e0 hl r x;refine wpAny_mono (ht [] s1 (start N vs) H _ I hq) (fun fl s' hs=>?_) fun e s' hs=>hs
 have fin:∀{σ':St}{H':Hp}{v:V}{u:Value},Inv (eN CX P w K mg base N qual scope f cdv A outer s H E) [] σ' H' s'->RelV v u->Q v H'->CE outer P w H s Q u s' :=
  fun {σ' H' v u} J rv q=>⟨v,H',J.os,J.bare,J.base,J.hok,rv,q⟩
 cases fl with
 |ret u =>
  obtain⟨v,σ',H',J,rv,q⟩:=hs;exact fin J rv q
 |next =>
  obtain⟨σ',H',J,q⟩:=hs;exact fin (v:=V.non) (u:=Value.none) J rfl q
 |brk =>
  obtain⟨_,_,_,q⟩:=hs;exact False.elim q
 |cont =>
  obtain⟨_,_,_,q⟩:=hs;exact False.elim q
end L2
namespace L2
open PySem PySem.Spec PyProof.Rows
section
variable {X:Cx}{x:Str}{p pos:Pos}{e:Expr}{es:List Expr}{t:TA}{id T:String}{r:List V->Hp->VK->Prop}
def AZ (r:List V->Hp->VK->Prop)(t:TA):TE:=fun σ H Q=>t σ H fun vs H1=>r vs H1 Q
theorem fH (hc:eL X (.builtin id) r)(hg:Gl X x)(hm:X.mg x=none)(hv:bootBuiltins x=some (.builtin id))(ha:PA X (e::es) t)(hn:x≠"__name__":=by decide) (hdb:(x==("__debug__" : Str))=false:=by decide)
  (he:starEach (e::es) X.env=(false,eval e X.env)::starEach es X.env:=by rfl) (hpl:(backTo pos (starEach es X.env)).any (·.1)=false:=by rfl):PE X (.Call (.Name x p) (e::es) [] pos) (AZ r t):=by
 intro pins s σ H Q I h;refine wpAny_Call_Name_kw (eI I hg hm hv ?_ hn hdb);exact PyProof.Rows.callWith_builtin1 (cC (ha pos pins s σ H _ I h) fun us s1 ⟨vs,H1,I1,r1,q1⟩=>hc pins s1 σ H1 vs us Q I1 r1 q1) he hpl
theorem tJ (hc:eL X (.type T) r)(hg:Gl X x)(hm:X.mg x=none)(hv:bootBuiltins x=some (.type T))(ha:PA X (e::es) t)(hn:x≠"__name__":=by decide) (hdb:(x==("__debug__" : Str))=false:=by decide)
  (he:starEach (e::es) X.env=(false,eval e X.env)::starEach es X.env:=by rfl) (hpl:(backTo pos (starEach es X.env)).any (·.1)=false:=by rfl):PE X (.Call (.Name x p) (e::es) [] pos) (AZ r t):=by
 intro pins s σ H Q I h;refine wpAny_Call_Name_kw (eI I hg hm hv ?_ hn hdb);exact bz (cC (ha pos pins s σ H _ I h) fun us s1 ⟨vs,H1,I1,r1,q1⟩=>hc pins s1 σ H1 vs us Q I1 r1 q1) he hpl
end
end L2
namespace HT
open PySem PyProof.Rows
section
open PySem.SeqAt
open PySem.AutoSeq1 (wpAny_loadPart')
open PySem.MeetsSeq PySem.MeetsSeq2 PySem.MeetsSeq3
end
section
variable {prog:Program}{w:World}{A:Around}{E:Value->Shared->Prop}{s:Shared}
noncomputable def iH (n d:Nat):Option Int->Nat
 |none=>d
 |some v=>if v<0 then (v+(n:Int)).toNat else min v.toNat n
theorem we (n d:Nat):iH n d none=d:=rfl
theorem yZ (n d k:Nat):iH n d (some (k:Int))=min k n:=by
 show (if (k:Int)<0 then ((k:Int)+(n:Int)).toNat else min (k:Int).toNat n)=min k n;rw[if_neg (by omega),dh]
end
end HT
namespace L2
open PySem PySem.Spec PyProof.Rows
noncomputable abbrev TO:=St->Hp->(Option Int->Hp->Prop)->Prop
noncomputable def PO (X:Cx)(e:Option Expr)(t:TO):Prop :=
 ∀(pins:List (Addr×Obj)) (s:Shared) (σ:St) (H:Hp) (Q:Option Int->Hp->Prop),Inv X pins σ H s->t σ H Q ->
  wpAny (model X.prog X.w) X.A (evalPart e X.env) (fun u s'=>∃ o H',Inv X pins σ H' s'/\IsPart u o/\Q o H') X.xe s
noncomputable def zi:TO:=fun _ H Q=>Q none H
noncomputable def Ec (t:TE):TO:=fun σ H Q=>t σ H fun x H1=>∃ i,x = .int i/\Q (some i) H1
section
variable {X:Cx}{e:Expr}{te:TE}{lo hi:Option Expr}{tl th:TO}{pos p2:Pos}
theorem sA:PO X none zi:=by
 intro pins s σ H Q I h;rw[evalPart_none];exact wpAny_pure ⟨none,H,I,.none,h⟩
theorem sU (h:PE X e te):PO X (some e) (Ec te):=by
 intro pins s σ H Q I hw;rw[evalPart_some];refine cC (h pins s σ H _ I hw) fun u s1 ⟨x,H1,I1,r1,q1⟩=>?_
 obtain⟨i,rfl,q⟩:=q1;obtain⟨t,rfl⟩:=r1;exact⟨some i,H1,I1,.int i t,q⟩
noncomputable def SlR (X:Cx)(r:V->Option Int->Option Int->Hp->VK->Prop):Prop :=
 ∀(pins:List (Addr×Obj)) (s:Shared) (σ:St) (H:Hp) (x:V) (v vl vu:Value) (lo hi:Option Int) (sl:Addr) (Q:VK),Inv X pins σ H s->RelV x v->s.heap.IsSliceOf sl vl vu .none->IsPart vl lo->IsPart vu hi->r x lo hi H Q ->
  ∃ T id,typeLookup (.type T) "__getitem__" = pure (some (.builtin id))/\s.TypeIs v T/\wpAny (model X.prog X.w) X.A (getItem v (.ref sl)) (EP X pins σ Q) X.xe s
def tSl (r:V->Option Int->Option Int->Hp->VK->Prop)(te:TE)(tl th:TO):TE:=fun σ H Q=>te σ H fun x H1=>tl σ H1 fun l H2=>th σ H2 fun u H3=>r x l u H3 Q
theorem ou {r:V->Option Int->Option Int->Hp->VK->Prop}(hr:SlR X r)(he:PE X e te)(hl:PO X lo tl)(hu:PO X hi th):PE X (.Subscript e (.Slice lo hi none p2) pos) (tSl r te tl th):=by
 intro pins s σ H Q I h;refine Subscript_ (cC (he pins s σ H _ I h) fun v s1 ⟨x,H1,I1,r1,q1⟩=>?_);refine wpAny_Slice (cC (hl pins s1 σ H1 _ I1 q1) fun vl s2 ⟨l,H2,I2,pl,q2⟩=>cC (hu pins s2 σ H2 _ I2 q2) fun vu s3 ⟨u,H3,I3,pu,q3⟩=>?_);rw[evalPart_none];refine wpAny_pure ?_;have I4:Inv X pins σ H3 { s3 with heap:=s3.heap.push { cls:=.type "slice",data:=.fields #[vl,vu,.none] } }:=I3.kept (t':=s3.toks) fun b ob q=>Heap.get?_push_of_some _ q
 obtain⟨T,id,hT,ht,hg⟩:=hr pins { s3 with heap:=s3.heap.push { cls:=.type "slice",data:=.fields #[vl,vu,.none] } } σ H3 x v vl vu l u s3.heap.objs.size Q I4 r1 (Heap.IsSliceOf.new ..) pl pu q3;show wpAny (model X.prog X.w) X.A (subscriptTail e (.Slice lo hi none p2) v (.ref s3.heap.objs.size)) (EP X pins σ Q) X.xe { s3 with heap:=s3.heap.push { cls:=.type "slice",data:=.fields #[vl,vu,.none] } };exact tail_any (ops:=[.ref s3.heap.objs.size,v]) ht hT hg (by with_unfolding_all rfl)
noncomputable def lz (xs:List V)(lo hi:Option Int):List V:=(xs.drop (HT.iH xs.length 0 lo)).take (HT.iH xs.length xs.length hi - HT.iH xs.length 0 lo)
theorem nV (xs:List V)(lo hi:Option Int):(lz xs lo hi).length<=xs.length:=by
 unfold lz;rw[eo,List.length_drop];omega
end
end L2
namespace L2
open PySem PySem.Spec PyProof.Rows
noncomputable def fE (n:Nat)(i:Int):Option Nat:=if 0<=i then (if i<n then some i.toNat else none) else if -(n:Int)<=i then some (i+n).toNat else none
noncomputable def AM {α:Type}(xs:List α)(i:Int):Option α:=(fE xs.length i).bind fun j=>xs[j]?
theorem rN {n:Nat}{i:Int}{j:Nat}(h:fE n i=some j):seqIndex? i n=some j/\j<n/\-(n:Int)<=i/\i<n:=by
 unfold fE at h;by_cases h0:0<=i
 ·rw[if_pos h0] at h;by_cases h1:i<n
  ·rw[if_pos h1] at h;have e:i.toNat=j:=br h;exact⟨by rw[seqIndex_of h0 h1,e],by omega,by omega,h1⟩
  ·rw[if_neg h1] at h;cases h
 ·rw[if_neg h0] at h;by_cases h1 : -(n:Int)<=i
  ·rw[if_pos h1] at h;have e:(i+n).toNat=j:=br h;exact⟨by rw[seqIndex_neg (by omega) h1,e],by omega,h1,by omega⟩
  ·rw[if_neg h1] at h;cases h
theorem sR {α:Type}{xs:List α}{i:Int}{v:α}(h:AM xs i=some v):∃ j,seqIndex? i xs.length=some j/\xs[j]? = some v/\j<xs.length/\-(xs.length:Int)<=i/\i<xs.length:=by
 unfold AM at h;cases e:fE xs.length i with
 |none=>rw[e] at h;cases h
 |some j =>
  rw[e] at h;obtain⟨h1,h2,h3,h4⟩:=rN e;exact⟨j,h1,h,h2,h3,h4⟩
def jW (b:Expr):Prop:=∀ o i,subscripted b false o i=operate [o,i] (getItem o i)
noncomputable def zQ (X:Cx)(r:R2):Prop :=
 ∀(value slice:Expr) (pins:List (Addr×Obj)) (s:Shared) (σ:St) (H:Hp) (x y:V) (v u:Value) (Q:VK),Inv X pins σ H s->RelV x v->RelV y u->r x y H Q ->
  subscripted slice false v u=operate [v,u] (getItem v u)->wpAny (model X.prog X.w) X.A (subscriptTail value slice v u) (EP X pins σ Q) X.xe s
noncomputable def MtR (X:Cx)(id:String)(r:V->List V->Hp->VK->Prop):Prop :=
 ∀(pins:List (Addr×Obj)) (s:Shared) (σ:St) (H:Hp) (x:V) (xs:List V) (v:Value) (us:List Value) (Q:VK),Inv X pins σ H s->RelV x v->aL xs us->r x xs H Q ->
  wpAny (model X.prog X.w) X.A (call (.builtin id) (v::us)) (EP X pins σ Q) X.xe s
section
variable {X:Cx}{a b:Expr}{ta tb:TE}{pos:Pos}
theorem zQ.or {r r':R2}(h:zQ X r)(h':zQ X r'):zQ X (fun x y H Q=>r x y H Q\/r' x y H Q):=by
 intro value slice pins s σ H x y v u Q I rx ry q hs;rcases q with q | q
 ·exact h value slice pins s σ H x y v u Q I rx ry q hs
 ·exact h' value slice pins s σ H x y v u Q I rx ry q hs
theorem z0 {r:R2}(hr:zQ X r)(ha:PE X a ta)(hb:PE X b tb)(hs:jW b):PE X (.Subscript a b pos) (DU r ta tb):=by
 intro pins s σ H Q I h;exact Subscript_ (BC ha hb I h fun v u s2 x y H2 I2 rx ry q=>hr a b pins s2 σ H2 x y v u Q I2 rx ry q (hs _ _))
noncomputable def rIxL (K:PySem.W.Frag):R2:=fun x y H Q=>∃ p xs i v,x = .ref p/\y = .int i/\mD K H p xs/\AM xs i=some v/\Q v H
noncomputable def rIxT (K:PySem.W.Frag):R2:=fun x y H Q=>∃ p xs i v,x = .ref p/\y = .int i/\jm K H p xs/\AM xs i=some v/\Q v H
theorem sW:zQ X (rIxL X.K):=by
 intro value slice pins s σ H x y v u Q I rx ry h hs;obtain⟨p,xs,i,z,rfl,rfl,hq,he,q⟩:=h;cases rx;obtain⟨t,rfl⟩:=ry;obtain⟨its,r,pl,hz⟩:=I.list hq;obtain⟨j,h1,h2,h3,h4,h5⟩:=sR he;obtain⟨w,ew,rw'⟩:=r.get h2;have hl:=r.length;have hn:=lb;have fin:EP X pins σ Q w s:=⟨z,H,I,rw',q⟩;by_cases h0:0<=i
 ·have hj:i.toNat=j:=by
   rw[seqIndex_of h0 h5] at h1;exact br h1
  exact item_listR pl.isList h0 (by omega) (by rw[hj];simpa using ew) fin hs
 ·have hj:(i+(its.toArray.size:Int)).toNat=j:=by
   rw[seqIndex_neg (by omega) h4] at h1;rw[ak,<-hl];exact br h1
  exact subscriptTail_builtinR (x:=w) pl.isList.typeIs slot_list_getitem.lookup
   (wpAny_getItem_list_neg (Q:=fun r s'=>r=w/\EP X pins σ Q r s') pl.isList (by omega) (by rw[List.size_toArray]<;>omega) (by omega) (by rw[hj];simpa using ew) ⟨rfl,fin⟩) hs
theorem wu:zQ X (rIxT X.K):=by
 intro value slice pins s σ H x y v u Q I rx ry h hs;obtain⟨p,xs,i,z,rfl,rfl,hq,he,q⟩:=h;cases rx;obtain⟨t,rfl⟩:=ry;obtain⟨its,r,pl,hz⟩:=I.tuple hq;obtain⟨j,h1,h2,h3,h4,h5⟩:=sR he;obtain⟨w,ew,rw'⟩:=r.get h2;have hl:=r.length;have hn:=lb;have fin:EP X pins σ Q w s:=⟨z,H,I,rw',q⟩;exact subscriptTail_builtinR (x:=w) pl.typeIs slot_tuple_getitem.lookup
  (getItem_tuple (j:=j) (Q:=fun r s'=>r=w/\EP X pins σ Q r s') pl (by omega) (by omega) (by rw[List.size_toArray,<-hl];exact h1) (by simpa using ew) ⟨rfl,fin⟩) hs
theorem qM (its:List Value)(n j:Nat)(u:Value):Obj.mapSeq (·.setIfInBounds j u) { cls:=.type "list",data:=.seq its.toArray n }={ cls:=.type "list",data:=.seq (its.set j u).toArray n }:=by
 simp[Obj.mapSeq]
theorem Inv.lst {pins:List (Addr×Obj)}{σ:St}{H:Hp}{s:Shared}{p:Addr}{xs:List V}(I:Inv X pins σ H s)(h:H p=some (.lst xs)) :
  ∃(its:List Value) (n:Nat),aL xs its/\s.heap.get? p=some { cls:=.type "list",data:=.seq its.toArray n }/\xs.length<=sizeLine:=by
 obtain⟨z,its,n,r,e⟩:=I.hok p _ h;exact⟨its,n,r,e,z⟩
theorem Inv.lstUpd {pins:List (Addr×Obj)}{σ:St}{H:Hp}{s:Shared}{p:Addr}{xs ys:List V}{its its':List Value}{n n':Nat}{f:Obj->Obj}(I:Inv X pins σ H s)(h:H p=some (.lst xs))
  (ho:s.heap.get? p=some { cls:=.type "list",data:=.seq its.toArray n }) (hf:f { cls:=.type "list",data:=.seq its.toArray n }={ cls:=.type "list",data:=.seq its'.toArray n' }) (r:aL ys its') (hz:ys.length<=sizeLine) (t:Nat) :
  Inv X pins σ (upd H p (.lst ys)) { s with heap:=s.heap.update p f,toks:=t }:=by
 have e:(s.heap.update p f).get? p=some { cls:=.type "list",data:=.seq its'.toArray n' }:=by
  rw[Heap.get?_update_self f ho (by rw[hf]<;>rfl),hf]
 refine I.write (x:=p) (e:=p) (by rw[h];trivial) (.inl rfl) (fun b u hb q=>(Heap.get?_update_other _ _ (eg hb)).trans q) ⟨_,e⟩ ?_;exact⟨hz,its',n',r,e⟩
def Ac:V->V->V->Hp->(Hp->Prop)->Prop:=fun o i v H Q=>∃ p xs k j,o = .ref p/\i = .int k/\H p=some (.lst xs)/\fE xs.length k=some j/\Q (upd H p (.lst (xs.set j v)))
theorem set_list:DB X Ac:=by
 intro pins s σ H o i v ov iv u Q I ro ri rv h;obtain⟨p,xs,k,j,rfl,rfl,hp,hj,q⟩:=h;cases ro;obtain⟨t,rfl⟩:=ri;obtain⟨its,n,r,ho,hz⟩:=I.lst hp;obtain⟨h1,h2,h3,h4⟩:=rN hj;have hl:=r.length;have hn:=lb;have I':Inv X pins σ (upd H p (.lst (xs.set j v))) { s with heap:=s.heap.update p (Obj.mapSeq (·.setIfInBounds j u)) } :=
  I.lstUpd hp ho (qM its n j u) (r.set rv j) (by rw[da];exact hz) s.toks
 by_cases h0:0<=k
 ·have hk:k.toNat=j:=by
   rw[seqIndex_of h0 h4] at h1;exact br h1
  exact PySem.W.ki_setAt ho h0 (by omega) (by rw[ak,<-hl];exact h4) (by rw[hk];exact⟨_,I',q⟩)
 ·have hk:(k+(its.toArray.size:Int)).toNat=j:=by
   rw[seqIndex_neg (by omega) h3] at h1;rw[ak,<-hl];exact br h1
  exact PySem.W.ki_setBack ho (by omega) (by rw[ak,<-hl];exact h3) (by omega) (by rw[hk];exact⟨_,I',q⟩)
theorem mW (lo hi:Option Int)(n:Nat):(sliceBounds lo hi none n).1=((HT.iH n 0 lo:Nat):Int)/\(sliceBounds lo hi none n).2.1=((HT.iH n n hi:Nat):Int)/\(sliceBounds lo hi none n).2.2=1:=by
 refine⟨?_,?_,rfl⟩
 ·cases lo with
  |none=>simp[sliceBounds,HT.iH]
  |some i =>
   simp only[sliceBounds,HT.iH,Option.getD_none,show (1:Int) > 0 by decide,if_true];by_cases h:i<0
   ·simp only[h,if_true]<;>omega
   ·simp only[h,if_false]<;>omega
 ·cases hi with
  |none=>simp[sliceBounds,HT.iH]
  |some i =>
   simp only[sliceBounds,HT.iH,Option.getD_none,show (1:Int) > 0 by decide,if_true];by_cases h:i<0
   ·simp only[h,if_true]<;>omega
   ·simp only[h,if_false]<;>omega
theorem lA (its:List Value)(lo hi:Option Int):slicePick its.toArray lo hi none=((its.drop (HT.iH its.length 0 lo)).take (HT.iH its.length its.length hi - HT.iH its.length 0 lo)).toArray:=by
 obtain⟨h1,h2,h3⟩:=mW lo hi its.toArray.size;unfold slicePick;rw[h1,h2,h3];simp only[sliceRange_one,pick_run,List.size_toArray]<;>rfl
def rSlL (K:PySem.W.Frag):V->Option Int->Option Int->Hp->VK->Prop:=fun x lo hi H Q=>∃ a xs,x = .ref a/\mD K H a xs/\∀ p,H p=none->Q (.ref p) (upd H p (.lst (lz xs lo hi)))
theorem rL:SlR X (rSlL X.K):=by
 intro pins s σ H x v vl vu lo hi sl Q I rx hs pl pu h;obtain⟨a,xs,rfl,hx,q⟩:=h;cases rx;obtain⟨its,r,ht,hz⟩:=I.list hx;have hlen:=r.length;refine⟨"list",_,slot_list_getitem.lookup,ht.isList.typeIs,?_⟩;refine wpAny_getItem_list_slice ht.isList hs pl pu .none (by simp) ?_ (by rw[List.size_toArray]<;>omega);rw[lA,<-hlen];refine⟨.ref s.heap.objs.size,_,I.laid (t':=s.toks) (o:=.lst (lz xs lo hi)) (fun b ob q=>Heap.get?_push_of_some _ q) (aj _) ?_,rfl,q _ (I.hok.fresh (aj _))⟩;exact⟨dg (nV xs lo hi) hz,_,0,(r.drop (HT.iH xs.length 0 lo)).take (HT.iH xs.length xs.length hi - HT.iH xs.length 0 lo),Heap.get?_push_size _ rfl⟩
theorem iV:eL X (.builtin "len") (fun xs H Q=>∃ p ys,xs=[.ref p]/\(mD X.K H p ys\/jm X.K H p ys)/\Q (.int ys.length) H):=by
 intro pins s σ H xs us Q I r h;obtain⟨p,ys,rfl,hq,q⟩:=h;obtain⟨u,rfl,rx⟩:=vals1 r;cases rx;have hn:=lb;rcases hq with hq | hq
 ·obtain⟨its,r',pl,hz⟩:=I.list hq;have hlen:=r'.length;exact Calls.call_len_list pl.isList (by simp only[List.size_toArray]<;>omega) ⟨.int ys.length,H,I.tok _,⟨s.toks+1,by rw[List.size_toArray,hlen]⟩,q⟩
 ·obtain⟨its,r',pl,hz⟩:=I.tuple hq;have hlen:=r'.length;exact len_tuple pl (by simp only[List.size_toArray]<;>omega) ⟨.int ys.length,H,I.tok _,⟨s.toks+1,by rw[List.size_toArray,hlen]⟩,q⟩
theorem iR:eL X (.type "list") (fun xs H Q=>∃ p ys,xs=[.ref p]/\(mD X.K H p ys\/jm X.K H p ys)/\∀ l,H l=none->Q (.ref l) (upd H l (.lst ys))):=by
 intro pins s σ H xs us Q I r h;obtain⟨p,ys,rfl,hq,q⟩:=h;obtain⟨u,rfl,rx⟩:=vals1 r;cases rx;have fin:∀(its:List Value),aL ys its->ys.length<=sizeLine->∀(h':Heap) (c':Nat),(∀ b o',s.heap.get? b=some o'->h'.get? b=some o') ->
   h'.get? s.heap.objs.size=some { cls:=.type "list",dict:=none,data:=.seq its.toArray c',slots:=#[] }->EP X pins σ Q (.ref s.heap.objs.size) { s with heap:=h' }:=fun its r' hz h' c' kp e =>
  ⟨.ref s.heap.objs.size,_,I.laid (t':=s.toks) kp (aj _) (show bU X.prog X.w _ h' _ (.lst ys) from ⟨hz,its,c',r',e⟩),rfl,q _ (I.hok.fresh (aj _))⟩
 rcases hq with hq | hq
 ·obtain⟨its,r',pl,hz⟩:=I.list hq;have hlen:=r'.length;obtain⟨o,ho,hc,n,hd⟩:=pl.isList;exact call_list_seq p (.inl rfl) ho hc hd (fun h' c' kp e=>fin its r' hz h' c' kp e) (by simp only[List.size_toArray]<;>omega)
 ·obtain⟨its,r',pl,hz⟩:=I.tuple hq;have hlen:=r'.length;obtain⟨o,ho,hc,n,hd⟩:=pl;exact call_list_seq p (.inr rfl) ho hc hd (fun h' c' kp e=>fin its r' hz h' c' kp e) (by simp only[List.size_toArray]<;>omega)
def tyV (K:PySem.W.Frag)(T:String)(x:V)(H:Hp):Prop:=match x with
 |.str _=>T = "str"
 |.int _=>T = "int"
 | .ref p=>(T = "list"/\∃ xs,mD K H p xs)\/(T = "tuple"/\∃ o,K.lookup p=some o/\o.cls = .type "tuple"/\o.dict=none) \/
   (T = "dict"/\((∃ kvs,H p=some (.dK kvs))\/∃ kvs,H p=some (.dT kvs)))\/(T = "set"/\∃ S n,H p=some (.set S n))
 |_=>False
theorem vB {pins:List (Addr×Obj)}{σ:St}{H:Hp}{s:Shared}{T:String}{x:V}{v:Value}(I:Inv X pins σ H s)(r:RelV x v)(ty:tyV X.K T x H) :
  s.TypeIs v T/\∀ a,v = .ref a->∃ ob,s.heap.get? a=some ob/\ob.dict=none:=by
 cases x with
 |str z =>
  obtain⟨t,rfl⟩:=r;cases (show T = "str" from ty);exact⟨typeIs_str s z t,fun _ e=>nomatch e⟩
 |int i =>
  obtain⟨t,rfl⟩:=r;cases (show T = "int" from ty);exact⟨typeIs_int s i t,fun _ e=>nomatch e⟩
 |ref p =>
  cases r;rcases ty with ⟨rfl,xs,hq⟩ | ⟨rfl,o,hk,hc,hd⟩ | ⟨rfl,hk⟩ | ⟨rfl,S,n,hk⟩
  ·obtain⟨its,_,pl,_⟩:=I.list hq;refine⟨pl.isList.typeIs,fun a e=>?_⟩;cases e;obtain⟨o,n,e,c,hd,_⟩:=pl;exact⟨o,e,hd⟩
  ·refine⟨⟨o,I.kIn p o hk,hc⟩,fun a e=>?_⟩;cases e;exact⟨o,I.kIn _ o hk,hd⟩
  ·have z:∃ o,s.heap.get? p=some o/\o.ExactDict:=by
    rcases hk with ⟨kvs,hk⟩ | ⟨kvs,hk⟩
    ·obtain⟨_,_,_,_,o,_,_,e,ex,_⟩:=I.hok p _ hk;exact⟨o,e,ex⟩
    ·obtain⟨_,_,_,_,o,_,_,e,ex,_⟩:=I.hok p _ hk;exact⟨o,e,ex⟩
   obtain⟨o,e,ex⟩:=z;refine⟨⟨o,e,ex.1⟩,fun a e2=>?_⟩;cases e2;exact⟨o,e,ex.2.1⟩
  ·obtain⟨o,_,_,_,e,ex,_⟩:=I.hok p _ hk;refine⟨⟨o,e,ex.1⟩,fun a e2=>?_⟩;cases e2;exact⟨o,e,ex.2.1⟩
 |_=>exact False.elim ty
def Ei (K:PySem.W.Frag)(T:String)(r:V->List V->Hp->VK->Prop)(to:TE):TE:=fun σ H Q=>to σ H fun x H1=>tyV K T x H1/\r x [] H1 Q
def tBM (K:PySem.W.Frag)(T:String)(r:V->List V->Hp->VK->Prop)(to:TE)(t:TA):TE:=fun σ H Q=>to σ H fun x H1=>tyV K T x H1/\t σ H1 fun xs H2=>r x xs H2 Q
variable {o e:Expr}{es:List Expr}{to:TE}{t:TA}{name:Str}{apos cpos:Pos}{T id:String}{r:V->List V->Hp->VK->Prop}
theorem Bb (pa:PlainAttrs T)(slot:Slot T name id)(hty:typeOf (.builtin id)=pure (.type "method_descriptor")) (hm:MtR X id r) (ho:PE X o to)
  (hbase:attributeBase o name X.env (eval o X.env)=eval o X.env:=by rfl) (hline:(apos.endLine==cpos.line)=true:=by rfl):PE X (.Call (.Attribute o name apos) [] [] cpos) (Ei X.K T r to):=by
 intro pins s σ H Q I h;refine wpAny_Call_method0_late hbase hline (cC (ho pins s σ H _ I h) fun v s1 ⟨x,H1,I1,r1,ty,q1⟩=>?_);obtain⟨h1,h2⟩:=vB I1 r1 ty;exact⟨T,id,pa,slot,hty,h1,h2,Calls.callWith_builtin rfl (PySem.evalArgs_none (hm pins s1 σ H1 x [] v [] Q I1 r1 .nil q1))⟩
theorem Am (pa:PlainAttrs T)(slot:Slot T name id)(hty:typeOf (.builtin id)=pure (.type "method_descriptor")) (hm:MtR X id r) (ho:PE X o to) (ha:PA X (e::es) t)
  (hbase:attributeBase o name X.env (eval o X.env)=eval o X.env:=by rfl)
  (hfew:((backTo cpos (starEach (e::es) X.env)).all (fun x=>!x.1)&&(backToKw cpos (keywordEach [] X.env)).all (fun x=>x.1.isSome)
   && decide ((e::es).length+([]:List Keyword).length+(if ([]:List Keyword).isEmpty then 0 else 1)<30))=true:=by rfl)
  (hline:(apos.endLine==cpos.line)=true:=by rfl) (hs:starEach (e::es) X.env=(false,eval e X.env)::starEach es X.env:=by rfl) (hplain:(backTo cpos (starEach es X.env)).any (·.1)=false:=by rfl) :
  PE X (.Call (.Attribute o name apos) (e::es) [] cpos) (tBM X.K T r to t):=by
 intro pins s σ H Q I h;refine wpAny_Call_method_late hbase hfew hline rfl (cC (ho pins s σ H _ I h) fun v s1 ⟨x,H1,I1,r1,ty,q1⟩=>?_);obtain⟨h1,h2⟩:=vB I1 r1 ty;refine⟨T,id,pa,slot,hty,h1,h2,?_⟩;have hA:=ha cpos pins s1 σ H1 _ I1 q1;rw[hs] at hA ⊢;refine Calls.callWith_builtin (by show (false || (backTo cpos (starEach es X.env)).any (·.1))=false;rw[hplain]<;>rfl) (Calls.evalArgs_plain ?_);exact cC hA fun us s2 ⟨vs,H2,I2,r2,q2⟩=>hm pins s2 σ H2 x vs v us Q I2 r1 r2 q2
end
end L2
namespace L2
open PySem PySem.Spec PyProof.Rows
noncomputable def MtM (X:Cx)(id:String)(r:V->List V->Hp->VK->Prop):Prop :=
 ∀(pins:List (Addr×Obj)) (s:Shared) (σ:St) (H:Hp) (x:V) (xs:List V) (v:Value) (us:List Value) (Q:VK),Inv X pins σ H s->RelV x v->aL xs us->r x xs H Q ->
  wpAny (model X.prog X.w) X.A (call (.builtin id) (v::us)) (EP X pins σ Q) X.xe s
theorem aL.one:∀{x:V}{us:List Value},aL [x] us->∃ u,us=[u]/\RelV x u
 |_,_,.cons r .nil=>⟨_,rfl,r⟩
theorem aL.two:∀{x y:V}{us:List Value},aL [x,y] us->∃ u v,us=[u,v]/\RelV x u/\RelV y v
 | _,_,_,.cons r (.cons q .nil)=>⟨_,_,rfl,r,q⟩
theorem aL.reverse {xs:List V}{us:List Value}(h:aL xs us):aL xs.reverse us.reverse:=by
 induction h with
 |nil=>exact .nil
 |cons r t ih=>rw[ik,ik];exact aL.append ih (.cons r .nil)
section
variable {X:Cx}{pins:List (Addr×Obj)}{σ:St}{H:Hp}{s:Shared}{l b:Addr}{xs ys zs:List V}
theorem Inv.lset {its its':List Value}{n:Nat}{f:Array Value->Array Value}{t':Nat}(I:Inv X pins σ H s)(hH:H l=some (.lst xs))
  (e:s.heap.get? l=some { cls:=.type "list",data:=.seq its.toArray n }) (hf:f its.toArray=its'.toArray) (hv:aL ys its') (hz:ys.length<=sizeLine) :
  Inv X pins σ (upd H l (.lst ys)) { s with heap:=s.heap.update l (Obj.mapSeq f),toks:=t' }:=by
 have q:=PySem.IsL.update e f;rw[hf] at q;refine I.write (x:=l) (e:=l) (by rw[hH];exact trivial) (.inl rfl) (fun b' u hb hu=>(Heap.get?_update_other s.heap (Obj.mapSeq f) (eg hb)).trans hu) ⟨_,q⟩ ?_;exact⟨hz,its',_,hv,q⟩
theorem Inv.lnew {its:List Value}{t':Nat}(I:Inv X pins σ H s)(hv:aL ys its)(hz:ys.length<=sizeLine) :
  Inv X pins σ (upd H s.heap.objs.size (.lst ys)) { s with heap:=s.heap.push { cls:=.type "list",data:=.seq its.toArray },toks:=t' } :=
 I.laid (fun _ _ q=>Heap.get?_push_of_some _ q) (aj _) ⟨hz,its,0,hv,Heap.get?_push_size _ rfl⟩
theorem Inv.fresh (I:Inv X pins σ H s):H s.heap.objs.size=none:=I.hok.fresh (aj _)
theorem Inv.lstM (I:Inv X pins σ H s)(hH:H l=some (.lst xs)):xs.length<=sizeLine/\∃(its:List Value) (n:Nat),aL xs its/\xs.length=its.length/\s.heap.get? l=some { cls:=.type "list",data:=.seq its.toArray n }:=by
 obtain⟨z,its,n,r,e⟩:=I.hok l _ hH;exact⟨z,its,n,r,r.length,e⟩
end
section
variable {X:Cx}
def yl:V->List V->Hp->VK->Prop:=fun x vs H Q=>∃ l xs y,x = .ref l/\vs=[y]/\H l=some (.lst xs)/\xs.length<sizeLine/\Q .non (upd H l (.lst (xs ++ [y])))
theorem mI:MtM X "list.append" yl:=by
 intro pins s σ H x vs v us Q I rx rv h;obtain⟨l,xs,y,rfl,rfl,hH,hz,q⟩:=h;cases rx;obtain⟨u,rfl,ru⟩:=rv.one;obtain⟨z,its,n,r,hl,e⟩:=I.lstM hH;refine call_meets F.slot_list_append ⟨_,e,rfl⟩ F.entry_list_append (F.args_list_append_2 _ _) (PySem.list_append l its.toArray n u (by rw[ak];omega)) ⟨e,?_⟩;refine⟨.non,_,I.lset (its':=its ++ [u]) hH e (by simp) (r.append (.cons ru .nil)) ?_,rfl,q⟩;rw[dk,List.length_singleton];omega
end
section
variable {prog:Program}{w:World}{A:Around}{E:Value->Shared->Prop}{s:Shared}
end
section
variable {X:Cx}
end
end L2
namespace Att
open PySem PySem.W PySem.Calls PyProof.Rows
theorem jH {P:Params}{h:Heap}:∀(ns:List Int) (vs:List Value),WellAll P h vs (ns.map WData.int)->IntsAre vs ns:=by
 intro ns
 induction ns with
 |nil =>
  intro vs w;rw[fw] at w;cases w;exact .nil
 |cons n ns ih =>
  intro vs w;rw[ba] at w;cases w with
  |cons a b =>
   cases a;exact .cons _ _ (ih _ b)
theorem ub {l:OpenLaw}{n:Nat}(hn:l.most=some n){P:Params}{h:Heap}{args:List WData}{vals:List Value}
  (hpre:l.row.toRowW.claim.pre args=true) (hwl:WellAll P h vals args) :
  ∃ a vs ns,vals=[Value.ref a]/\args=[WData.list (ns.map WData.int)]/\h.get? a=some { cls:=.type "list",data:=.seq vs.toArray }/\IntsAre vs ns/\ns.length<=n:=by
 have hsh:WShape.hasAll [] args [.list .int]=true:=(pre_splitW hpre).1;have hc:l.pre.holds [] { args:=args }=true:=(pre_splitW hpre).2;obtain⟨d,r,rfl,h1,h2⟩:=hasAllW_cons hsh;obtain rfl:=hasAllW_nil h2;obtain⟨xs,rfl,h3⟩:=hasW_list h1;obtain⟨ns,rfl⟩:=items_int h3;have hlen:ns.length<=n:=by
  unfold OpenLaw.pre at hc;have h4:(WTm.not (.lt (.lit (.int (n:Int))) (.len (.arg 0)))).holds [] { args:=[.list (ns.map .int)] }=true:=by
   have h4:=(holds_andW hc).1;rw[hn] at h4;exact h4
  have h5:=condW_of h4 (w_not (w_lt w_lit (w_len_list (w_arg rfl))));rw[ai] at h5;refine iy fun q=>?_
  have q':(n:Int)<((ns.length:Nat):Int):=by omega
  first
   | (rw[du q'] at h5;exact absurd h5 (by decide))
   | (simp at h5;omega)
 cases hwl with
 |cons w1 w2 =>
  cases w2;cases w1 with
  |list ho hall=>exact⟨_,_,ns,rfl,rfl,ho,jH ns _ hall,hlen⟩
theorem ue (l:OpenLaw)(args:List WData):l.row.toRowW.claim.post args (.bool true) args=true :=
 postW_of (r:=l.row.toRowW) (X:=(true==true))
  (show WShape.has [] (.bool true) .bool=true by first | rfl | decide | simp[WShape.has,WShape.arms,WShape.armsAll])
  (show (WTm.eq .res (.lit (.bool true))).value [] { args:=args,res:=some (.bool true),after:=args }=some (.bool (true==true)) from w_eq_bool (w_res rfl) w_lit) rfl
theorem pq {l:OpenLaw}{n:Nat}{q:Program}{loose:List Str}{XP:(Str->Option Value)->Heap->Prop}{YP:World->Heap->Prop}{d:DefRec}
  (hn:l.most=some n) (hdf:d.params.defaults=[])
  (call:∀(w:World) (s₀ s₁:Shared) (mg mb:Str->Option Value) (fa:Addr) (o:Obj) (pm cd doc:Value) (a:Addr) (vs:List Value) (ns:List Int),
   Ground q loose [] XP w s₀ mg mb s₁.heap->YP w s₁.heap ->
   s₁.heap.get? fa=some o->o.data = .func (docDef d.name d.params d.body d.scope pm cd doc)->s₁.heap.CodeRec cd d.name->mg d.name=some (.ref fa) ->
   s₁.heap.get? a=some { cls:=.type "list",data:=.seq vs.toArray }->IntsAre vs ns->ns.length<=n->s₁.gens = #[] ->
   codeAny (model l.prog w) callerA (.call (.ref fa) ⟨[.ref a],[]⟩) (fun r s'=>r = .ok (.ret (.bool true))/\OldK s₁.heap s'.heap/\s'.os=s₁.os/\AllBare s'.gens) s₁) :
  WalkO q loose XP YP l.row.toRowW d [] (fun f vs=>PySem.call f vs):=by
 intro w s₀ s₁ mg mb G Y fa o pm cd doc dV kV ho hd hcd hD hmg hg args vals as hpre hlay hrd hwl hlo;obtain rfl:dV = .none:=Dflts.none hD hdf;obtain rfl:kV = .none:=Dflts.noKw hD;obtain⟨a,vs,ns,rfl,rfl,hobj,hints,hlen⟩:=ub hn hpre hwl;refine enter_call (codeAny_mono (call w s₀ s₁ mg mb fa o pm cd doc a vs ns G Y ho (fd_plain hd) hcd hmg hobj hints hlen hg) fun r s' hq=>?_);obtain⟨rfl,h2,h3,h4⟩:=hq;exact⟨.inl ⟨.bool true,.bool true,[],rfl,fun _=>rfl,.bool true,ue l _,fun _=>⟨List.Pairwise.nil,fun _ hm=>(nomatch hm)⟩⟩,h2,h3,h4⟩
section
variable {prog:Program}{w:World}{A:Around}{E:Value->Shared->Prop}{s:Shared}{K:Frag}
noncomputable def ledger (h:Heap)(L d:Addr):List (Addr×Obj):=(List.range h.objs.size).filterMap fun a=>if a=L\/a=d then none else (h.get? a).map fun o=>(a,o)
end
end Att
namespace L2
open PySem PySem.Spec PyProof.Rows
theorem fG:∀{vs:List Value}{ns:List Int},IntsAre vs ns->aL (ns.map V.int) vs
 |_,_,.nil=>.nil
 |_,_,.cons n t h=>.cons ⟨t,rfl⟩ (fG h)
def Bx (H:Hp):Prop:=∀ b,H b=none\/(∃ o xs,H b=some (.frz o (.lst xs)))\/b=jP
theorem wD {P:Program}{w:World}{K:PySem.W.Frag}{mg mb:Str->Option Value}{CX:qb}{k:Nat}{fa a:Addr}{fd:FuncData}{x:Str}{sp:Sp}{s₁:Shared}{vs:List Value}{ns:List Int}
  (KX:K.In s₁.heap) (hns:s₁.heap.Ns mainGlobals mg) (hb:s₁.heap.Ns builtinsNs mb) (hbb:∀ x:Str,x≠"__name__"->mb x=bootBuiltins x) (hlim:s₁.heap.NoLimit) (hg:s₁.gens = #[])
  (ha:s₁.heap.get? a=some { cls:=.type "list",data:=.seq vs.toArray }) (hi:IntsAre vs ns) (hl:ns.length<=sizeLine) (hr:eM k callerA)
  (F:∀ base:Heap,K.In base->base.Ns mainGlobals mg->iP P w K mg base CX k fa fd [x] sp) (hbind:∀(s:Shared) (u:Value),BindsTo s fd ⟨[u],[]⟩ [(x,u)])
  (hsp:∀ H:Hp,Bx H->mD K H a (ns.map V.int)->sp [.ref a] H (fun v _=>v = .bl true) fun _ _ _=>False)
  (hCX:∀ H e s',CX [] H s₁ (fun _ _ _=>False) e s'->False) (hj:K.lookup jP=none) (hjs:s₁.heap.get? jP=some jO) (hjc:isCodeTable s₁.heap jP) :
  codeAny (model P w) callerA (.call (.ref fa) ⟨[.ref a],[]⟩) (fun r s'=>r = .ok (.ret (.bool true))/\OldK s₁.heap s'.heap/\s'.os=s₁.os/\AllBare s'.gens) s₁:=by
 have rv:=fG hi;have lenV:=hi.length;have core:∀ H:Hp,Bx H->mD K H a (ns.map V.int)->hV P w H s₁.heap->JT H->(∀ b,H b≠none->b=a\/b=jP)->(H a≠none->K.lookup a=none) ->
   codeAny (model P w) callerA (.call (.ref fa) ⟨[.ref a],[]⟩) (fun r s'=>r = .ok (.ret (.bool true))/\OldK s₁.heap s'.heap/\s'.os=s₁.os/\AllBare s'.gens) s₁:=by
  intro H hO hS hok hJ hA hK;have base_of:∀{b:Addr}{o:Obj},s₁.heap.get? b=some o->H b=none->(nH s₁.heap H).get? b=some o:=fun e n=>vR e n
  have noA:∀{b:Addr}{o:Obj}{es:Array DictEntry}{ep:Nat},s₁.heap.get? b=some o->o.data = .dict es ep->H b=none:=fun {b o es ep} e d=>by
   cases q:H b with
   |none=>rfl
   |some u =>
    rcases hA b (by rw[q];simp) with rfl | rfl
    ·rw[ha] at e;cases e;have d':Data.seq vs.toArray _=Data.dict es ep:=d;cases d'
    ·rw[hjs] at e;cases e;have d':Data.fields _=Data.dict es ep:=d;cases d'
  have nsK:∀{b:Addr}{m:Str->Option Value},s₁.heap.Ns b m->(nH s₁.heap H).Ns b m:=fun {b m} ⟨o,es,ep,e,d,r⟩=>⟨o,es,ep,base_of e (noA e d),d,r⟩
  have hKb:K.In (nH s₁.heap H):=fun b o e=>base_of (KX b o e) (by
   cases q:H b with
   |none=>rfl
   |some u =>
    rcases hA b (by rw[q];simp) with rfl | rfl
    ·rw[hK (by rw[q];simp)] at e;cases e
    ·rw[hj] at e;cases e)
  have hM:Mod K mg (nH s₁.heap H):=⟨hKb,nsK hns,⟨mb,nsK hb,hbb⟩,let ⟨mc,h1,h2⟩:=hlim;⟨mc,nsK h1,h2⟩⟩;have e0:vv P w K mg (nH s₁.heap H) callerA [] s₁ H:=⟨rfl,hM,fun b o e=>zK e,Nat.le_of_eq (tG _ _),trivial,fun b hb=>absurd (show b∈([]:List Addr) from hb) (by simp),hok,.of_eq hg,hJ⟩;refine codeAny_mono ((F _ hKb (nsK hns)).run callerA [] s₁ H ⟨[.ref a],[]⟩ [.ref a] [.ref a] _ _ hr e0 (hbind s₁ (.ref a)) (.cons rfl .nil) (hsp H hO hS)) fun r s' h=>?_
  cases r with
  |error e=>exact (hCX H e s' h).elim
  |ok fl =>
   cases fl with
   |next=>exact False.elim h
   |brk=>exact False.elim h
   |cont=>exact False.elim h
   |ret u =>
    obtain⟨v,H',os,bare,un,hok',r',q⟩:=h;have q':v = .bl true:=q;subst q';obtain rfl:u=Value.bool true:=r';have kp:∀ b o,b≠jP->s₁.heap.get? b=some o->s'.heap.get? b=some o:=fun b o hb e=>by
     cases q:H b with
     |none=>exact un.keep b o e q (by intro z;exact absurd (show b∈([]:List Addr) from z) (by simp)) (by simp)
     |some u =>
      rcases hO b with z | ⟨ob,xs,z⟩ | z
      ·rw[q] at z;cases z
      ·have z2:=un.frzs b ob _ z;obtain⟨e1,_⟩:=hok b _ z;obtain⟨e2,_⟩:=hok' b _ z2;have e1:s₁.heap.get? b=some ob:=e1;have e2:s'.heap.get? b=some ob:=e2;rw[e] at e1;cases e1;exact e2
      ·exact absurd z hb
    obtain⟨_,ps,hps,_⟩:=hok' jP _ (un.frzs _ _ _ hJ);refine⟨rfl,⟨fun b o e=>?_,fun b o e=>?_⟩,os,bare⟩
    ·by_cases hb:b=jP
     ·subst hb;rw[hjs] at e;cases e;exact .inr (.inl ⟨hjc,rfl,#[],ps,rfl,by rw[Array.empty_append];exact hps⟩)
     ·exact .inl (kp b o hb e)
    ·by_cases hb:b=jP
     ·exact⟨_,hb ▸ hps⟩
     ·exact⟨o,kp b o hb e⟩
 have hoj:∀ H:Hp,JT H->bU P w H s₁.heap jP (.frz jO (.tbl #[])):=fun H _=>⟨trivial,#[],hjs,trivial,fun _ _ q=>(by cases q)⟩
 cases hk:K.lookup a with
 |some o =>
  have e:=KX a o hk;rw[ha] at e;cases e;have hJ:JT (fun b=>if b=jP then some (.frz jO (.tbl #[])) else none):=if_pos rfl;refine core (fun b=>if b=jP then some (.frz jO (.tbl #[])) else none) (fun b=>?_) (.inr ⟨_,vs.toArray,_,hk,rfl,rfl,rfl,by rw[List.size_toArray,lenV];exact hl,by simpa using rv⟩) (fun b u z=>?_) hJ (fun b z=>?_) fun z=>?_
  ·by_cases hb:b=jP
   ·exact .inr (.inr hb)
   ·exact .inl (if_neg hb)
  ·by_cases hb:b=jP
   ·have z':=(if_pos hb).symm.trans z;cases z';subst hb;exact hoj _ hJ
   ·have z':=(if_neg hb).symm.trans z;cases z'
  ·by_cases hb:b=jP
   ·exact .inr hb
   ·exact absurd (if_neg hb) z
  ·by_cases hb:a=jP
   ·rw[hb,hjs] at ha;cases ha
   ·exact absurd (if_neg hb) z
 |none =>
  have haj:jP≠a:=fun z=>by rw[<-z,hjs] at ha;cases ha
  have hJ:JT (fun b=>if b=a then some (.frz { cls:=.type "list",data:=.seq vs.toArray } (.lst (ns.map V.int))) else if b=jP then some (.frz jO (.tbl #[])) else none):=(if_neg haj).trans (if_pos rfl);refine core (fun b=>if b=a then some (.frz { cls:=.type "list",data:=.seq vs.toArray } (.lst (ns.map V.int))) else if b=jP then some (.frz jO (.tbl #[])) else none) (fun b=>?_) (.inl (.inr ⟨{ cls:=.type "list",data:=.seq vs.toArray },if_pos rfl⟩)) (fun b u z=>?_) hJ (fun b z=>?_) fun _=>hk
  ·by_cases hb:b=a
   ·exact .inr (.inl ⟨_,_,if_pos hb⟩)
   ·by_cases hb':b=jP
    ·exact .inr (.inr hb')
    ·exact .inl ((if_neg hb).trans (if_neg hb'))
  ·by_cases hb:b=a
   ·have z':=(if_pos hb).symm.trans z;cases z';subst hb;exact⟨ha,by rw[ai];exact hl,vs,_,rv,ha⟩
   ·by_cases hb':b=jP
    ·have z':=((if_neg hb).trans (if_pos hb')).symm.trans z;cases z';subst hb';exact hoj _ hJ
    ·have z':=((if_neg hb).trans (if_neg hb')).symm.trans z;cases z'
  ·by_cases hb:b=a
   ·exact .inl hb
   ·by_cases hb':b=jP
    ·exact .inr hb'
    ·exact absurd ((if_neg hb).trans (if_neg hb')) z
end L2
namespace L2
open PySem PySem.Spec PyProof.Rows
theorem yY {l:PySem.W.OpenLaw}{n k:Nat}{q:Program}{loose:List Str}{XP:(Str->Option Value)->Heap->Prop}{YP:World->Heap->Prop}{d:DefRec}{K:Params->PySem.W.Frag}{CX:World->qb}{sp:World->Sp}{x:Str}
  (hn:l.most=some n) (hn2:n<=sizeLine) (hdf:d.params.defaults=[]) (hr:eM k callerA)
  (hY:∀(w:World) (h:Heap),YP w h->(K w.params).In h/\(K w.params).lookup jP=none/\h.get? jP=some jO/\isCodeTable h jP)
  (F:∀(w:World) (mg:Str->Option Value) (fa:Addr) (h:Heap),(K w.params).In h->h.Ns mainGlobals mg->mg d.name=some (.ref fa) ->
   ∃ fd:FuncData,(∀(s:Shared) (u:Value),BindsTo s fd ⟨[u],[]⟩ [(x,u)]) /\
    ∀ base:Heap,(K w.params).In base->base.Ns mainGlobals mg->iP l.prog w (K w.params) mg base (CX w) k fa fd [x] (sp w))
  (hsp:∀(w:World) (H:Hp) (a:Addr) (ns:List Int),ns.length<=n->Bx H->mD (K w.params) H a (ns.map V.int)->sp w [.ref a] H (fun v _=>v = .bl true) fun _ _ _=>False)
  (hCX:∀(w:World) (H:Hp) (s:Shared) (e:Value) (s':Shared),CX w [] H s (fun _ _ _=>False) e s'->False) :
  PySem.W.WalkO q loose XP YP l.row.toRowW d [] (fun f vs=>PySem.call f vs):=by
 refine Att.pq hn hdf fun w s₀ s₁ mg mb fa o pm cd doc a vs ns G Y ho hd hcd hmg hobj hints hlen hg=>?_
 obtain⟨KX,J1,J2,J3⟩:=hY w _ Y;obtain⟨fd,hb,hF⟩:=F w mg fa _ KX G.T.g hmg;exact wD KX G.T.g G.T.b G.T.builtins G.T.nolimit hg hobj hints (dg hlen hn2) hr hF hb (fun H hO hS=>hsp w H a ns hlen hO hS) (fun H e s'=>hCX w H s₁ e s') J1 J2 J3
end L2
namespace L2
open PySem PySem.Spec PyProof.Rows
noncomputable abbrev uw:qb:=fun _ _ _ _ _ _=>False
noncomputable abbrev E0:XK:=fun _ _ _=>False
theorem AG {X:Cx}:nN uw X E0:=fun _ _ _ _ _ _ _ h=>h.elim
structure ur (K:PySem.W.Frag)(x qual:Str)(st:Stmt)(f:Addr)(fd:FuncData):Prop where
 ex:∃(oc:Value) (od:Option Addr) (kV doc pm:Value) (an:Option Addr) (cdv ct:Value) (osl:Array (Option Value)),
  fd=PySem.W.fnOf x qual (dP st) (bL st) (aH st) .none kV doc pm an cdv ct/\K.lookup f=some ⟨oc,od,.func fd,osl⟩/\PySem.W.codeIn K cdv qual=true
 kp:PySem.W.keepIn K (.ref f)=true
section
variable {P:Program}{w:World}{K:PySem.W.Frag}{mg:Str->Option Value}{base:Heap}
theorem ur.ok {x qual:Str}{st:Stmt}{f:Addr}{fd:FuncData}{N ps:List Str}{k:Nat}{sp:Sp}(F:ur K x qual st f fd)(S:cW N ps (aH st))(len:∀ vs H Q E,sp vs H Q E->vs.length=ps.length)
  (hbody:∀(cdv:Value) (A:Around) (outer:List Env) (s:Shared) (H:Hp) (vs:List V) (Q:VK) (E:XK),eM k (A.deeper (envOfC qual (aH st) s.heap.objs.size f cdv))->sp vs H Q E ->
   ∃ t,iG (eN uw P w K mg base N qual (aH st) f cdv A outer s H E).nox (bL st) t/\t { nx:=fun _ H'=>Q .non H',rt:=Q } (start N vs) H):iP P w K mg base uw (k+1) f fd ps sp:=by
 obtain⟨oc,od,kV,doc,pm,an,cdv,ct,osl,rfl,lk,hcd⟩:=F.ex;refine AA lk hcd S len fun A outer s H vs Q E hr hsp=>?_
 obtain⟨t,h,q⟩:=hbody cdv A outer s H vs Q E hr hsp;exact⟨t,h.nox,q⟩
theorem ur.binds {x qual:Str}{st:Stmt}{f:Addr}{fd:FuncData}{ps:List Str}(F:ur K x qual st f fd)
  (h:∀(kV doc pm:Value) (an:Option Addr) (cdv ct:Value) (us:List Value),us.length=ps.length->bindArgs (PySem.W.fnOf x qual (dP st) (bL st) (aH st) .none kV doc pm an cdv ct) ⟨us,[]⟩=pure (ps.zip us)):Binds K fd ps []:=by
 obtain⟨oc,od,kV,doc,pm,an,cdv,ct,osl,rfl,lk,hcd⟩:=F.ex;exact .all (h kV doc pm an cdv ct)
theorem Bq {x qual:Str}{st:Stmt}{f:Addr}{oc:Value}{od an:Option Addr}{osl:Array (Option Value)}{kV doc pm cdv ct:Value}(l:K.lookup f=some ⟨oc,od,.func (PySem.W.fnOf x qual (dP st) (bL st) (aH st) .none kV doc pm an cdv ct),osl⟩)
  (c:PySem.W.codeIn K cdv qual=true) (k:PySem.W.keepIn K (.ref f)=true):ur K x qual st f (PySem.W.fnOf x qual (dP st) (bL st) (aH st) .none kV doc pm an cdv ct):=⟨⟨oc,od,kV,doc,pm,an,cdv,ct,osl,rfl,l,c⟩,k⟩
end
section
variable {X:Cx}
theorem pv (i:Nat){x:Str}{pos:Pos}(hN:X.N[i]? = some x:=by rfl)(hv:xJ X.env.scope x:=by first | exact Or.inl rfl | exact Or.inr (Or.inl rfl) | exact Or.inr (Or.inr rfl))(hd:(x==("__debug__" : Str))=false:=by decide)
  (hcd:(x==("__classdict__" : Str))=false:=by decide):PE X (.Name x pos) (qu i):=kT hN hv hd hcd
end
def aE (H H':Hp):Prop:=∀ b o,H b=some o->H' b=some o
theorem aE.refl (H:Hp):aE H H:=fun _ _ h=>h
theorem aE.trans {H H1 H2:Hp}(a:aE H H1)(b:aE H1 H2):aE H H2:=fun c o h=>b c o (a c o h)
section
variable {κ:Type}[DecidableEq κ]
noncomputable def putK (kvs:List (κ×V))(k:κ)(v:V):List (κ×V) :=
 if (kvs.any fun kv=>decide (kv.1=k))=true then kvs.map (fun kv=>if kv.1=k then (kv.1,v) else kv) else kvs ++ [(k,v)]
theorem oq (kvs:List (κ×V))(k:κ)(v:V):(putK kvs k v).length<=kvs.length+1:=by
 unfold putK;split
 ·rw[ai];omega
 ·rw[dk,az,List.length_nil];omega
theorem KV.any {kvs:List (κ×V)}{vs:List (κ×Value)}(r:KV kvs vs)(k:κ):(kvs.any fun kv=>decide (kv.1=k))=vs.any fun kv=>decide (kv.1=k):=by
 unfold KV at r
 induction r with
 |nil=>rfl
 |cons h t ih=>rw[ip,ip,ih,h.1]
theorem KV.repl {kvs:List (κ×V)}{vs:List (κ×Value)}(r:KV kvs vs)(k:κ){y:V}{u:Value}(ry:RelV y u) :
  KV (kvs.map fun kv=>if kv.1=k then (kv.1,y) else kv) (vs.map fun kv=>if kv.1=k then (kv.1,u) else kv):=by
 unfold KV at r ⊢
 induction r with
 |nil=>exact .nil
 |@cons p q ps qs h t ih =>
  rw[ba,ba];refine .cons ?_ ih;obtain⟨h1,h2⟩:=h;by_cases e:p.1=k
  ·rw[if_pos e,if_pos (h1.symm.trans e)];exact⟨h1,ry⟩
  ·rw[if_neg e,if_neg (fun z=>e (h1.trans z))];exact⟨h1,h2⟩
theorem KV.put {kvs:List (κ×V)}{vs:List (κ×Value)}(r:KV kvs vs)(k:κ){y:V}{u:Value}(ry:RelV y u):KV (putK kvs k y) (stored vs k u):=by
 unfold putK stored;rw[r.any k];by_cases e:(vs.any fun kv=>decide (kv.1=k))=true
 ·rw[if_pos e,if_pos e];exact r.repl k ry
 ·rw[if_neg e,if_neg e];exact Paired.snoc r ⟨rfl,ry⟩
theorem KV.length {kvs:List (κ×V)}{vs:List (κ×Value)}(r:KV kvs vs):kvs.length=vs.length:=Paired.length r
end
theorem EH {P:Program}{w:World}{k:Key}{u:Value}(r:RelV (kV k) u):(cJ P w).is k u=true:=by
 cases k with
 |inl i=>obtain⟨t,e⟩:=(show ∃ t,u=Value.int i t from r);subst e;exact oM P w i t
 |inr x=>obtain⟨t,e⟩:=(show ∃ t,u=Value.str x t from r);subst e;exact oO P w x t
section
variable {P:Program}{w:World}{H:Hp}{h:Heap}{a:Addr}
theorem Dc {u:HO}(ok:hV P w H h)(e:Rd H a u):bU P w H h a u:=e.ok ok
theorem Au {kvs:List (Key×V)}(ok:hV P w H h)(e:Rd H a (.dK kvs)):kvs.length<=sizeLine/\(a==sysModules)=false/\∃ vs,KV kvs vs/\h.DictOf (cJ P w) a vs :=
 show bU P w H h a (.dK kvs) from Dc ok e
theorem DZ {kvs:List (Key×V)}(ok:hV P w H h)(e:H a=some (.dK kvs)):kvs.length<=sizeLine/\(a==sysModules)=false/\∃ vs,KV kvs vs/\h.DictOf (cJ P w) a vs:=Au ok (.inl e)
end
section
variable {X:Cx}{pins:List (Addr×Obj)}{σ:St}{H:Hp}{s:Shared}{a:Addr}{y v:V}{u r:Value}{o:Option V}{A:Around}{E:Value->Shared->Prop}
theorem Inv.big (I:Inv X pins σ H s):sysModules<s.heap.objs.size:=by
 have h:mainGlobals<s.heap.objs.size:=(I.mod.glob.keeps I.bk).lt;exact Nat.lt_trans (by decide) h
theorem xX {h':Heap}{t':Nat}{ob:HO}(I:Inv X pins σ H s)(mu:nk (H a))(hs:Heap.SameBut a s.heap h')(he:∃ q,h'.get? a=some q)(new:bU X.prog X.w (upd H a ob) h' a ob) :
  Inv X pins σ (upd H a ob) { s with heap:=h',toks:=t' } :=
 I.write (x:=a) (e:=a) mu (.inl rfl) (fun b q hb z=>(hs.2 b hb).trans z) he new
theorem CG {P:Program}{w:World}{H':Hp}{h':Heap}{kvs:List (Key×V)}{vs:List (Key×Value)}(z:kvs.length<=sizeLine)(hd:(a==sysModules)=false)(rel:KV kvs vs)(dd:h'.DictOf (cJ P w) a vs) :
  bU P w H' h' a (.dK kvs):=⟨z,hd,vs,rel,dd⟩
end
section
variable {X:Cx}{pins:List (Addr×Obj)}{σ:St}{H:Hp}{s:Shared}{a:Addr}{kvs:List (Key×V)}{k:Key}{u:Value}{A:Around}{E:Value->Shared->Prop}
end
section
variable {X:Cx}{o i e value:Expr}{pos pos' tpos:Pos}{td ty tv:TE}
end
theorem xi {P:Program}{w:World}{H:Hp}(h:Heap)(hb:sysModules<h.objs.size):bU P w H (h.push { cls:=.type "dict",data:=.dict #[] }) h.objs.size (.dK []) :=
 ⟨cq _,beq_eq_false_iff_ne.mpr (eg (bh hb)),[],.nil,Heap.DictOf.new h⟩
section
variable {X:Cx}{pos:Pos}
end
noncomputable def kU:List (TE×TE)->St->Hp->(List (V×V)->Hp->Prop)->Prop
 |[],_,H,Q=>Q [] H
 | (tk,tv)::r,σ,H,Q=>tk σ H fun x H1=>tv σ H1 fun y H2=>kU r σ H2 fun ps H3=>Q ((x,y)::ps) H3
noncomputable abbrev VV:List (V×V)->List (Value×Value)->Prop:=Paired fun p q=>RelV p.1 q.1/\RelV p.2 q.2
noncomputable def EA (X:Cx)(pos:Pos)(keys:List (Option Expr))(values:List Expr)(qI:List (TE×TE)):Prop :=
 ∀(pins:List (Addr×Obj)) (s:Shared) (σ:St) (H:Hp) (Q:List (V×V)->Hp->Prop),Inv X pins σ H s->kU qI σ H Q ->
  wpAny (model X.prog X.w) X.A (evalPairs (pairTrees keys values X.env pos)) (fun vs s'=>∃ ps H',Inv X pins σ H' s'/\VV ps vs/\Q ps H') X.xe s
theorem yJ {X:Cx}{pos:Pos}:EA X pos [] [] []:=fun pins s σ H Q I h=>pairTrees_nil_walk ⟨[],H,I,.nil,h⟩
theorem vq {X:Cx}{pos:Pos}{k v:Expr}{ks:List (Option Expr)}{vs:List Expr}{tk tv:TE}{qI:List (TE×TE)}(hk:PE X k tk)(hv:PE X v tv)(hr:EA X pos ks vs qI) :
  EA X pos (some k::ks) (v::vs) ((tk,tv)::qI):=fun pins s σ H Q I h =>
 pairTrees_cons_walk (cC (hk pins s σ H _ I h) fun u s1 ⟨x,H1,I1,rx,q1⟩=>cC (hv pins s1 σ H1 _ I1 q1) fun w2 s2 ⟨y,H2,I2,ry,q2⟩ =>
  cC (hr pins s2 σ H2 _ I2 q2) fun ws s3 ⟨ps,H3,I3,rel,q3⟩=>⟨(x,y)::ps,H3,I3,.cons ⟨rx,ry⟩ rel,q3⟩)
noncomputable def fR (kvs more:List (Key×V)):List (Key×V):=more.foldl (fun acc kv=>putK acc kv.1 kv.2) kvs
theorem KV.merge:∀{more:List (Key×V)}{rs:List (Key×Value)}{kvs:List (Key×V)}{vs:List (Key×Value)},KV more rs->KV kvs vs->KV (fR kvs more) (merged vs rs):=by
 intro more rs kvs vs r;unfold KV at r
 induction r generalizing kvs vs with
 |nil=>intro q;exact q
 |@cons p q ps qs h t ih =>
  intro r0;have e:KV (putK kvs p.1 p.2) (stored vs q.1 q.2):=by
   have:=r0.put p.1 h.2;rw[<-h.1];exact this
  exact ih e
theorem gZ:∀(more kvs:List (Key×V)),(fR kvs more).length<=kvs.length+more.length
 |[],kvs=>by show kvs.length<=kvs.length+0;omega
 | p::r,kvs=>by
  have h1:=gZ r (putK kvs p.1 p.2);have h2:=oq kvs p.1 p.2;show (fR (putK kvs p.1 p.2) r).length<=_;rw[az];omega
theorem kg {P:Program}{w:World}:∀{kvs:List (Key×V)}{ws:List (Value×Value)},VV (kvs.map fun kv=>(kV kv.1,kv.2)) ws->∃ rs,Carries (cJ P w) ws rs/\KV kvs rs
 |[],_,r=>by rw[fw] at r;cases r;exact⟨[],True.intro,.nil⟩
 | p::kvs,_,r=>by
  rw[ba] at r;cases r with
  |@cons a b as bs h t =>
   obtain⟨rs,c,q⟩:=kg (P:=P) (w:=w) t;obtain⟨b1,b2⟩:=b;exact⟨(p.1,b2)::rs,⟨EH h.1,rfl,c⟩,.cons ⟨rfl,h.2⟩ q⟩
def E2 (qI:List (TE×TE)):TE:=fun σ H Q=>∀ p,H p=none->kU qI σ (upd H p (.dK [])) fun ps H2=>H2 p=some (.dK [])/\∃ kvs:List (Key×V),ps=kvs.map (fun kv=>(kV kv.1,kv.2))/\kvs.length<=15/\Q (.ref p) (upd H2 p (.dK (fR [] kvs)))
theorem y0 {X:Cx}{pos:Pos}{keys:List (Option Expr)}{values:List Expr}{qI:List (TE×TE)}(h:EA X pos keys values qI)(hall:keys.all (·.isSome)=true)(hl:keys.length=values.length)(h0:keys≠[])
  (h15:keys.length<=15):PE X (.Dict keys values pos) (E2 qI):=by
 intro pins s σ H Q I q;have hn:=I.hok.fresh (aj s.heap.objs.size);have I1:=I.laid (a:=s.heap.objs.size) (o:=.dK []) (h':=s.heap.push { cls:=.type "dict",data:=.dict #[] }) (t':=s.toks) (fun _ _ q=>Heap.get?_push_of_some _ q) (aj _) (xi s.heap I.big);refine wpAny_Dict_walk (knd:=cJ X.prog X.w) hall hl h0 h15 (cC (h pins _ σ _ _ I1 (q _ hn)) fun ws s2 ⟨ps,H2,I2,rel,e,kvs,ep,lk,q2⟩=>?_);subst ep;obtain⟨rs,c,rk⟩:=kg (P:=X.prog) (w:=X.w) rel;obtain⟨z,hd,vs0,r0,dd⟩:=DZ I2.hok e;cases r0;refine⟨rs,c,dd,fun h' dd' hs=>⟨.ref s.heap.objs.size,_,?_,rfl,q2⟩⟩;have hz:(fR [] kvs).length<=sizeLine:=by
  have h1:=gZ kvs [];rw[List.length_nil] at h1;rw[sizeLine_eq];omega
 have he:∃ q,h'.get? s.heap.objs.size=some q:=let ⟨q,_,_,hq,_⟩:=dd';⟨q,hq⟩;exact xX I2 (by rw[e];exact True.intro) hs he (CG hz hd (rk.merge .nil) dd')
end L2
end
section
namespace Pc
open PySem
inductive MV where
 | tr | int (i:Int) | tup (is:List Int)
deriving Inhabited,DecidableEq
inductive D where
 | non | bl (b:Bool) | int (i:Int) | str (s:Str) | lst (xs:List D) | tup (xs:List D)
 | dct (kvs:List ((Int ⊕ Str)×Option Int))
 | mpi (ks:List (Int×MV)) | mpt (ks:List (List Int))
 | mpz (ks:List (Int×MV))
deriving Inhabited
mutual
noncomputable def D.flat:D->Bool
 |.lst _=>false
 |.tup xs=>D.flats xs
 |.non=>true
 |.bl _=>true
 |.int _=>true
 |.str _=>true
 |.dct _=>true
 |.mpi _=>false
 |.mpt _=>false
 |.mpz _=>true
noncomputable def D.flats:List D->Bool
 |[]=>true
 |x::xs=>D.flat x&&D.flats xs
end
noncomputable def p9 (f:D->D->Option Bool):List D->List D->Option Bool
 |[],[]=>some true
 |x::xs,y::ys=>(f x y).bind fun a=>(p9 f xs ys).map fun b=>a&&b
 |_,_=>none
noncomputable def D.eqf:Nat->D->D->Option Bool
 |0,_,_=>none
 |_+1,.non,.non=>some true
 |_+1,.non,.int _=>some false
 |_+1,.int _,.non=>some false
 |_+1,.int a,.int b=>some (a==b)
 |n+1,.lst a,.lst b=>if a.length=b.length then p9 (D.eqf n) a b else some false
 |n+1,.tup a,.tup b=>if a.length=b.length then p9 (D.eqf n) a b else none
 |_+1,_,_=>none
structure Exc where
 cls:Str
 fs:List (Str×D)
deriving Inhabited
inductive Rs (α:Type) where
 | ok (a:α) | exc (e:Exc) | bad
noncomputable def Rs.bind {α β:Type}(x:Rs α)(f:α->Rs β):Rs β:=match x with
 |.ok a=>f a
 |.exc e=>.exc e
 |.bad=>.bad
inductive Rt where
 | mv (R:List Nat)
 | sh (R:List Nat)
noncomputable def Rt.roots:Rt->List Nat
 |.mv R=>R
 |.sh R=>R
inductive Tg where
 | own | lk | sh (R:List Nat)
noncomputable abbrev Slot:=Option (D×Tg)
noncomputable abbrev En:=List Slot
noncomputable def lim:Nat:=1000000
inductive jL where
 | nm (i:Nat) | tp (is:List Nat)
inductive A3 where
 | len | list | tuple | int | str | abs | min2 | max2 | all | any | sum | isi (T:String) | sorted | bool | lrev | lrng | divm | maxd
inductive Mth where
 | sfind | sindex | sjoin | ssplit | lindex | lcount | szfill | scount | sstarts
inductive nk where
 | append | extend | insert | pop | vW | reverse | clear
mutual
inductive Ex where
 | var (i:Nat)
 | cst (d:D)
 | glb (k:Nat)
 | bin (op:Operator) (a b:Ex)
 | neg (a:Ex)
 | cmp (op:CmpOp) (a b:Ex)
 | chn (op op':CmpOp) (a b c:Ex)
 | and (a b:Ex)
 | or (a b:Ex)
 | not (a:Ex)
 | ite (c a b:Ex)
 | lst (es:jM)
 | tup (es:jM)
 | ix (a i:Ex)
 | sl (a:Ex) (lo hi:km)
 | call (f:Nat) (es:jM)
 | blt (b:A3) (es:jM)
 | mth (m:Mth) (o:Ex) (es:jM)
 | comp (own:Nat) (pick:List Nat) (t:jL) (it:qa) (c:km) (e:Ex)
 | dnew
 | ddsp (l:List (Nat×Int))
 | snoc (a b:Ex)
 | app (g:List D->Option D) (es:jM)
inductive jM where
 | nil | cons (e:Ex) (es:jM)
inductive km where
 | none | some (e:Ex)
inductive qa where
 | seq (e:Ex) | rng1 (a:Ex) | rng2 (a b:Ex) | rng3 (a b c:Ex) | enum (e:Ex) | zip (a b:Ex) | rev (e:Ex)
end
mutual
inductive St where
 | asg (t:jL) (e:Ex) (mv:Bool)
 | mut (x:Nat) (path:km) (m:nk) (es:jM)
 | setix (x:Nat) (path:km) (i:Ex) (e:Ex)
 | putd (x:Nat) (i v:Ex)
 | aug (x:Nat) (op:Operator) (e:Ex)
 | popa (y x:Nat) (es:jM)
 | apop (y x:Nat) (es:jM)
 | frzd (x:Nat) (s:St)
 | expr (e:Ex)
 | ite (c:Ex) (a b:bW)
 | forr (t:jL) (it:qa) (b:bW)
 | forw (x:Nat) (e:Ex) (b:bW)
 | whl (c:Ex) (b:bW)
 | ret (e:Ex)
 | retN | brk | cnt | pass
inductive bW where
 | nil | cons (s:St) (r:bW)
end
noncomputable def ck (n:Nat)(d:D):Option D:=if n<=lim then some d else none
noncomputable def small (i:Int):Bool:=decide (-(2 ^ 64)<i/\i<2 ^ 64)
noncomputable def binI:Operator->Int->Int->Option Int
 |.Add,i,j=>some (i+j)
 |.Sub,i,j=>some (i - j)
 |.Mult,i,j=>if small i || small j then some (i*j) else none
 |.FloorDiv,i,j=>if 0<j/\j<1073741824 then some (i / j) else none
 |.Mod,i,j=>if 0<j then some (i%j) else none
 |_,_,_=>none
noncomputable def xD (op:Operator):D->D->Option D
 |.int i,.int j=>(binI op i j).map .int
 |.lst a,.lst b=>match op with
  |.Add=>ck (a.length+b.length) (.lst (a++b))
  |_=>none
 |_,_=>none
noncomputable def addK {α:Type}[BEq α](ks:List α)(k:α):List α:=if ks.contains k then ks else ks ++ [k]
noncomputable def yF (kvs:List (Int×MV))(k:Int)(m:MV):List (Int×MV):=if (kvs.any fun q=>decide (q.1=k))=true then kvs.map (fun q=>if q.1=k then (q.1,m) else q) else kvs ++ [(k,m)]
noncomputable def xw:List D->Option (List Int)
 |[]=>some []
 |.int i::r=>(xw r).map (i :: ·)
 |_::_=>none
noncomputable def mvOf:D->Option MV
 |.bl true=>some .tr
 |.int i=>some (.int i)
 |.tup xs=>(xw xs).map .tup
 |_=>none
noncomputable def xY (gl:Nat->D):List (Nat×Int)->List (Int×MV)->Option (List (Int×MV))
 |[],ks=>some ks
 |q::r,ks=>match gl q.1 with
  |.int i=>xY gl r (yF ks i (.int q.2))
  |_=>none
noncomputable def Dq:D->Bool
 |.bl true=>true
 |_=>false
noncomputable def vG (i j:Int):Bool:=!(i==42&&j==21)
noncomputable def putM:D->D->D->Option D
 |.mpi ks,.int k,v=>if ks.length<lim then (mvOf v).map fun m=>.mpi (yF ks k m) else none
 |.mpi [],.tup [.int i,.int j],v=>if Dq v&&vG i j then some (.mpt [[i,j]]) else none
 |.mpt ks,.tup [.int i,.int j],v=>if (Dq v&&vG i j)&&decide (ks.length<lim) then some (.mpt (addK ks [i,j])) else none
 |_,_,_=>none
noncomputable def xH:D->Bool
 |.non=>true
 |_=>false
noncomputable def jG:CmpOp->D->D->Option Bool
 |.Lt,.int i,.int j=>some (decide (i<j))
 |.LtE,.int i,.int j=>some (decide (i<=j))
 |.Gt,.int i,.int j=>some (decide (j<i))
 |.GtE,.int i,.int j=>some (decide (j<=i))
 |.Eq,x,y=>D.eqf 40 x y
 |.NotEq,x,y=>(D.eqf 40 x y).map (!·)
 |.Is,x,.non=>some (xH x)
 |_,_,_=>none
noncomputable def truth:D->Option Bool
 |.bl b=>some b
 |.int i=>some (i != 0)
 |.str s=>if s.length<=lim then some ((s.length:Int) != 0) else none
 |.lst xs=>some (!xs.isEmpty)
 |.tup xs=>some (!xs.isEmpty)
 |.non=>some false
 |.dct _=>none
 |.mpi _=>none
 |.mpt _=>none
 |.mpz _=>none
noncomputable def fE (n:Nat)(i:Int):Option Nat:=if 0<=i then (if i<n then some i.toNat else none) else if -(n:Int)<=i then some (i+n).toNat else none
noncomputable def iH (n d:Nat):Option Int->Nat
 |none=>d
 |some v=>if v<0 then (v+(n:Int)).toNat else min v.toNat n
noncomputable def cut {α:Type}(xs:List α)(lo hi:Option Int):List α :=
 let a:=iH xs.length 0 lo
 (xs.drop a).take (iH xs.length xs.length hi - a)
noncomputable def t6:D->D->Option D
 |.lst xs,.int i=>(fE xs.length i).bind fun j=>xs[j]?
 |.tup xs,.int i=>(fE xs.length i).bind fun j=>xs[j]?
 |_,_=>none
noncomputable def slD:D->Option Int->Option Int->Option D
 |.lst xs,lo,hi=>some (.lst (cut xs lo hi))
 |_,_,_=>none
noncomputable def D.inner:D->Bool
 |.lst xs=>D.flats xs
 |.tup xs=>D.flats xs
 |_=>true
noncomputable def gM (d:D)(R:List Nat):Rt:=if d.inner then .mv [] else .sh R
noncomputable def iF (d:D)(r:Rt):Rt:=if d.flat then .mv [] else .sh r.roots
noncomputable def cU:List Rt->Option (List Nat)
 |[]=>some []
 |.mv R::r=>(cU r).map (R ++ ·)
 |.sh _::_=>none
noncomputable def aU (l:List Rt):List Nat:=(l.map Rt.roots).flatten
noncomputable def zY:D->D->Rt->Option D
 |.lst xs,y,.mv []=>if D.flats xs&&decide (xs.length+1<=lim) then some (.lst (xs ++ [y])) else none
 |_,_,_=>none
noncomputable def mY (l:List Rt):Rt:=match cU l with
 |some R=>if R.Nodup then .mv R else .sh R
 |none=>.sh (aU l)
noncomputable def xa (T:String):D->Bool
 |.non=>T == "NoneType"
 |.bl _=>T == "bool" || T == "int"
 |.int _=>T == "int"
 |.str _=>T == "str"
 |.lst _=>T == "list"
 |.tup _=>T == "tuple"
 |.dct _=>false
 |.mpi _=>false
 |.mpt _=>false
 |.mpz _=>false
noncomputable def D.isBl:D->Bool
 |.bl _=>true
 |_=>false
noncomputable def allB:List D->Option Bool
 |[]=>some true
 |.bl b::r=>if b then allB r else some false
 |_::_=>none
noncomputable def anyB:List D->Option Bool
 |[]=>some false
 |.bl b::r=>if b then some true else anyB r
 |_::_=>none
noncomputable def qx:Int->List D->Option Int
 |a,[]=>some a
 |a,.int i::r=>qx (a+i) r
 |_,_::_=>none
noncomputable def z5:Int->List D->Option Int
 |a,[]=>some a
 |a,.int i::r=>z5 (if i > a then i else a) r
 |_,_::_=>none
noncomputable def aQ:Int->Int->Nat->List D
 |_,_,0=>[]
 |a,s,n+1=>.int a::aQ (a+s) s n
noncomputable def eZ (i:Int):Bool:=decide (-(2 ^ 62)<=i/\i<2 ^ 62)
noncomputable def Ao:List D->Option (List (List Int))
 |[]=>some []
 |.tup xs::r=>(xw xs).bind fun k=>if k.isEmpty then none else (Ao r).map (k :: ·)
 |_::_=>none
noncomputable def ER:List Int->List Int->Bool
 |[],[]=>false
 |[],_::_=>true
 |_::_,[]=>false
 |a::x,b::y=>if a==b then ER x y else decide (a<b)
noncomputable def Eb {α:Type}(f:Nat->Nat->Option Bool):PySem.W.KasT α->Option α
 |.ret a=>some a
 |.ask i j k=>(f i j).bind fun b=>Eb f (k b)
noncomputable def Dt (xs:List D):Option (List D):=if 2<=xs.length/\xs.length<64 then (Ao xs).bind fun ks =>
  (Eb (fun i j=>(ks[i]?).bind fun a=>(ks[j]?).map fun b=>ER a b) (PySem.W.kas_sort xs.length)).bind fun p =>
   if p.size<=64 then some (p.toList.map fun i=>xs.getD i .non) else none
 else none
noncomputable def insI (a:Int):List Int->List Int
 |[]=>[a]
 |b::l=>if a<=b then a::b::l else b::insI a l
noncomputable def bZ:List Int->List Int
 |[]=>[]
 |a::l=>insI a (bZ l)
noncomputable def vx:List D->Option D
 |[.lst xs]=>match xw xs with
  |some ns=>if ns.length<64 then some (.lst ((bZ ns).map .int)) else none
  |none=>(Dt xs).map .lst
 |_=>none
noncomputable def Ey:List D->Option D
 |[.lst xs]=>some (.int xs.length)
 |[.tup xs]=>some (.int xs.length)
 |_=>none
noncomputable def BW:List D->Option D
 |[.lst xs]=>some (.lst xs)
 |[.tup xs]=>some (.lst xs)
 |[.mpi ks]=>if ks.length<=lim then some (.lst (ks.map fun q=>.int q.1)) else none
 |_=>none
noncomputable def y2:List D->Option D
 |[.lst xs]=>some (.tup xs)
 |_=>none
noncomputable def EW:List D->Option D
 |[.int i]=>some (.int (if i<0 then -i else i))
 |_=>none
noncomputable def As (i j:Int):Int:=if j<i then j else i
noncomputable def BD:List D->Option D
 |[.int i,.int j]=>some (.int (if j<i then j else i))
 |[.int i,.int j,.int k,.int l]=>some (.int (As (As (As i j) k) l))
 |_=>none
noncomputable def BR:List D->Option D
 |[.int i,.int j]=>some (.int (if j > i then j else i))
 |_=>none
noncomputable def Ek:List D->Option D
 |[.lst xs]=>if xs.all D.isBl then (allB xs).map .bl else none
 |_=>none
noncomputable def EL:List D->Option D
 |[.lst xs]=>if xs.all D.isBl then (anyB xs).map .bl else none
 |_=>none
noncomputable def zV:List D->Option D
 |[.lst xs]=>(qx 0 xs).map .int
 |_=>none
noncomputable def EG (T:String):List D->Option D
 |[.dct _]=>none
 |[.mpi _]=>none
 |[.mpt _]=>none
 |[.mpz _]=>none
 |[d]=>some (.bl (xa T d))
 |_=>none
noncomputable def vw:List D->Option D
 |[.lst xs]=>some (.lst xs.reverse)
 |_=>none
noncomputable def qS:List D->Option D
 |[.int n]=>if eZ n=true/\n<=1000000 then some (.lst (aQ 0 1 n.toNat)) else none
 |[.int a,.int b]=>if eZ a=true/\eZ b=true/\b - a<=1000000 then some (.lst (aQ a 1 (b - a).toNat)) else none
 |_=>none
noncomputable def Eg:List D->Option D
 |[.str s]=>if s.length<=640 then (PySem.intText? s).map .int else none
 |[.int i]=>some (.int i)
 |[.bl b]=>some (.int (if b then 1 else 0))
 |_=>none
noncomputable def Ce:List D->Option D
 |[.int i,.int j]=>if 0<j/\j<1073741824 then some (.tup [.int (i / j),.int (i%j)]) else none
 |_=>none
noncomputable def Dp:List D->Option D
 |[.int i]=>if i.natAbs<1000000 then some (.str (Str.ofString (toString i))) else none
 |_=>none
noncomputable def BS:List D->Option D
 |[.lst [],.int d]=>some (.int d)
 | [.lst (.int i::r),.int _]=>(z5 i r).map .int
 |_=>none
noncomputable def iL:A3->List D->Option D
 |.sorted,ds=>vx ds
 |.len,ds=>Ey ds
 |.list,ds=>BW ds
 |.tuple,ds=>y2 ds
 |.abs,ds=>EW ds
 |.min2,ds=>BD ds
 |.max2,ds=>BR ds
 |.all,ds=>Ek ds
 |.any,ds=>EL ds
 |.sum,ds=>zV ds
 |.isi T,ds=>EG T ds
 |.lrev,ds=>vw ds
 |.lrng,ds=>qS ds
 |.int,ds=>Eg ds
 |.divm,ds=>Ce ds
 |.maxd,ds=>BS ds
 |.str,ds=>Dp ds
 |_,_=>none
noncomputable def DQ (k:Int):List D->Option Nat
 |[]=>some 0
 |.int i::r=>(DQ k r).map fun c=>if i==k then c+1 else c
 |_::_=>none
noncomputable def D9:List D->Option (List Str)
 |[]=>some []
 |.str s::r=>(D9 r).map (s :: ·)
 |_::_=>none
noncomputable def CS (x y:Str):List Str :=
 if (decide (x.length<y.length) || decide (Builtin.Str.strKind x<Builtin.Str.strKind y))=true then [x] else
 if (Builtin.Str.occurrences x y 0 x.length (x.length+1)).isEmpty=true then [x] else Builtin.Str.partsBetween x (Builtin.Str.occurrences x y 0 x.length (x.length+1)) y.length
noncomputable def mthD:Mth->D->List D->Option D
 |.sfind,.str x,[.str y]=>some (.int (match Builtin.Str.occurrences x y 0 x.length 1 with
  |i::_=>(i:Int)
  |[]=>-1))
 |.sindex,.str x,[.str y]=>match Builtin.Str.occurrences x y 0 x.length 1 with
  |i::_=>some (.int (i:Int))
  |[]=>none
 |.sindex,.lst xs,[.int k]=>(xw xs).bind fun ns=>if k∈ns/\ns.length<=lim then some (.int ((ns.idxOf k:Nat):Int)) else none
 |.sjoin,.str x,[.lst xs]=>(D9 xs).bind fun ys=>if (ys.map (·.length)).sum+ys.length*x.length<=lim then some (.str (PySem.Str.join x ys)) else none
 |.ssplit,.str x,[.str y]=>if 0<y.length/\x.length<=lim then some (.lst ((CS x y).map .str)) else none
 |.lcount,.lst xs,[.int k]=>(DQ k xs).map fun (c:Nat)=>.int (c:Int)
 |_,_,_=>none
noncomputable def Tg.drop (i:Nat):Tg->Tg
 |.sh R=>.sh (R.filter (· != i))
 |t=>t
noncomputable def aW (d:D)(R:List Nat):Tg:=if d.flat then .own else .sh R
noncomputable def put (env:En)(i:Nat)(d:D)(t:Tg):En:=(env.map fun (s:Slot)=>s.map fun (p:D×Tg)=>(p.1,p.2.drop i)).set i (some (d,t))
noncomputable def eV (R:List Nat):Tg->Bool
 |.sh Q=>Q.any fun q=>R.contains q
 |_=>false
noncomputable def kill (R:List Nat)(env:En):En:=env.mapIdx fun i (s:Slot)=>match s with
 | some (d,t)=>if R.contains i || eV R t then none else some (d,t)
 |none=>none
noncomputable def dD (env:En)(R:List Nat):Bool:=R.all fun i=>match env[i]? with
 | some (some (_,.own))=>true
 |_=>false
noncomputable def bindM (f:D->Tg):List Nat->List D->En->Option En
 |[],[],env=>some env
 |i::is,d::ds,env=>if i<env.length then bindM f is ds (put env i d (f d)) else none
 |_,_,_=>none
noncomputable def aV (R:List Nat):jL->D->En->Option En
 |.nm i,d,env=>if i<env.length then some (put env i d (aW d R)) else none
 |.tp is,.tup ds,env=>bindM (fun d=>aW d R) is ds env
 |_,_,_=>none
structure Tb where
 cl:Nat->List D->Rs (D×Bool)
 gl:Nat->D
 fuel:Nat
noncomputable def iS {α:Type}:Option α->Rs α
 |some a=>.ok a
 |none=>.bad
noncomputable def uT:D->Option (List D)
 |.lst xs=>some xs
 |.tup xs=>some xs
 |.str s=>if s.length<=lim then some (s.cps.toList.map fun c=>.str ⟨#[c]⟩) else none
 |_=>none
noncomputable def rB:D->Option (List D)
 |.lst xs=>some xs
 |_=>none
noncomputable def Az:D->Option (List D)
 |.lst xs=>some xs
 |.str s=>some (s.cps.toList.map fun c=>.str ⟨#[c]⟩)
 |_=>none
noncomputable def dI (f:D->Rs (Option (D×Rt))):List D->Rs (List (D×Rt))
 |[]=>.ok []
 |d::r=>(f d).bind fun o=>(dI f r).bind fun l=>.ok (match o with
  |some p=>p::l
  |none=>l)
noncomputable def bH (o:Option En)(c:En->Rs Bool)(e:En->Rs (D×Rt)):Rs (Option (D×Rt)):=match o with
 |none=>.bad
 |some env=>(c env).bind fun k=>if k then (e env).bind fun q=>.ok (some q) else .ok none
noncomputable def dE:Rt->Bool
 |.mv []=>true
 |_=>false
noncomputable def aY (i:Nat):Tg->List Nat
 |.own=>[i]
 |.lk=>[i]
 |.sh R=>R
noncomputable def md (env:En)(pick:List Nat):List Nat:=(pick.map fun j=>match env[j]? with
 | some (some (_,t))=>aY j t
 |_=>[]).flatten
noncomputable def bX (env:En)(own:Nat)(pick:List Nat):En:=List.replicate own none++pick.map fun i=>match env[i]? with
 | some (some (d,_))=>some (d,.sh [])
 |_=>none
mutual
noncomputable def ev (T:Tb):Ex->En->Rs (D×Rt)
 |.var i,env=>match env[i]? with
  | some (some (d,t))=>.ok (d,if d.flat then .mv [] else match t with
   |.own=>.mv [i]
   |.lk=>.mv [i]
   |.sh R=>.sh R)
  |_=>.bad
 |.cst d,_=>.ok (d,.mv [])
 |.glb k,_=>.ok (T.gl k,.mv [])
 |.bin op a b,env=>(ev T a env).bind fun p=>(ev T b env).bind fun q=>(iS (xD op p.1 q.1)).bind fun d=>.ok (d,gM d (p.2.roots++q.2.roots))
 |.neg a,env=>(ev T a env).bind fun p=>match p.1 with
  |.int i=>.ok (.int (-i),.mv [])
  |_=>.bad
 |.cmp op a b,env=>(ev T a env).bind fun p=>(ev T b env).bind fun q=>(iS (jG op p.1 q.1)).bind fun c=>.ok (.bl c,.mv [])
 |.chn op op' a b c,env=>(ev T a env).bind fun p=>(ev T b env).bind fun q=>(iS (jG op p.1 q.1)).bind fun k =>
   if k then (ev T c env).bind fun r=>(iS (jG op' q.1 r.1)).bind fun k'=>.ok (.bl k',.mv []) else .ok (.bl false,.mv [])
 |.and a b,env=>(ev T a env).bind fun p=>match p.1 with
  |.bl true=>ev T b env
  |.bl false=>.ok (.bl false,.mv [])
  |_=>.bad
 |.or a b,env=>(ev T a env).bind fun p=>match p.1 with
  |.bl true=>.ok (.bl true,.mv [])
  |.bl false=>ev T b env
  |_=>.bad
 |.not a,env=>(ev T a env).bind fun p=>match p.1 with
  |.bl k=>.ok (.bl (!k),.mv [])
  |_=>.bad
 |.ite c a b,env=>(ev T c env).bind fun p=>(iS (truth p.1)).bind fun k=>if k then ev T a env else ev T b env
 |.lst es,env=>(bN T es env).bind fun l=>if l.length<=lim then .ok (.lst (l.map (·.1)),mY (l.map (·.2))) else .bad
 |.tup es,env=>(bN T es env).bind fun l=>if l.length<=lim then .ok (.tup (l.map (·.1)),mY (l.map (·.2))) else .bad
 |.ix a i,env=>(ev T a env).bind fun p=>(ev T i env).bind fun q=>(iS (t6 p.1 q.1)).bind fun d=>.ok (d,iF d p.2)
 |.sl a lo hi,env=>(ev T a env).bind fun p=>(jb T lo env).bind fun l=>(jb T hi env).bind fun h=>(iS (slD p.1 l h)).bind fun d=>.ok (d,gM d p.2.roots)
 |.call f es,env=>(bN T es env).bind fun l=>(T.cl f (l.map (·.1))).bind fun r=>.ok (r.1,if r.2 then .mv [] else .sh (aU (l.map (·.2))))
 |.blt b es,env=>(bN T es env).bind fun l=>(iS (iL b (l.map (·.1)))).bind fun d=>.ok (d,gM d (aU (l.map (·.2))))
 |.mth m o es,env=>(ev T o env).bind fun p=>(bN T es env).bind fun l=>(iS (mthD m p.1 (l.map (·.1)))).bind fun d=>.ok (d,gM d (p.2.roots++aU (l.map (·.2))))
 |.comp own pick t it c e,env=>(eA T it env).bind fun p=>(dI (fun d=>bH (aV [] t d (bX env own pick)) (lD T c) (ev T e)) p.1).bind fun l =>
    if p.1.length<=lim then .ok (.lst (l.map (·.1)),if l.all (fun q=>q.1.flat || dE q.2) then .mv [] else .sh (p.2++md env pick)) else .bad
 |.dnew,_=>.ok (.mpi [],.mv [])
 |.ddsp l,_=>(iS (xY T.gl l [])).bind fun ks=>.ok (.mpi ks,.mv [])
 |.snoc a b,env=>(ev T a env).bind fun p=>(ev T b env).bind fun q=>(iS (zY p.1 q.1 q.2)).bind fun d=>.ok (d,.mv [])
 |.app g es,env=>(bN T es env).bind fun l=>(iS (g (l.map (·.1)))).bind fun d=>.ok (d,.mv [])
noncomputable def bN (T:Tb):jM->En->Rs (List (D×Rt))
 |.nil,_=>.ok []
 |.cons e es,env=>(ev T e env).bind fun p=>(bN T es env).bind fun l=>.ok (p::l)
noncomputable def jb (T:Tb):km->En->Rs (Option Int)
 |.none,_=>.ok none
 |.some e,env=>(ev T e env).bind fun p=>match p.1 with
  |.int i=>.ok (some i)
  |_=>.bad
noncomputable def lD (T:Tb):km->En->Rs Bool
 |.none,_=>.ok true
 |.some e,env=>(ev T e env).bind fun p=>iS (truth p.1)
noncomputable def eA (T:Tb):qa->En->Rs (List D×List Nat)
 |.seq e,env=>(ev T e env).bind fun p=>(iS (uT p.1)).bind fun l=>.ok (l,p.2.roots)
 |.rng1 a,env=>(ev T a env).bind fun p=>match p.1 with
  |.int j=>if eZ j then .ok (aQ 0 1 j.toNat,[]) else .bad
  |_=>.bad
 |.rng2 a b,env=>(ev T a env).bind fun p=>(ev T b env).bind fun q=>match p.1,q.1 with
  |.int i,.int j=>if eZ i&&eZ j then .ok (aQ i 1 (j - i).toNat,[]) else .bad
  |_,_=>.bad
 |.rng3 a b c,env=>(ev T a env).bind fun p=>(ev T b env).bind fun q=>(ev T c env).bind fun r=>match p.1,q.1,r.1 with
  |.int i,.int j,.int k=>if eZ i&&eZ j&&k != 0&&decide (k.natAbs<1073741824) then .ok (aQ i k (Builtin.Range.rangeSize i j k).toNat,[]) else .bad
  |_,_,_=>.bad
 |.enum e,env=>(ev T e env).bind fun p=>(iS (Az p.1)).bind fun l=>.ok (l.zipIdx.map fun q=>.tup [.int q.2,q.1],p.2.roots)
 |.zip a b,env=>(ev T a env).bind fun p=>(ev T b env).bind fun q=>(iS (rB p.1)).bind fun l=>(iS (Az q.1)).bind fun m=>.ok ((l.zip m).map fun z=>.tup [z.1,z.2],p.2.roots++q.2.roots)
 |.rev e,env=>(ev T e env).bind fun p=>(iS (rB p.1)).bind fun l=>.ok (l.reverse,p.2.roots)
end
noncomputable def D.at1:D->Option Int->Option (List D)
 |.lst xs,none=>some xs
 |.lst xs,some i=>(fE xs.length i).bind fun j=>match xs[j]? with
  | some (.lst ys)=>some ys
  |_=>none
 |.tup xs,some i=>(fE xs.length i).bind fun j=>match xs[j]? with
  | some (.lst ys)=>some ys
  |_=>none
 |_,_=>none
noncomputable def D.set1:D->Option Int->List D->D
 |.lst _,none,n=>.lst n
 |.lst xs,some i,n=>match fE xs.length i with
  |some j=>.lst (xs.set j (.lst n))
  |none=>.lst xs
 |.tup xs,some i,n=>match fE xs.length i with
  |some j=>.tup (xs.set j (.lst n))
  |none=>.tup xs
 |d,_,_=>d
noncomputable def ug:nk->List D->List D->Option (List D)
 |.append,xs,[d]=>some (xs ++ [d])
 |.extend,xs,[.lst ys]=>if D.flats ys then some (xs++ys) else none
 |.insert,xs,[.int i,d]=>if -(2 ^ 63)<=i/\i<2 ^ 63 then some (xs.take (iH xs.length 0 (some i))++d::xs.drop (iH xs.length 0 (some i))) else none
 |.pop,xs,[]=>if xs.isEmpty then none else some xs.dropLast
 |.reverse,xs,[]=>some xs.reverse
 |.clear,_,[]=>some []
 |_,_,_=>none
noncomputable def vW (xs:List D)(j:Nat):Option (D×List D):=match xs[j]? with
 |some r=>if r.flat then some (r,xs.eraseIdx j) else none
 |none=>none
noncomputable def Ej (xs:List D):List D->Option (D×List D)
 |[]=>vW xs (xs.length - 1)
 |[.int i]=>if -(2 ^ 63)<=i/\i<2 ^ 63 then (fE xs.length i).bind (vW xs) else none
 |_=>none
inductive Fl where
 | nx (env:En) | rt (d:D) (fr:Bool) | bk (env:En) | ct (env:En) | xc (e:Exc) (env:En) | bad
noncomputable def uz:Option En->Fl
 |some env=>.nx env
 |none=>.bad
noncomputable def qh (t:jL)(mv:Bool)(env:En)(p:D×Rt):Fl:=match t with
 |.nm i=>if i<env.length then (match p.2 with
  |.mv []=>.nx (put env i p.1 .own)
  |.mv R=>if mv then (if dD env R then .nx (put (kill R env) i p.1 .own) else .bad) else .nx (put env i p.1 (.sh (R.filter (· != i))))
  |.sh R=>.nx (put env i p.1 (.sh (R.filter (· != i))))) else .bad
 |.tp is=>match p.1 with
  |.tup ds=>match p.2 with
   |.mv []=>uz (bindM (fun _=>.own) is ds env)
   |r=>if is.all (fun i=>!r.roots.contains i) then uz (bindM (fun d=>aW d r.roots) is ds env) else .bad
  |_=>.bad
noncomputable def Fl.andThen (f:Fl)(k:En->Fl):Fl:=match f with
 |.nx env=>k env
 |x=>x
noncomputable def eY {α:Type}(env:En)(x:Rs α)(k:α->Fl):Fl:=match x with
 |.ok a=>k a
 |.exc e=>.xc e env
 |.bad=>.bad
noncomputable def bR (t:jL)(R:List Nat)(b:En->Fl):List D->En->Fl
 |[],env=>.nx env
 |d::r,env=>match aV R t d env with
  |none=>.bad
  |some env'=>match b env' with
   |.nx e=>bR t R b r e
   |.ct e=>bR t R b r e
   |.bk e=>.nx e
   |x=>x
noncomputable def oE (x:Nat)(b:En->Fl):List D->En->Fl
 |[],env=>.nx env
 |d::r,env=>if x<env.length then (match b (put env x d .own) with
  |.nx e=>oE x b r e
  |_=>.bad) else .bad
noncomputable def mq (c:En->Rs Bool)(b:En->Fl):Nat->En->Fl
 |0,_=>.bad
 |n+1,env=>eY env (c env) fun k=>if k then (match b env with
   |.nx e=>mq c b n e
   |.ct e=>mq c b n e
   |.bk e=>.nx e
   |x=>x) else .nx env
noncomputable def lock (R:List Nat)(env:En):En:=env.mapIdx fun i (s:Slot)=>match s with
 | some (d,.own)=>if R.contains i then some (d,.lk) else some (d,.own)
 |s=>s
noncomputable def unlock (R:List Nat)(env0 env:En):En:=env.mapIdx fun i (s:Slot)=>match s with
 | some (d,.lk)=>match env0[i]? with
  | some (some (_,.own))=>if R.contains i then some (d,.own) else some (d,.lk)
  |_=>some (d,.lk)
 |s=>s
noncomputable def nk.copies:nk->Bool
 |.extend=>true
 |_=>false
noncomputable def eU (x:Nat)(path:Option Int)(env:En)(d:D)(ys:List D)(rs:List Rt):Fl:=match cU rs with
 |none=>.bad
 |some R=>if R.Nodup&&dD env R && !R.contains x&&decide (ys.length<=lim) then .nx ((kill (x::R) env).set x (some (d.set1 path ys,.own))) else .bad
noncomputable def ownAt (env:En)(x:Nat):Option D:=match env[x]? with
 | some (some (d,.own))=>some d
 |_=>none
noncomputable def E8 (env:En)(x:Nat):En:=match ownAt env x with
 | some (.mpi ks)=>(kill [x] env).set x (some (.mpz ks,.own))
 |_=>env
noncomputable def augI:Operator->Int->Int->Option Int
 |.Add,i,j=>some (i+j)
 |.Sub,i,j=>some (i - j)
 |_,_,_=>none
noncomputable def augE (op:Operator)(x:Nat)(a:Int)(env:En)(p:D×Rt):Fl:=match p.1 with
 |.int b=>(match augI op a b with
  |some c=>qh (.nm x) false env (.int c,.mv [])
  |none=>.bad)
 |_=>.bad
noncomputable def intAt (env:En)(x:Nat):Option Int:=match env[x]? with
 | some (some (.int a,_))=>some a
 |_=>none
mutual
noncomputable def aT (T:Tb):St->En->Fl
 |.asg t e mv,env=>eY env (ev T e env) (qh t mv env)
 |.mut x path m es,env=>match ownAt env x with
  |none=>.bad
  |some d=>eY env (jb T path env) fun p=>match d.at1 p with
   |none=>.bad
   |some xs=>eY env (bN T es env) fun l=>match ug m xs (l.map (·.1)) with
    |none=>.bad
    |some ys=>if (aU (l.map (·.2))).contains x then .bad else eU x p env d ys (if m.copies then [] else l.map (·.2))
 |.putd x i v,env=>match ownAt env x with
  |none=>.bad
  |some d=>eY env (ev T v env) fun u=>eY env (ev T i env) fun q=>match putM d q.1 u.1 with
   |none=>.bad
   |some d'=>.nx ((kill [x] env).set x (some (d',.own)))
 |.setix x path i e,env=>match ownAt env x with
  |none=>.bad
  |some d=>eY env (ev T e env) fun v=>eY env (jb T path env) fun p=>match d.at1 p with
   |none=>.bad
   |some xs=>eY env (ev T i env) fun q=>match q.1 with
    |.int i=>(match fE xs.length i with
     |none=>.bad
     |some j=>eU x p env d (xs.set j v.1) [v.2])
    |_=>.bad
 |.aug x op e,env=>match intAt env x with
  |none=>.bad
  |some a=>eY env (ev T e env) (augE op x a env)
 |.popa y x es,env=>match ownAt env x with
  |none=>.bad
  |some d=>(match d.at1 none with
   |none=>.bad
   |some xs=>eY env (bN T es env) fun l=>match Ej xs (l.map (·.1)) with
    |none=>.bad
    |some q=>(eU x none env d q.2 []).andThen fun e=>qh (.nm y) false e (q.1,.mv []))
 |.apop y x es,env=>if y=x then .bad else match ownAt env x with
  |none=>.bad
  |some d=>(match d.at1 none with
   |none=>.bad
   |some xs=>eY env (bN T es env) fun l=>match Ej xs (l.map (·.1)) with
    |none=>.bad
    |some q=>(eU x none env d q.2 []).andThen fun e=>match ownAt e y with
     |none=>.bad
     |some dy=>(match dy.at1 none with
      |none=>.bad
      |some ys=>eU y none e dy (ys ++ [q.1]) []))
 |.frzd x s,env=>aT T s (E8 env x)
 |.expr e,env=>eY env (ev T e env) fun _=>.nx env
 |.ite c a b,env=>eY env (ev T c env) fun p=>match truth p.1 with
  |some true=>aC T a env
  |some false=>aC T b env
  |none=>.bad
 |.forr t it b,env=>eY env (eA T it env) fun p=>(match bR t p.2 (aC T b) p.1 (lock p.2 env) with
  |.nx e=>.nx (unlock p.2 env e)
  |x=>x)
 |.forw x e b,env=>eY env (ev T e env) fun p=>match p with
  | (.lst xs,.mv [])=>oE x (aC T b) xs env
  |_=>.bad
 |.whl c b,env=>mq (fun env=>(ev T c env).bind fun p=>iS (truth p.1)) (aC T b) T.fuel env
 |.ret e,env=>eY env (ev T e env) fun p=>.rt p.1 (match p.2 with
  |.mv R=>dD env R
  |.sh _=>false)
 |.retN,_=>.rt .non true
 |.brk,env=>.bk env
 |.cnt,env=>.ct env
 |.pass,env=>.nx env
noncomputable def aC (T:Tb):bW->En->Fl
 |.nil,env=>.nx env
 |.cons s r,env=>(aT T s env).andThen (aC T r)
end
structure Fn where
 ps:Nat
 slots:Nat
 body:bW
noncomputable def aD (ds:List D)(n:Nat):En:=ds.map (fun d=>some (d,aW d []))++List.replicate (n - ds.length) none
noncomputable def run (fns:List Fn)(gl:Nat->D)(fuel:Nat):Nat->Nat->List D->Rs (D×Bool)
 |0,_,_=>.bad
 |n+1,f,ds=>match fns[f]? with
  |none=>.bad
  |some F=>if ds.length=F.ps then (match aC ⟨run fns gl fuel n,gl,fuel⟩ F.body (aD ds F.slots) with
   |.rt d fr=>.ok (d,fr)
   |.nx _=>.ok (.non,true)
   |.xc e _=>.exc e
   |_=>.bad) else .bad
end Pc
end
section
namespace Pc
open PySem L2
noncomputable abbrev Frag:=PySem.W.Frag
inductive rh:List DictEntry->List (Key×Option Int)->Prop where
 | nil:rh [] []
 | cons {e:DictEntry}{es:List DictEntry}{k v:Int}{kvs:List (Key×Option Int)}{t u:Tok}(hh:e.hash=hashInt k) (hk:e.key = .int k t) (hv:e.val = .int v u) (r:rh es kvs):rh (e::es) ((.inl k,some v)::kvs)
 | si {e:DictEntry}{es:List DictEntry}{k:Str}{v:Int}{kvs:List (Key×Option Int)}{t u:Tok}(hk:e.key = .str k t) (hv:e.val = .int v u) (r:rh es kvs):rh (e::es) ((.inr k,some v)::kvs)
 | sn {e:DictEntry}{es:List DictEntry}{k:Str}{kvs:List (Key×Option Int)}{t:Tok}(hk:e.key = .str k t) (hv:e.val = .none) (r:rh es kvs):rh (e::es) ((.inr k,none)::kvs)
def vp (K:Frag)(a:Addr)(kvs:List (Key×Option Int)):Prop:=False
def xM (w:World)(K:Frag):Prop:=True
inductive ML where
 | l (vs:List V) | k (kvs:List (Key×V)) | t (kvs:List (List Key×V))
noncomputable def ML.o:ML->HO
 |.l vs=>.lst vs
 |.k kvs=>.dK kvs
 |.t kvs=>.dT kvs
noncomputable def Dz (ks:List (List Int)):List (List Key×V):=ks.map fun k=>(k.map .inl,.bl true)
noncomputable def uW:List V->Bool
 |[.int i,.int j]=>vG i j
 |_=>false
noncomputable def jV (K:Frag)(H:Hp)(a:Addr)(xs:List V):Prop :=
 H a=some (.tup xs) \/
  uW xs=false/\∃(o:Obj) (its:Array Value) (n:Nat),K.lookup a=some o/\o.cls = .type "tuple"/\o.data = .seq its n/\its.size<=sizeLine/\aL xs its.toList
noncomputable def uP (K:Frag)(H:Hp):MV->V->Prop
 |.tr,v=>v = .bl true
 |.int i,v=>v = .int i
 |.tup is,v=>∃ b,v = .ref b/\jV K H b (is.map .int)
noncomputable def jE (K:Frag)(H:Hp):List (Int×MV)->List (Key×V)->Prop
 |[],[]=>True
 |q::r,p::s=>p.1 = .inl q.1/\uP K H q.2 p.2/\jE K H r s
 |_,_=>False
theorem uP.keep {K:Frag}{H H':Hp}(t:∀ b vs,jV K H b vs->jV K H' b vs):∀{m:MV}{v:V},uP K H m v->uP K H' m v
 |.tr,_,h=>h
 |.int _,_,h=>h
 |.tup _,_,⟨b,e,h⟩=>⟨b,e,t _ _ h⟩
theorem jE.keep {K:Frag}{H H':Hp}(t:∀ b vs,jV K H b vs->jV K H' b vs):∀{q:List (Int×MV)}{x:List (Key×V)},jE K H q x->jE K H' q x
 |[],[],h=>h
 |_::_,_::_,⟨a,b,c⟩=>⟨a,b.keep t,c.keep t⟩
 |[],_::_,h=>h.elim
 |_::_,[],h=>h.elim
theorem jE.len {K:Frag}{H:Hp}:∀{q:List (Int×MV)}{x:List (Key×V)},jE K H q x->x.length=q.length
 |[],[],_=>rfl
 |_::_,_::_,⟨_,_,c⟩=>by rw[az,az,c.len]
 |[],_::_,h=>h.elim
 |_::_,[],h=>h.elim
theorem jV.sq {K:Frag}{H:Hp}{a:Addr}{xs:List V}(h:jV K H a xs):jm K H a xs:=h.imp .inl And.right
mutual
inductive Rep (K:Frag) (H:Hp):D->V->List Addr->Prop where
 | non:Rep K H .non .non []
 | bl (b:Bool):Rep K H (.bl b) (.bl b) []
 | int (i:Int):Rep K H (.int i) (.int i) []
 | str (s:Str):Rep K H (.str s) (.str s) []
 | lst {p:Addr}{vs:List V}{ds:List D}{G:List Addr}(h:Rd H p (.lst vs)) (r:aG K H ds vs G):Rep K H (.lst ds) (.ref p) (p::G)
 | tup {p:Addr}{vs:List V}{ds:List D}{G:List Addr}(h:jV K H p vs) (r:aG K H ds vs G):Rep K H (.tup ds) (.ref p) G
 | dct {p:Addr}{kvs:List (Key×Option Int)}(h:vp K p kvs):Rep K H (.dct kvs) (.ref p) []
 | mpi {p:Addr}{ks:List (Int×MV)}{xs:List (Key×V)}(h:H p=some (.dK xs)) (r:jE K H ks xs):Rep K H (.mpi ks) (.ref p) [p]
 | mpt {p:Addr}{ks:List (List Int)}(h:Rd H p (.dT (Dz ks))):Rep K H (.mpt ks) (.ref p) [p]
 | mpz {p C:Addr}{o:Obj}(h:H p=some (.frz o (.own p))) (r:o.cls = .ref C):Rep K H (.mpz [(((C:Nat):Int),.tr)]) (.ref p) []
inductive aG (K:Frag) (H:Hp):List D->List V->List Addr->Prop where
 | nil:aG K H [] [] []
 | cons {d:D}{v:V}{ds:List D}{vs:List V}{G G':List Addr}(h:Rep K H d v G) (r:aG K H ds vs G'):aG K H (d::ds) (v::vs) (G++G')
end
theorem sV {H H':Hp}{b:Addr}(k:∀ u:HO,H b=some u->H' b=some u){o:HO}(h:Rd H b o):Rd H' b o:=by
 rcases h with h | ⟨u,h⟩
 ·exact .inl (k _ h)
 ·exact .inr ⟨u,k _ h⟩
def Eu (H H':Hp):Prop:=∀ b o u,H b=some (.frz o u)->H' b=some (.frz o u)
section
variable {K:Frag}{H H':Hp}
theorem Rep.keep (t:∀ b vs,jV K H b vs->jV K H' b vs)(z:Eu H H'){d:D}{v:V}{G:List Addr}(h:Rep K H d v G):(∀ b∈G,∀ u:HO,H b=some u->H' b=some u)->Rep K H' d v G :=
 Rep.rec (motive_1:=fun d v G _=>(∀ b∈G,∀ u:HO,H b=some u->H' b=some u)->Rep K H' d v G) (motive_2:=fun ds vs G _=>(∀ b∈G,∀ u:HO,H b=some u->H' b=some u)->aG K H' ds vs G)
  (fun _=>.non) (fun b _=>.bl b) (fun i _=>.int i) (fun s _=>.str s) (fun h _ ih k=>.lst (sV (k _ aq) h) (ih fun b hb=>k b (ag _ hb)))
  (fun h _ ih k=>.tup (t _ _ h) (ih k)) (fun h _=>.dct h) (fun h r k=>.mpi (k _ aq _ h) (r.keep t)) (fun h k=>.mpt (sV (k _ aq) h)) (fun h r _=>.mpz (z _ _ _ h) r)
  (fun _=>.nil) (fun _ _ i1 i2 k=>.cons (i1 fun b hb=>k b (ay _ hb)) (i2 fun b hb=>k b (ao _ hb))) h
theorem aG.keep (t:∀ b vs,jV K H b vs->jV K H' b vs)(z:Eu H H'){ds:List D}{vs:List V}{G:List Addr}(h:aG K H ds vs G):(∀ b∈G,∀ u:HO,H b=some u->H' b=some u)->aG K H' ds vs G :=
 aG.rec (motive_1:=fun d v G _=>True) (motive_2:=fun ds vs G _=>(∀ b∈G,∀ u:HO,H b=some u->H' b=some u)->aG K H' ds vs G)
  trivial (fun _=>trivial) (fun _=>trivial) (fun _=>trivial) (fun _ _ _=>trivial) (fun _ _ _=>trivial) (fun _=>trivial) (fun _ _=>trivial) (fun _=>trivial) (fun _ _=>trivial)
  (fun _=>.nil) (fun h _ _ i2 k=>.cons (Rep.keep t z h fun b hb=>k b (ay _ hb)) (i2 fun b hb=>k b (ao _ hb))) h
theorem aE.rd (e:aE H H'){b:Addr}{o:HO}(h:Rd H b o):Rd H' b o:=by
 rcases h with h | ⟨u,h⟩
 ·exact .inl (e _ _ h)
 ·exact .inr ⟨u,e _ _ h⟩
theorem aE.tqT (e:aE H H'){b:Addr}{vs:List V}(h:jV K H b vs):jV K H' b vs:=by
 rcases h with h | h
 ·exact .inl (e _ _ h)
 ·exact .inr h
theorem aE.sqT (e:aE H H'){b:Addr}{vs:List V}(h:jm K H b vs):jm K H' b vs:=by
 rcases h with h | h
 ·exact .inl (aE.rd e h)
 ·exact .inr h
theorem Rep.same (e:aE H H'){d:D}{v:V}{G:List Addr}(h:Rep K H d v G):Rep K H' d v G:=h.keep (fun _ _=>aE.tqT e) (fun _ _ _ h=>e _ _ h) fun _ _ _ h=>e _ _ h
theorem aG.same (e:aE H H'){d:List D}{v:List V}{G:List Addr}(h:aG K H d v G):aG K H' d v G:=h.keep (fun _ _=>aE.tqT e) (fun _ _ _ h=>e _ _ h) fun _ _ _ h=>e _ _ h
theorem Rep.flat {d:D}{v:V}{G:List Addr}(h:Rep K H d v G):d.flat=true->G=[] :=
 Rep.rec (motive_1:=fun d v G _=>d.flat=true->G=[]) (motive_2:=fun ds vs G _=>D.flats ds=true->G=[])
  (fun _=>rfl) (fun _ _=>rfl) (fun _ _=>rfl) (fun _ _=>rfl) (fun _ _ _ f=>by simp[D.flat] at f) (fun _ _ ih f=>ih (by simpa[D.flat] using f)) (fun _ _=>rfl) (fun _ _ f=>by simp[D.flat] at f) (fun _ f=>by simp[D.flat] at f) (fun _ _ _=>rfl)
  (fun _=>rfl) (fun _ _ i1 i2 f=>by
   simp only[D.flats,Bool.and_eq_true] at f;rw[i1 f.1,i2 f.2];rfl) h
theorem aG.flat {ds:List D}{vs:List V}{G:List Addr}(h:aG K H ds vs G):D.flats ds=true->G=[] :=
 aG.rec (motive_1:=fun d v G _=>True) (motive_2:=fun ds vs G _=>D.flats ds=true->G=[])
  trivial (fun _=>trivial) (fun _=>trivial) (fun _=>trivial) (fun _ _ _=>trivial) (fun _ _ _=>trivial) (fun _=>trivial) (fun _ _=>trivial) (fun _=>trivial) (fun _ _=>trivial)
  (fun _=>rfl) (fun h _ _ i2 f=>by
   simp only[D.flats,Bool.and_eq_true] at f;rw[Rep.flat h f.1,i2 f.2];rfl) h
theorem Rep.live {d:D}{v:V}{G:List Addr}(h:Rep K H d v G):∀ a∈G,∃ vs:ML,Rd H a vs.o :=
 Rep.rec (motive_1:=fun d v G _=>∀ a∈G,∃ vs:ML,Rd H a vs.o) (motive_2:=fun ds vs G _=>∀ a∈G,∃ vs:ML,Rd H a vs.o)
  (fun _ h=>(nomatch h)) (fun _ _ h=>(nomatch h)) (fun _ _ h=>(nomatch h)) (fun _ _ h=>(nomatch h)) (fun h _ ih a m=>(gc.mp m).elim (fun e=>e ▸ ⟨.l _,h⟩) (ih a)) (fun _ _ ih=>ih) (fun _ _ h=>(nomatch h))
  (fun h _ a m=>(List.mem_singleton.mp m) ▸ ⟨.k _,.inl h⟩) (fun h a m=>(List.mem_singleton.mp m) ▸ ⟨.t _,h⟩) (fun _ _ _ h=>(nomatch h))
  (fun _ h=>(nomatch h)) (fun _ _ i1 i2 a m=>(List.mem_append.mp m).elim (i1 a) (i2 a)) h
theorem aG.live {ds:List D}{vs:List V}{G:List Addr}(h:aG K H ds vs G):∀ a∈G,∃ vs:ML,Rd H a vs.o :=
 aG.rec (motive_1:=fun d v G _=>True) (motive_2:=fun ds vs G _=>∀ a∈G,∃ vs:ML,Rd H a vs.o)
  trivial (fun _=>trivial) (fun _=>trivial) (fun _=>trivial) (fun _ _ _=>trivial) (fun _ _ _=>trivial) (fun _=>trivial) (fun _ _=>trivial) (fun _=>trivial) (fun _ _=>trivial)
  (fun _ h=>(nomatch h)) (fun h _ _ i2 a m=>(List.mem_append.mp m).elim (Rep.live h a) (i2 a)) h
theorem Rd.ne_none {a:Addr}{u:HO}(h:Rd H a u):H a≠none:=by
 rcases h with h | ⟨o,h⟩<;>rw[h]<;>simp
theorem Rep.nn {d:D}{v:V}{G:List Addr}(h:Rep K H d v G){a:Addr}(m:a∈G):H a≠none:=let ⟨_,q⟩:=h.live a m;Rd.ne_none q
theorem aG.nn {d:List D}{v:List V}{G:List Addr}(h:aG K H d v G){a:Addr}(m:a∈G):H a≠none:=let ⟨_,q⟩:=h.live a m;Rd.ne_none q
theorem aG.len:∀{ds:List D}{vs:List V}{G:List Addr},aG K H ds vs G->ds.length=vs.length
 |_,_,_,.nil=>rfl
 |_,_,_,.cons _ r=>by simp[aG.len r]
theorem aG.get:∀{ds:List D}{vs:List V}{G:List Addr}{i:Nat}{d:D},aG K H ds vs G->ds[i]? = some d->∃ v G',vs[i]? = some v/\Rep K H d v G'/\G'.Sublist G
 |_,_,_,_,_,.nil,e=>by simp at e
 | _,_,_,0,_,.cons h r,e=>by
  simp at e;subst e;exact⟨_,_,rfl,h,List.sublist_append_left _ _⟩
 | _,_,_,i+1,d,.cons h r,e=>by
  obtain⟨v,G',a,b,c⟩:=aG.get (i:=i) (d:=d) r (by simpa using e);exact⟨v,G',by simpa using a,b,c.trans (List.sublist_append_right _ _)⟩
theorem aG.append:∀{ds es:List D}{vs us:List V}{G G':List Addr},aG K H ds vs G->aG K H es us G'->aG K H (ds++es) (vs++us) (G++G')
 |_,_,_,_,_,_,.nil,s=>s
 | _,_,_,_,_,_,.cons h r,s=>by
  rw[au];exact .cons h (aG.append r s)
theorem aG.take:∀{ds:List D}{vs:List V}{G:List Addr}(n:Nat),aG K H ds vs G->∃ G',aG K H (ds.take n) (vs.take n) G'/\G'.Sublist G
 |_,_,_,0,_=>⟨[],by simpa using .nil,by simp⟩
 |_,_,_,_+1,.nil=>⟨[],by simpa using .nil,by simp⟩
 | _,_,_,n+1,.cons h r=>by
  obtain⟨G',a,b⟩:=aG.take n r;exact⟨_,by simpa using .cons h a,List.Sublist.append (List.Sublist.refl _) b⟩
theorem aG.drop:∀{ds:List D}{vs:List V}{G:List Addr}(n:Nat),aG K H ds vs G->∃ G',aG K H (ds.drop n) (vs.drop n) G'/\G'.Sublist G
 |_,_,_,0,r=>⟨_,by simpa using r,List.Sublist.refl _⟩
 |_,_,_,_+1,.nil=>⟨[],by simpa using .nil,by simp⟩
 | _,_,_,n+1,.cons h r=>by
  obtain⟨G',a,b⟩:=aG.drop n r;exact⟨_,by simpa using a,b.trans (List.sublist_append_right _ _)⟩
theorem aG.split:∀{ds:List D}{vs:List V}{G:List Addr}{i:Nat}{d:D},aG K H ds vs G->ds[i]? = some d->∃ v G1 G' G2,vs[i]? = some v/\G=G1++(G'++G2)/\Rep K H d v G' /\
  ∀(H':Hp) (d':D) (v':V) (N:List Addr),(∀ b vs,jV K H b vs->jV K H' b vs)->Eu H H'->(∀ b∈G1++G2,∀ u:HO,H b=some u->H' b=some u)->Rep K H' d' v' N->aG K H' (ds.set i d') (vs.set i v') (G1++(N++G2))
 |_,_,_,_,_,.nil,e=>by simp at e
 | _,_,_,0,_,.cons (G:=G) (G':=G') h r,e=>by
  simp at e;subst e;refine⟨_,[],_,_,rfl,rfl,h,fun H' d' v' N t z k n=>?_⟩;show aG K H' (_::_) (_::_) (N++G');exact .cons n (r.keep t z fun b hb=>k b (by simpa using hb))
 | _,_,_,i+1,d,.cons (G:=G) (G':=G') h r,e=>by
  obtain⟨v,G1,Gi,G2,a,b,c,f⟩:=aG.split (i:=i) (d:=d) r (by simpa using e);refine⟨v,G++G1,Gi,G2,by simpa using a,by rw[b];simp,c,fun H' d' v' N t z k n=>?_⟩;have q:=aG.cons (h.keep t z fun b hb=>k b (by simp[hb])) (f H' d' v' N t z (fun b hb=>k b (by simp at hb ⊢;exact Or.inr hb)) n);rw[<-au] at q;exact q
end
noncomputable def be:Tg->Bool
 |.own=>true
 |.lk=>true
 |.sh _=>false
structure RE (K:Frag)(P:Addr->Prop)(env:En)(σ:L2.St)(H:Hp)(F:Nat->List Addr):Prop where
 len:env.length=σ.length
 val:∀ i d t,env[i]? = some (some (d,t))->∃ v,σ[i]? = some (some v)/\Rep K H d v (F i)
 emp:∀ i,(∀ d t,env[i]?≠some (some (d,t)))->F i=[]
 one:∀ i d t,env[i]? = some (some (d,t))->be t=true->(F i).Nodup/\(∀ a∈F i,∃ vs:ML,H a=some vs.o) /\
  ∀ a∈F i,∀ j d' t',env[j]? = some (some (d',t'))->a∈F j->i∈aY j t'
 wr:∀ i d,env[i]? = some (some (d,.own))->∀ a∈F i,¬ P a
 pl:∀ a,P a->H a≠none
structure bP (env:En)(F:Nat->List Addr)(H:Hp)(r:Rt)(H':Hp)(G:List Addr):Prop where
 cont:∀ a∈G,H a=none\/∃ i d t,a∈F i/\env[i]? = some (some (d,t))/\∀ q∈aY i t,q∈r.roots
 mv:∀ R,r = .mv R->G.Nodup/\(∀ a∈G,∃ vs:ML,H' a=some vs.o)/\∀ a∈G,H a=none\/∃ i d t,i∈R/\a∈F i/\env[i]? = some (some (d,t))/\be t=true
theorem bP.nil {env:En}{F:Nat->List Addr}{H H':Hp}{r:Rt}:bP env F H r H' []:=⟨fun _ h=>(nomatch h),fun _ _=>⟨cy,fun _ h=>(nomatch h),fun _ h=>(nomatch h)⟩⟩
theorem RE.same {K:Frag}{P:Addr->Prop}{env:En}{σ:L2.St}{H H':Hp}{F:Nat->List Addr}(r:RE K P env σ H F)(e:aE H H'):RE K P env σ H' F where
 len:=r.len
 val:=fun i d t h=>let ⟨v,a,b⟩:=r.val i d t h;⟨v,a,b.same e⟩
 emp:=r.emp
 one:=fun i d t h o=>let ⟨a,b,c⟩:=r.one i d t h o;⟨a,fun x hx=>let ⟨vs,q⟩:=b x hx;⟨vs,e _ _ q⟩,c⟩
 wr:=r.wr
 pl:=fun a h z=>by
  cases q:H a with
  |none=>exact r.pl a h q
  |some o=>rw[e _ _ q] at z;cases z
theorem aE.no {H H':Hp}(e:aE H H'){a:Addr}(h:H' a=none):H a=none:=by
 cases q:H a with
 |none=>rfl
 |some o=>rw[e _ _ q] at h;cases h
theorem bP.back {env:En}{F:Nat->List Addr}{H H1 H':Hp}{r:Rt}{G:List Addr}(h:bP env F H1 r H' G)(e:aE H H1):bP env F H r H' G where
 cont:=fun a ha=>(h.cont a ha).imp (aE.no e) id
 mv:=fun R hr=>let ⟨a,b,c⟩:=h.mv R hr;⟨a,b,fun x hx=>(c x hx).imp (aE.no e) id⟩
theorem bP.later {env:En}{F:Nat->List Addr}{H H1 H':Hp}{r:Rt}{G:List Addr}(h:bP env F H r H1 G)(e:aE H1 H'):bP env F H r H' G where
 cont:=h.cont
 mv:=fun R hr=>let ⟨a,b,c⟩:=h.mv R hr;⟨a,fun x hx=>let ⟨vs,q⟩:=b x hx;⟨vs,e _ _ q⟩,c⟩
theorem bP.part {env:En}{F:Nat->List Addr}{H H':Hp}{r r':Rt}{G G':List Addr}(h:bP env F H r H' G)(hs:∀ a∈G',a∈G)(hr:∀ q∈r.roots,q∈r'.roots)(hn:∀ R,r'≠.mv R):bP env F H r' H' G' where
 cont:=fun a ha=>(h.cont a (hs a ha)).imp id fun ⟨i,d,t,x,y,z⟩=>⟨i,d,t,x,y,fun q hq=>hr q (z q hq)⟩
 mv:=fun R e=>absurd e (hn R)
noncomputable def oR (F:Nat->List Addr)(i:Nat)(G:List Addr):Nat->List Addr:=fun j=>if j=i then G else F j
theorem dN {F:Nat->List Addr}{i:Nat}{G:List Addr}:oR F i G i=G:=if_pos rfl
theorem cZ {F:Nat->List Addr}{i j:Nat}{G:List Addr}(h:j≠i):oR F i G j=F j:=if_neg h
theorem qr (env:En)(i:Nat)(d:D)(t:Tg):(put env i d t).length=env.length:=by simp[put]
theorem dC {env:En}{i:Nat}{d:D}{t:Tg}(h:i<env.length):(put env i d t)[i]? = some (some (d,t)):=by
 unfold put;rw[List.getElem?_set_self (by simpa using h)]
theorem vi {env:En}{i j:Nat}{d:D}{t:Tg}(h:j≠i):(put env i d t)[j]? = (env[j]?).map fun s=>s.map fun p=>(p.1,p.2.drop i):=by
 unfold put;rw[List.getElem?_set_ne (eg h),List.getElem?_map]
theorem fW {env:En}{i j:Nat}{d d':D}{t t':Tg}(h:j≠i)(e:(put env i d t)[j]? = some (some (d',t'))):∃ t0,env[j]? = some (some (d',t0))/\t'=t0.drop i:=by
 rw[vi h] at e;cases q:env[j]? with
 |none=>rw[q] at e;cases e
 |some s =>
  rw[q] at e;cases s with
  |none=>cases e
  |some p =>
   obtain⟨a,b⟩:=p;simp only[Option.map_some,Option.some.injEq,Prod.mk.injEq] at e;obtain⟨rfl,rfl⟩:=e;exact⟨b,rfl,rfl⟩
theorem jz (t:Tg)(i:Nat):be (t.drop i)=be t:=by cases t<;>rfl
theorem jN {t:Tg}{i j k:Nat}(h:k∈aY j t)(hk:k≠i):k∈aY j (t.drop i):=by
 cases t with
 |own=>exact h
 |lk=>exact h
 |sh R =>
  simp only[aY,Tg.drop,List.mem_filter] at h ⊢;exact⟨h,by simpa using hk⟩
section
variable {K:Frag}{P:Addr->Prop}{env:En}{σ:L2.St}{H:Hp}{F:Nat->List Addr}
theorem RE.nn (re:RE K P env σ H F){j:Nat}{d:D}{t:Tg}(h:env[j]? = some (some (d,t))){a:Addr}(m:a∈F j):H a≠none:=let ⟨_,_,r⟩:=re.val j d t h;r.nn m
theorem RE.at' (re:RE K P env σ H F){j:Nat}{a:Addr}(m:a∈F j):∃ d t,env[j]? = some (some (d,t)):=by
 by_cases h:∃ d t,env[j]? = some (some (d,t))
 ·exact h
 ·rw[re.emp j fun d t e=>h ⟨d,t,e⟩] at m;cases m
theorem RE.put (re:RE K P env σ H F){i:Nat}{d:D}{v:V}{G:List Addr}{t:Tg}(hi:i<env.length)(rp:Rep K H d v G)
  (ho:be t=true->G.Nodup/\(∀ a∈G,∃ vs:ML,H a=some vs.o)/\∀ a∈G,∀ j,j≠i->a∉F j) (hw:t = .own->∀ a∈G,¬ P a)
  (hs:∀ a∈G,∀ j d' t',j≠i->env[j]? = some (some (d',t'))->be t'=true->a∈F j->j∈aY i t):RE K P (put env i d t) (σ.set i (some v)) H (oR F i G) where
 len:=by rw[qr,da];exact re.len
 val:=fun j d' t' e=>by
  by_cases h:j=i
  ·subst h;rw[dC hi] at e;cases e;exact⟨v,List.getElem?_set_self (by rw[<-re.len];exact hi),by rw[dN];exact rp⟩
  ·obtain⟨t0,e0,rfl⟩:=fW h e;obtain⟨u,a,b⟩:=re.val j d' t0 e0;exact⟨u,by rw[List.getElem?_set_ne (eg h)];exact a,by rw[cZ h];exact b⟩
 emp:=fun j h=>by
  by_cases hj:j=i
  ·subst hj;exact absurd (dC hi) (h d t)
  ·rw[cZ hj];refine re.emp j fun d' t' e=>h d' (t'.drop i) ?_
   rw[vi hj,e];rfl
 one:=fun j d' t' e o=>by
  by_cases h:j=i
  ·subst h;rw[dC hi] at e;cases e;obtain⟨a,b,c⟩:=ho o;rw[dN];refine⟨a,b,fun x hx k d2 t2 e2 m=>?_⟩;by_cases hk:k=j
   ·subst hk;rw[dC hi] at e2;cases e2;cases t<;>simp_all [aY,be]
   ·rw[cZ hk] at m;exact absurd m (c x hx k hk)
  ·obtain⟨t0,e0,rfl⟩:=fW h e;rw[jz] at o;obtain⟨a,b,c⟩:=re.one j d' t0 e0 o;rw[cZ h];refine⟨a,b,fun x hx k d2 t2 e2 m=>?_⟩;by_cases hk:k=i
   ·subst hk;rw[dC hi] at e2;cases e2;rw[dN] at m;exact hs x m j d' t0 h e0 o hx
   ·rw[cZ hk] at m;obtain⟨t3,e3,rfl⟩:=fW hk e2;exact jN (c x hx k d2 t3 e3 m) h
 wr:=fun j d' e=>by
  by_cases h:j=i
  ·subst h;rw[dC hi] at e;cases e;rw[dN];exact hw rfl
  ·obtain⟨t0,e0,q⟩:=fW h e;rw[cZ h];cases t0 with
   |own=>exact re.wr j d' e0
   |lk=>cases q
   |sh R=>cases q
 pl:=re.pl
theorem RE.forget (re:RE K P env σ H F){env':En}(hl:env'.length=env.length)(he:∀(i:Nat) (d:D) (t:Tg),env'[i]? = some (some (d,t))->env[i]? = some (some (d,t))) :
  RE K P env' σ H (fun i=>match env'[i]? with | some (some _)=>F i | _=>[]) where
 len:=hl.trans re.len
 val:=fun i d t e=>by rw[e];exact re.val i d t (he i d t e)
 emp:=fun i h=>by
  split
  ·rename_i p q;exact absurd q (h p.1 p.2)
  ·rfl
 one:=fun i d t e o=>by
  rw[e];obtain⟨a,b,c⟩:=re.one i d t (he i d t e) o;refine⟨a,b,fun x hx k d2 t2 e2 m=>?_⟩;rw[e2] at m;exact c x hx k d2 t2 (he k d2 t2 e2) m
 wr:=fun i d e=>by rw[e];exact re.wr i d (he i d _ e)
 pl:=re.pl
end
theorem cV (R:List Nat)(env:En):(kill R env).length=env.length:=by simp[kill]
theorem cF {R:List Nat}{env:En}{i:Nat}{d:D}{t:Tg}(e:(kill R env)[i]? = some (some (d,t))):env[i]? = some (some (d,t))/\i∉R/\∀ q∈R,q∉aY i t:=by
 unfold kill at e;rw[List.getElem?_mapIdx] at e;cases q:env[i]? with
 |none=>rw[q] at e;cases e
 |some s =>
  rw[q] at e;cases s with
  |none=>cases e
  |some p =>
   obtain⟨a,b⟩:=p;simp only[Option.map_some,Option.some.injEq] at e;by_cases h:(R.contains i || eV R b)=true
   ·rw[if_pos h] at e;cases e
   ·rw[if_neg h] at e;cases e;rw[gf,not_or] at h;have h1:i∉R:=fun z=>h.1 (by simpa using z)
    refine⟨rfl,h1,fun r hq z=>?_⟩;cases t with
    |own=>simp only[aY,List.mem_singleton] at z;subst z;exact h1 hq
    |lk=>simp only[aY,List.mem_singleton] at z;subst z;exact h1 hq
    |sh Q =>
     apply h.2;simp only[eV,List.any_eq_true];exact⟨r,z,by simpa using hq⟩
section
variable {K:Frag}{P:Addr->Prop}{env:En}{σ:L2.St}{H:Hp}{F:Nat->List Addr}
theorem ja {p b:Addr}{ws vs:List V}{o:HO}(hp:H p=some (.lst ws))(h:jV K H b vs):jV K (upd H p o) b vs:=by
 rcases h with h | h
 ·exact .inl (by rw[aF];exact h;intro z;subst z;rw[hp] at h;cases h)
 ·exact .inr h
theorem vt {p b:Addr}{ws:ML}{vs:List V}{o:HO}(hp:H p=some ws.o)(h:jV K H b vs):jV K (upd H p o) b vs:=by
 rcases h with h | h
 ·exact .inl (by rw[aF];exact h;intro z;subst z;rw[hp] at h;cases ws<;>cases h)
 ·exact .inr h
theorem Bz {p b:Addr}{o o':HO}(hne:b≠p)(h:Rd H b o):Rd (upd H p o') b o:=by
 rcases h with h | ⟨u,h⟩
 ·exact .inl (by rw[aF hne];exact h)
 ·exact .inr ⟨u,by rw[aF hne];exact h⟩
theorem ji {H:Hp}{p:Addr}{ws:ML}{o:HO}(hp:H p=some ws.o):Eu H (L2.upd H p o):=fun b ob u h=>by
 rw[aF fun e=>?_]
 ·exact h
 ·subst e;rw[hp] at h;cases ws<;>cases h
theorem Rep.upd {p:Addr}{ws:List V}{o:HO}{d:D}{v:V}{G:List Addr}(hp:H p=some (.lst ws))(h:Rep K H d v G)(hn:p∉G):Rep K (upd H p o) d v G :=
 h.keep (fun _ _=>ja hp) (ji (ws:=.l _) hp) fun b hb _ h=>(aF (fun (z:b=p)=>hn (z ▸ hb))).trans h
theorem Rep.updM {p:Addr}{ws:ML}{o:HO}{d:D}{v:V}{G:List Addr}(hp:H p=some ws.o)(h:Rep K H d v G)(hn:p∉G):Rep K (L2.upd H p o) d v G :=
 h.keep (fun _ _=>vt hp) (ji hp) fun b hb _ h=>(aF (fun (z:b=p)=>hn (z ▸ hb))).trans h
theorem aG.upd {p:Addr}{ws:List V}{o:HO}{d:List D}{v:List V}{G:List Addr}(hp:H p=some (.lst ws))(h:aG K H d v G)(hn:p∉G):aG K (upd H p o) d v G :=
 h.keep (fun _ _=>ja hp) (ji (ws:=.l _) hp) fun b hb _ h=>(aF (fun (z:b=p)=>hn (z ▸ hb))).trans h
noncomputable def ox (F:Nat->List Addr)(env:En)(x:Nat)(R:List Nat)(G:List Addr):Nat->List Addr:=fun j=>if j=x then G else match (kill (x::R) env)[j]? with
 | some (some _)=>F j
 |_=>[]
theorem RE.mutateM (re:RE K P env σ H F){x:Nat}{d d':D}{v:V}{p:Addr}{vs:ML}{R:List Nat}{N G:List Addr}(hx:env[x]? = some (some (d,.own)))(hv:σ[x]? = some (some v))(hp:p∈F x)
  (rp:Rep K (upd H p vs.o) d' v G) (nd:G.Nodup) (sub:∀ a∈G,a∈F x\/a∈N)
  (hN:∀ a∈N,(∃ vs:ML,H a=some vs.o)/\¬ P a/\∀(j:Nat) (d:D) (t:Tg),env[j]? = some (some (d,t))->a∈F j->∃ q∈x::R,q∈aY j t) :
  RE K P ((kill (x::R) env).set x (some (d',.own))) σ (upd H p vs.o) (ox F env x R G):=by
 obtain⟨ndx,lsx,onx⟩:=re.one x d .own hx rfl;obtain⟨ws,hpl⟩:=lsx p hp;have hxl:x<(kill (x::R) env).length:=by
  rw[cV];exact (List.getElem?_eq_some_iff.mp hx).1
 have other:∀{j:Nat}{d2:D}{t2:Tg},j≠x->((kill (x::R) env).set x (some (d',.own)))[j]? = some (some (d2,t2))->(kill (x::R) env)[j]? = some (some (d2,t2)):=fun {j d2 t2} hj e=>by
  rw[List.getElem?_set_ne (eg hj)] at e;exact e
 have live:∀ a,(∃ vs:ML,H a=some vs.o)->∃ ws:ML,upd H p vs.o a=some ws.o:=fun a ⟨ws,h⟩=>by
  by_cases z:a=p
  ·subst z;exact⟨vs,aK⟩
  ·exact⟨ws,by rw[aF z];exact h⟩
 have apart:∀{j:Nat}{d2:D}{t2:Tg},j≠x->(kill (x::R) env)[j]? = some (some (d2,t2))->∀ a∈F x,a∉F j:=fun {j d2 t2} hj e a ha hb=>by
  obtain⟨e0,_,h3⟩:=cF e;exact h3 x aq (onx a ha j d2 t2 e0 hb)
 have fj:∀{j:Nat}{d2:D}{t2:Tg},j≠x->(kill (x::R) env)[j]? = some (some (d2,t2))->ox F env x R G j=F j:=fun {j d2 t2} hj e=>by
  unfold ox;rw[if_neg hj,e]
 have fx:ox F env x R G x=G:=if_pos rfl;refine⟨?_,fun j d2 t2 e=>?_,fun j h=>?_,fun j d2 t2 e o=>?_,fun j d2 e=>?_,fun a h=>?_⟩
 ·rw[da,cV];exact re.len
 ·by_cases hj:j=x
  ·subst hj;rw[List.getElem?_set_self hxl] at e;cases e;exact⟨v,hv,by rw[fx];exact rp⟩
  ·have e1:=other hj e;obtain⟨e0,_,_⟩:=cF e1;obtain⟨u,h1,h2⟩:=re.val j d2 t2 e0;exact⟨u,h1,by rw[fj hj e1];exact h2.updM hpl (apart hj e1 p hp)⟩
 ·by_cases hj:j=x
  ·subst hj;exact absurd (List.getElem?_set_self hxl) (h d' .own)
  ·unfold ox;rw[if_neg hj];split
   ·rename_i q e;exact absurd (by rw[List.getElem?_set_ne (eg hj)];exact e) (h q.1 q.2)
   ·rfl
 ·by_cases hj:j=x
  ·subst hj;rw[List.getElem?_set_self hxl] at e;cases e;rw[fx];refine⟨nd,fun a ha=>live a ?_,fun a ha k d3 t3 e3 m=>?_⟩
   ·rcases sub a ha with q | q
    ·exact lsx a q
    ·exact (hN a q).1
   ·by_cases hk:k=j
    ·subst hk;rw[List.getElem?_set_self hxl] at e3;cases e3;simp[aY]
    ·have e4:=other hk e3;rw[fj hk e4] at m;rcases sub a ha with q | q
     ·exact absurd m (apart hk e4 a q)
     ·obtain⟨e0,_,h3⟩:=cF e4;obtain⟨r,r1,r2⟩:=(hN a q).2.2 k d3 t3 e0 m;exact absurd r2 (h3 r r1)
  ·have e1:=other hj e;obtain⟨e0,_,_⟩:=cF e1;obtain⟨a,b,c⟩:=re.one j d2 t2 e0 o;rw[fj hj e1];refine⟨a,fun y hy=>live y (b y hy),fun y hy k d3 t3 e3 m=>?_⟩;by_cases hk:k=x
   ·subst hk;rw[List.getElem?_set_self hxl] at e3;cases e3;rw[fx] at m;rcases sub y m with q | q
    ·exact absurd hy (apart hj e1 y q)
    ·obtain⟨_,_,h3⟩:=cF e1;obtain⟨r,r1,r2⟩:=(hN y q).2.2 j d2 t2 e0 hy;exact absurd r2 (h3 r r1)
   ·have e4:=other hk e3;rw[fj hk e4] at m;exact c y hy k d3 t3 (cF e4).1 m
 ·by_cases hj:j=x
  ·subst hj;rw[fx];intro a ha;rcases sub a ha with q | q
   ·exact re.wr j d hx a q
   ·exact (hN a q).2.1
  ·have e1:=other hj e;rw[fj hj e1];exact re.wr j d2 (cF e1).1
 ·intro z;by_cases q:a=p
  ·subst q;rw[aK] at z;cases z
  ·rw[aF q] at z;exact re.pl a h z
theorem RE.mutate (re:RE K P env σ H F){x:Nat}{d d':D}{v:V}{p:Addr}{vs:List V}{R:List Nat}{N G:List Addr}(hx:env[x]? = some (some (d,.own)))(hv:σ[x]? = some (some v))(hp:p∈F x)
  (rp:Rep K (upd H p (.lst vs)) d' v G) (nd:G.Nodup) (sub:∀ a∈G,a∈F x\/a∈N)
  (hN:∀ a∈N,(∃ vs:ML,H a=some vs.o)/\¬ P a/\∀(j:Nat) (d:D) (t:Tg),env[j]? = some (some (d,t))->a∈F j->∃ q∈x::R,q∈aY j t) :
  RE K P ((kill (x::R) env).set x (some (d',.own))) σ (upd H p (.lst vs)) (ox F env x R G):=re.mutateM (vs:=.l vs) hx hv hp rp nd sub hN
inductive PV (K:Frag) (H:Hp):V->Option Int->Addr->Prop where
 | top (p:Addr):PV K H (.ref p) none p
 | item {q p:Addr}{ws:List V}{i:Int}{j:Nat}(h:Rd H q (.lst ws)\/jm K H q ws) (hj:fE ws.length i=some j) (e:ws[j]? = some (.ref p)):PV K H (.ref q) (some i) p
theorem CI {n:Nat}{i:Int}{j:Nat}(h:fE n i=some j):j<n:=by
 unfold fE at h;split at h
 ·split at h
  ·cases h;omega
  ·cases h
 ·split at h
  ·cases h;omega
  ·cases h
theorem Rep.lst_inv {ds:List D}{v:V}{G:List Addr}(h:Rep K H (.lst ds) v G):∃ p vs G',v = .ref p/\G=p::G'/\Rd H p (.lst vs)/\aG K H ds vs G':=by
 cases h with
 |lst a b=>exact⟨_,_,_,rfl,rfl,a,b⟩
theorem uB {d:D}{v:V}{G:List Addr}{path:Option Int}{xs:List D}(rp:Rep K H d v G)(nd:G.Nodup)(h:d.at1 path=some xs):∃ p,PV K H v path p/\∀ H',aE H H'->(∀ a∈G,∃ vs:ML,H' a=some vs.o) ->
  ∃ vs Gx,H' p=some (.lst vs)/\aG K H' xs vs Gx/\p∈G/\(∀ a∈Gx,a∈G)/\Gx.Nodup/\p∉Gx /\
   ∀ ys us Gy,aG K (upd H' p (.lst us)) ys us Gy->Gy.Nodup->p∉Gy->(∀ a∈Gy,a∈Gx\/a∉G)->∃ G',Rep K (upd H' p (.lst us)) (d.set1 path ys) v G'/\G'.Nodup/\∀ a∈G',a∈G\/a∈Gy:=by
 have rdl:∀{H':Hp}{p:Addr}{vs:List V},(∀ a∈G,∃ vs:ML,H' a=some vs.o)->p∈G->Rd H' p (.lst vs)->H' p=some (.lst vs):=fun {H' p vs} hl hp r=>by
  obtain⟨ws,q⟩:=hl p hp;rcases r with r | ⟨o,r⟩
  ·exact r
  ·rw[q] at r;cases ws<;>cases r
 cases path with
 |none =>
  cases rp with
  |lst hr r =>
   rename_i p vs ds G0;simp only[D.at1,Option.some.injEq] at h;subst h;obtain⟨n1,n2⟩:=List.nodup_cons.mp nd;refine⟨p,.top p,fun H' e hl=>⟨vs,G0,rdl hl aq (aE.rd e hr),r.same e,aq,fun a ha=>ag _ ha,n2,n1,fun ys us Gy ry ny hy hs=>?_⟩⟩;exact⟨p::Gy,.lst (.inl aK) ry,List.nodup_cons.mpr ⟨hy,ny⟩,fun a ha=>(List.mem_cons.mp ha).imp (fun z=>by simp[z]) id⟩
  |_=>simp[D.at1] at h
 |some i =>
  have core:∀{ds:List D}{vs:List V}{G0:List Addr}{j:Nat}{q:Addr},aG K H ds vs G0->(∀ a∈G0,a∈G)->G0.Nodup->(Rd H q (.lst vs)\/jm K H q vs)->v = .ref q->fE ds.length i=some j->ds[j]? = some (.lst xs) ->
    ∃ p,PV K H v (some i) p/\∀ H',aE H H'->(∀ a∈G,∃ vs:ML,H' a=some vs.o)->∃ ws Gx,H' p=some (.lst ws)/\aG K H' xs ws Gx/\p∈G0/\(∀ a∈Gx,a∈G0)/\Gx.Nodup/\p∉Gx /\
     ∀ ys us Gy,aG K (upd H' p (.lst us)) ys us Gy->Gy.Nodup->p∉Gy->(∀ a∈Gy,a∈Gx\/a∉G) ->
      ∃ G1,aG K (upd H' p (.lst us)) (ds.set j (.lst ys)) vs G1/\G1.Nodup/\(∀ a∈G1,a∈G0\/a∈Gy):=by
   intro ds vs G0 j q r hs n0 hq hv hj he;obtain⟨w0,g0,e0,r0,_⟩:=r.get he;have hlen:=r.len;obtain⟨p,ws0,Gx0,rfl,_,_,_⟩:=r0.lst_inv
   ·refine⟨p,by rw[hv];exact .item hq (by rw[<-hlen];exact hj) e0,fun H' e hl=>?_⟩;obtain⟨w,A,B,C,e1,e2,r1,f⟩:=(r.same e).split he;rw[e0] at e1;cases e1;subst e2;obtain⟨p',ws,Gx,ep,rfl,hr,r2⟩:=r1.lst_inv;cases ep
    ·have hpG:p∈A++(p::Gx++C):=by simp
     rw[fb] at n0;obtain⟨nA,nB,nAB⟩:=n0;rw[fb] at nB;obtain⟨nB1,nC,nBC⟩:=nB;obtain⟨np,nx⟩:=List.nodup_cons.mp nB1;have hpl:=rdl hl (hs p hpG) hr;refine⟨ws,Gx,hpl,r2,hpG,fun a ha=>by simp[ha],nx,np,fun ys us Gy ry ny hy hsy=>?_⟩;have hA:p∉A:=fun z=>nAB p z p (by simp) rfl
     have hC:p∉C:=fun z=>nBC p (by simp) p z rfl
     have e3:=f (upd H' p (.lst us)) (.lst ys) (.ref p) (p::Gy) (fun _ _=>ja hpl) (ji (ws:=.l _) hpl) (fun b hb _ h=>(aF fun (z:b=p)=>by
      subst z;rcases List.mem_append.mp hb with hb | hb
      ·exact hA hb
      ·exact hC hb).trans h) (.lst (.inl aK) ry)
     have bN:vs.set j (.ref p)=vs:=by
      obtain⟨hj',ej⟩:=List.getElem?_eq_some_iff.mp e0;rw[<-ej,List.set_getElem_self]
     rw[bN] at e3;refine⟨_,e3,?_,fun a ha=>?_⟩
     ·rw[fb];refine⟨nA,?_,fun a ha b hb z=>?_⟩
      ·rw[fb];refine⟨List.nodup_cons.mpr ⟨hy,ny⟩,nC,fun a ha b hb z=>?_⟩;subst z;rcases gc.mp ha with rfl | ha
       ·exact hC hb
       ·rcases hsy a ha with q | q
        ·exact nBC a (by simp[q]) a hb rfl
        ·exact q (hs a (by simp[hb]))
      ·subst z;rcases List.mem_append.mp hb with hb | hb
       ·rcases gc.mp hb with rfl | hb
        ·exact hA ha
        ·rcases hsy a hb with q | q
         ·exact nAB a ha a (by simp[q]) rfl
         ·exact q (hs a (by simp[ha]))
       ·exact nAB a ha a (by simp[hb]) rfl
     ·simp only[List.mem_append,List.mem_cons,List.cons_append] at ha ⊢;rcases ha with ha | ha | ha | ha
      ·exact .inl (.inl ha)
      ·exact .inl (.inr (.inl ha))
      ·exact .inr ha
      ·exact .inl (.inr (.inr (.inr ha)))
  cases rp with
  |lst hr r =>
   rename_i q vs ds G0;simp only[D.at1,Option.bind_eq_some_iff] at h;obtain⟨j,hj,h⟩:=h;have he:ds[j]? = some (.lst xs):=by
    split at h
    ·rename_i ys e;cases h;exact e
    ·cases h
   obtain⟨n1,n2⟩:=List.nodup_cons.mp nd;obtain⟨p,a1,ff⟩:=core r (fun a ha=>ag _ ha) n2 (.inl hr) rfl hj he;refine⟨p,a1,fun H' e hl=>?_⟩;obtain⟨ws,Gx,a2,a3,a4,a5,a6,a7,f⟩:=ff H' e hl;have hqp:q≠p:=fun z=>n1 (by rw[z];exact a4)
   refine⟨ws,Gx,a2,a3,ag _ a4,fun a ha=>ag _ (a5 a ha),a6,a7,fun ys us Gy ry ny hy hs=>?_⟩;obtain⟨G1,b1,b2,b3⟩:=f ys us Gy ry ny hy hs;have es:D.set1 (.lst ds) (some i) ys = .lst (ds.set j (.lst ys)):=by simp[D.set1,hj]
   rw[es];refine⟨q::G1,.lst (Bz hqp (aE.rd e hr)) b1,List.nodup_cons.mpr ⟨fun z=>?_,b2⟩,fun a ha=>?_⟩
   ·rcases b3 q z with z | z
    ·exact n1 z
    ·rcases hs q z with z | z
     ·exact n1 (a5 q z)
     ·exact z aq
   ·rcases gc.mp ha with rfl | ha
    ·exact .inl aq
    ·exact (b3 a ha).imp (ag _) id
  |tup hr r =>
   rename_i q vs ds;simp only[D.at1,Option.bind_eq_some_iff] at h;obtain⟨j,hj,h⟩:=h;have he:ds[j]? = some (.lst xs):=by
    split at h
    ·rename_i ys e;cases h;exact e
    ·cases h
   obtain⟨p,a1,ff⟩:=core r (fun a ha=>ha) nd (.inr hr.sq) rfl hj he;refine⟨p,a1,fun H' e hl=>?_⟩;obtain⟨ws,Gx,a2,a3,a4,a5,a6,a7,f⟩:=ff H' e hl;refine⟨ws,Gx,a2,a3,a4,a5,a6,a7,fun ys us Gy ry ny hy hs=>?_⟩;obtain⟨G1,b1,b2,b3⟩:=f ys us Gy ry ny hy hs;have es:D.set1 (.tup ds) (some i) ys = .tup (ds.set j (.lst ys)):=by simp[D.set1,hj]
   rw[es];exact⟨G1,.tup (ja a2 (aE.tqT e hr)) b1,b2,b3⟩
  |_=>simp[D.at1] at h
end
end Pc
end
section
namespace Pc
open PySem PySem.Spec PyProof.Rows L2
theorem Rs.bind_ok {α β:Type}{x:Rs α}{f:α->Rs β}{b:β}(h:x.bind f = .ok b):∃ a,x = .ok a/\f a = .ok b:=by
 cases x with
 |ok a=>exact⟨a,rfl,h⟩
 |exc e=>cases h
 |bad=>cases h
theorem cL {α:Type}{o:Option α}{a:α}(h:iS o = .ok a):o=some a:=by
 cases o with
 |none=>cases h
 |some b=>cases h;rfl
theorem aE.new {H:Hp}{p:Addr}{o:HO}(h:H p=none):aE H (upd H p o):=fun b u e=>by
 rw[aF];exact e;intro z;subst z;rw[h] at e;cases e
theorem qA:lim<=sizeLine:=by decide
theorem kG {n:Nat}(h:n<=lim):n<=sizeLine:=dg h qA
inductive Args (K:Frag) (env:En) (F:Nat->List Addr):Hp->Hp->List (D×Rt)->List V->List Addr->Prop where
 | nil {H H':Hp}(e:aE H H'):Args K env F H H' [] [] []
 | cons {H H1 H':Hp}{p:D×Rt}{v:V}{G G':List Addr}{l:List (D×Rt)}{vs:List V}(e:aE H H1) (r:Rep K H1 p.1 v G) (t:bP env F H p.2 H1 G) (s:Args K env F H1 H' l vs G'):Args K env F H H' (p::l) (v::vs) (G++G')
section
variable {K:Frag}{env:En}{F:Nat->List Addr}
theorem Args.same:∀{H H':Hp}{l:List (D×Rt)}{vs:List V}{G:List Addr},Args K env F H H' l vs G->aE H H'
 |_,_,_,_,_,.nil e=>e
 |_,_,_,_,_,.cons e _ _ s=>e.trans s.same
theorem Args.reps:∀{H H':Hp}{l:List (D×Rt)}{vs:List V}{G:List Addr},Args K env F H H' l vs G->aG K H' (l.map (·.1)) vs G
 |_,_,_,_,_,.nil _=>.nil
 |_,_,_,_,_,.cons _ r _ s=>.cons (r.same s.same) s.reps
theorem Args.cont:∀{H H':Hp}{l:List (D×Rt)}{vs:List V}{G:List Addr},Args K env F H H' l vs G->∀ a∈G,H a=none\/∃ i d t,a∈F i/\env[i]? = some (some (d,t))/\∀ q∈aY i t,q∈aU (l.map (·.2))
 |_,_,_,_,_,.nil _,a,h=>by cases h
 | _,_,_,_,_,.cons (p:=p) (l:=l) e r t s,a,h=>by
  have e1:aU ((p::l).map (·.2))=p.2.roots++aU (l.map (·.2)):=by simp[aU]
  rw[e1];rcases List.mem_append.mp h with h | h
  ·exact (t.cont a h).imp id fun ⟨i,d,t,x,y,z⟩=>⟨i,d,t,x,y,fun q hq=>ay _ (z q hq)⟩
  ·exact (s.cont a h).imp (aE.no e) fun ⟨i,d,t,x,y,z⟩=>⟨i,d,t,x,y,fun q hq=>ao _ (z q hq)⟩
theorem Args.two {H H':Hp}{p q:D×Rt}{x y:V}{G:List Addr}(ar:Args K env F H H' [p,q] [x,y] G) :
  ∃ H1 G1 G2,G=G1++G2/\aE H H1/\Rep K H1 p.1 x G1/\bP env F H p.2 H1 G1/\aE H1 H'/\Rep K H' q.1 y G2:=by
 cases ar with
 |cons e r t s =>
  cases s with
  |cons e' r' t' s' =>
   cases s' with
   |nil e''=>exact⟨_,_,_,by rw[bc],e,r,t,e'.trans e'',r'.same e''⟩
theorem Args.mv {P:Addr->Prop}{σ:L2.St}:∀{H H':Hp}{l:List (D×Rt)}{vs:List V}{G:List Addr}{R:List Nat},RE K P env σ H F->Args K env F H H' l vs G->cU (l.map (·.2))=some R->R.Nodup ->
  G.Nodup/\(∀ a∈G,∃ vs:ML,H' a=some vs.o)/\∀ a∈G,H a=none\/∃ i d t,i∈R/\a∈F i/\env[i]? = some (some (d,t))/\be t=true
 |_,_,_,_,_,_,_,.nil _,_,_=>⟨cy,fun _ h=>(nomatch h),fun _ h=>(nomatch h)⟩
 | H,_,_,_,_,_,re,.cons (p:=p) (l:=l) (G:=G) (G':=G') e r t s,hm,nd=>by
  obtain⟨d,rt⟩:=p;cases rt with
  |sh Q=>simp[cU] at hm
  |mv R1 =>
   simp only[List.map_cons,cU,Option.map_eq_some_iff] at hm;obtain⟨R2,h2,rfl⟩:=hm;obtain⟨n1,n2,n12⟩:=fb.mp nd;obtain⟨a1,b1,c1⟩:=t.mv R1 rfl;obtain⟨a2,b2,c2⟩:=Args.mv (re.same e) s h2 n2;refine⟨fb.mpr ⟨a1,a2,fun x hx y hy z=>?_⟩,fun x hx=>?_,fun x hx=>?_⟩
   ·subst z;rcases c2 x hy with q | ⟨i2,d2,t2,m2,f2,e2,o2⟩
    ·exact r.nn hx q
    ·rcases c1 x hx with q | ⟨i1,d1,t1,m1,f1,e1,o1⟩
     ·obtain⟨v,_,rp⟩:=re.val i2 d2 t2 e2;exact rp.nn f2 q
     ·have q:=(re.one i1 d1 t1 e1 o1).2.2 x f1 i2 d2 t2 e2 f2;have q':i1=i2:=by cases t2<;>simp_all [aY,be]
      exact n12 i1 m1 i2 m2 q'
   ·rcases List.mem_append.mp hx with hx | hx
    ·obtain⟨vs,q⟩:=b1 x hx;exact⟨vs,s.same _ _ q⟩
    ·exact b2 x hx
   ·rcases List.mem_append.mp hx with hx | hx
    ·exact (c1 x hx).imp id fun ⟨i,d,t,m,z⟩=>⟨i,d,t,ay _ m,z⟩
    ·exact (c2 x hx).imp (aE.no e) fun ⟨i,d,t,m,z⟩=>⟨i,d,t,ao _ m,z⟩
theorem Args.comb {P:Addr->Prop}{σ:L2.St}{H H':Hp}{l:List (D×Rt)}{vs:List V}{G:List Addr}(re:RE K P env σ H F)(ar:Args K env F H H' l vs G):bP env F H (mY (l.map (·.2))) H' G:=by
 unfold mY;cases hm:cU (l.map (·.2)) with
 |none=>exact⟨ar.cont,fun R e=>by cases e⟩
 |some R =>
  have er:∀(l:List Rt) (R:List Nat),cU l=some R->aU l=R:=by
   intro l
   induction l with
   |nil=>intro R h;simp[cU] at h;subst h;rfl
   |cons x r ih =>
    intro R h;cases x with
    |sh Q=>simp[cU] at h
    |mv Q =>
     simp only[cU,Option.map_eq_some_iff] at h;obtain⟨R2,h2,rfl⟩:=h;have:=ih R2 h2;simp only[aU,List.map_cons,List.flatten_cons,Rt.roots] at this ⊢;rw[this]
  have er:=er _ R hm;by_cases nd:R.Nodup
  ·simp only[nd,if_true];obtain⟨a,b,c⟩:=ar.mv re hm nd;refine⟨fun x hx=>?_,fun R' e=>by cases e;exact⟨a,b,c⟩⟩;rcases c x hx with q | ⟨i,d,t,m,f,e,o⟩
   ·exact .inl q
   ·exact .inr ⟨i,d,t,f,e,fun q hq=>by cases t<;>simp_all [aY,be,Rt.roots]⟩
  ·simp only[nd,if_false];exact⟨fun x hx=>by have:=ar.cont x hx;rw[er] at this;exact this,fun R' e=>by cases e⟩
end
structure gS (H H':Hp)(G0:List Addr)(d:D)(G:List Addr):Prop where
 same:aE H H'
 sub:∀ a∈G,H a=none\/a∈G0
 new:d.inner=true->G.Nodup/\∀ a∈G,H a=none/\∃ vs:ML,H' a=some vs.o
section
variable {K:Frag}{H:Hp}{G0:List Addr}
theorem gS.nil {d:D}:gS H H G0 d []:=⟨aE.refl _,fun _ h=>(nomatch h),fun _=>⟨cy,fun _ h=>(nomatch h)⟩⟩
theorem gF {ds:List D}{vs:List V}{G:List Addr}{p:Addr}(r:aG K H ds vs G)(hs:∀ a∈G,a∈G0)(hp:H p=none) :
  Rep K (upd H p (.lst vs)) (.lst ds) (.ref p) (p::G)/\gS H (upd H p (.lst vs)) G0 (.lst ds) (p::G):=by
 have e:=aE.new (o:=.lst vs) hp;refine⟨.lst (.inl aK) (r.same e),e,fun a ha=>?_,fun f=>?_⟩
 ·rcases gc.mp ha with rfl | ha
  ·exact .inl hp
  ·exact .inr (hs a ha)
 ·have:G=[]:=r.flat f;subst this;exact⟨by simp,fun a ha=>by
   have:a=p:=by simpa using ha
   subst this;exact⟨hp,.l _,aK⟩⟩
theorem bP.new {env:En}{F:Nat->List Addr}{H1 H':Hp}{l:List (D×Rt)}{vs:List V}{G:List Addr}{d:D}{R:List Nat}(ar:Args K env F H H1 l vs G0)(nv:gS H1 H' G0 d G)(hR:∀ q∈aU (l.map (·.2)),q∈R):bP env F H (gM d R) H' G:=by
 unfold gM;cases hi:d.inner with
 |true =>
  obtain⟨a,b⟩:=nv.new hi;have c:∀ x∈G,H x=none:=fun x hx=>aE.no ar.same (b x hx).1
  exact⟨fun x hx=>.inl (c x hx),fun R' e=>⟨a,fun x hx=>(b x hx).2,fun x hx=>.inl (c x hx)⟩⟩
 |false =>
  refine⟨fun x hx=>?_,fun R' e=>by cases e⟩;rcases nv.sub x hx with q | q
  ·exact .inl (aE.no ar.same q)
  ·exact (ar.cont x q).imp id fun ⟨i,d,t,f,e,z⟩=>⟨i,d,t,f,e,fun q hq=>hR q (z q hq)⟩
end
section
variable {X:Cx}
theorem bJ {e:Expr}{t t':TE}(h:PE X e t)(k:∀ σ H Q,t' σ H Q->t σ H Q):PE X e t':=fun pins s σ H Q I q=>h pins s σ H Q I (k σ H Q q)
theorem qL {e:Expr}{t t':TT}(h:PT X e t)(k:∀ σ H Q,t' σ H Q->t σ H Q):PT X e t':=fun pins s σ H Q I q=>h pins s σ H Q I (k σ H Q q)
theorem va {e:List Expr}{t t':TA}(h:PA X e t)(k:∀ σ H Q,t' σ H Q->t σ H Q):PA X e t':=fun pos pins s σ H Q I q=>h pos pins s σ H Q I (k σ H Q q)
theorem dA {e:Stmt}{t t':TS}(h:PS X e t)(k:∀ D σ H,t' D σ H->t D σ H):PS X e t':=fun pins s σ H D I q=>h pins s σ H D I (k D σ H q)
theorem i9 {e:List Stmt}{t t':TS}(h:iG X e t)(k:∀ D σ H,t' D σ H->t D σ H):iG X e t':=fun pins s σ H D I q=>h pins s σ H D I (k D σ H q)
end
def tE (K:Frag)(T:Tb)(c:Ex):TE:=fun σ H Q=>∃ P env F,RE K P env σ H F/\∃ p,ev T c env = .ok p/\∀ v H' G,aE H H'->Rep K H' p.1 v G->bP env F H p.2 H' G->Q v H'
def sY (K:Frag)(T:Tb)(cs:jM):TA:=fun σ H Q=>∃ P env F,RE K P env σ H F/\∃ l,bN T cs env = .ok l/\∀ vs H' G,Args K env F H H' l vs G->Q vs H'
def mU (K:Frag)(T:Tb)(c:Ex):TT:=fun σ H Q=>∃ P env F,RE K P env σ H F/\∃ p b,ev T c env = .ok p/\truth p.1=some b/\∀ H',aE H H'->Q b H'
section
variable {K:Frag}{T:Tb}{P:Addr->Prop}{env:En}{F:Nat->List Addr}{σ:L2.St}{H:Hp}
theorem two {ca cb:Ex}{r:R2}{Q:VK}{p q:D×Rt}(re:RE K P env σ H F)(h1:ev T ca env = .ok p)(h2:ev T cb env = .ok q)(k:∀ x y H2 G,Args K env F H H2 [p,q] [x,y] G->r x y H2 Q):DU r (tE K T ca) (tE K T cb) σ H Q :=
 ⟨P,env,F,re,p,h1,fun v1 H1 G1 s1 rp1 rt1=>⟨P,env,F,re.same s1,q,h2,fun v2 H2 G2 s2 rp2 rt2=>k v1 v2 H2 _ (.cons s1 rp1 rt1 (.cons s2 rp2 rt2 (.nil (aE.refl _))))⟩⟩
end
noncomputable def xO (K:Frag)(f:D->D->Option D):R2:=fun x y H Q=>∃ d1 d2 d G,aG K H [d1,d2] [x,y] G/\f d1 d2=some d/\∀ v H' G',Rep K H' d v G'->gS H H' G d G'->Q v H'
noncomputable def Er (K:Frag):R2:=fun x y H Q=>∃ d1 d2 d G,aG K H [d1,d2] [x,y] G/\t6 d1 d2=some d/\∀ v G',Rep K H d v G'->G'.Sublist G->Q v H
section
variable {X:Cx}{T:Tb}{a b c:Expr}{ca cb cc:Ex}{pos:Pos}
theorem BV {op:Operator}(ho:kS X (binaryOp op) (xO X.K (xD op)))(ha:PE X a (tE X.K T ca))(hb:PE X b (tE X.K T cb)):PE X (.BinOp a op b pos) (tE X.K T (.bin op ca cb)):=by
 refine bJ (AK ho ha hb) fun σ H Q ⟨P,env,F,re,p0,hev,k⟩=>?_
 unfold ev at hev;obtain⟨p,h1,hev⟩:=Rs.bind_ok hev;obtain⟨q,h2,hev⟩:=Rs.bind_ok hev;obtain⟨d,h3,hev⟩:=Rs.bind_ok hev;have h3:=cL h3;cases hev;refine two re h1 h2 fun x y H2 G ar=>⟨p.1,q.1,d,G,ar.reps,h3,fun v H' G' rp nv=>k v H' G' (ar.same.trans nv.same) rp (bP.new ar nv fun z hz=>by simpa[aU] using hz)⟩
theorem CK {op:CmpOp}(ho:kS X (compareOp op) (xO X.K fun x y=>(jG op x y).map .bl))(ha:PE X a (tE X.K T ca))(hb:PE X b (tE X.K T cb))(hm:behindInMarks op b=false):PE X (.Compare a [op] [b] pos) (tE X.K T (.cmp op ca cb)):=by
 refine bJ (yT ho ha hb hm) fun σ H Q ⟨P,env,F,re,p0,hev,k⟩=>?_
 unfold ev at hev;obtain⟨p,h1,hev⟩:=Rs.bind_ok hev;obtain⟨q,h2,hev⟩:=Rs.bind_ok hev;obtain⟨d,h3,hev⟩:=Rs.bind_ok hev;have h3:=cL h3;cases hev;refine two re h1 h2 fun x y H2 G ar=>⟨p.1,q.1,.bl d,G,ar.reps,by simp[h3],fun v H' G' rp nv=>k v H' G' (ar.same.trans nv.same) rp ?_⟩
 have:G'=[]:=rp.flat rfl;subst this;exact bP.nil
theorem Em (ho:zQ X (Er X.K))(ha:PE X a (tE X.K T ca))(hb:PE X b (tE X.K T cb))(hs:jW b):PE X (.Subscript a b pos) (tE X.K T (.ix ca cb)):=by
 refine bJ (z0 ho ha hb hs) fun σ H Q ⟨P,env,F,re,p0,hev,k⟩=>?_
 unfold ev at hev;obtain⟨p,h1,hev⟩:=Rs.bind_ok hev;obtain⟨q,h2,hev⟩:=Rs.bind_ok hev;obtain⟨d,h3,hev⟩:=Rs.bind_ok hev;have h3:=cL h3;cases hev;refine two re h1 h2 fun x y H2 G ar=>⟨p.1,q.1,d,G,ar.reps,h3,fun v G' rp sl=>k v H2 G' ar.same rp ?_⟩
 unfold iF;cases hf:d.flat with
 |true =>
  have:G'=[]:=rp.flat hf;subst this;exact bP.nil
 |false =>
  obtain⟨H1,g1,g2,e1,s1,_,rt1,s2,rp2⟩:=ar.two;have hq:q.1.flat=true:=by
   revert h3;intro h3;cases hq:q.1 with
   |int _=>rfl
   |str _=>rfl
   |_=>rw[hq] at h3;revert h3;cases p.1<;>exact fun h3=>nomatch h3
  have rp2:=rp2.flat hq;have rp1:=rt1.later s2;subst rp2;rw[bc] at e1;subst e1;refine⟨fun z hz=>?_,fun R e=>by cases e⟩;exact rp1.cont z (sl.subset hz)
end
end Pc
end
section
namespace Pc
open PySem L2
structure jx (P:Addr->Prop)(H H':Hp):Prop where
 keep:∀ a,P a->H' a=H a
 tup:∀ b xs,H b=some (.tup xs)->H' b=some (.tup xs)
 fz:Eu H H'
theorem jx.refl {P:Addr->Prop}(H:Hp):jx P H H:=⟨fun _ _=>rfl,fun _ _ h=>h,fun _ _ _ h=>h⟩
theorem jx.trans {P:Addr->Prop}{H H1 H2:Hp}(a:jx P H H1)(b:jx P H1 H2):jx P H H2:=⟨fun x h=>(b.keep x h).trans (a.keep x h),fun x xs h=>b.tup x xs (a.tup x xs h),fun x o u h=>b.fz x o u (a.fz x o u h)⟩
theorem jx.of_same {P:Addr->Prop}{H H':Hp}(pl:∀ a,P a->H a≠none)(e:aE H H'):jx P H H':=⟨fun a h=>by
 cases q:H a with
 |none=>exact absurd q (pl a h)
 |some o=>exact e _ _ q,fun _ _=>e _ _,fun _ _ _ h=>e _ _ h⟩
theorem jx.weak {P P':Addr->Prop}{H H':Hp}(h:∀ a,P a->P' a)(e:jx P' H H'):jx P H H':=⟨fun a x=>e.keep a (h a x),e.tup,e.fz⟩
theorem jx.tqT {K:Frag}{P:Addr->Prop}{H H':Hp}(e:jx P H H'){b:Addr}{vs:List V}(h:jV K H b vs):jV K H' b vs:=by
 rcases h with h | h
 ·exact .inl (e.tup b vs h)
 ·exact .inr h
theorem jx.reps {K:Frag}{P:Addr->Prop}{H H':Hp}(e:jx P H H'){ds:List D}{vs:List V}{G:List Addr}(h:aG K H ds vs G)(hp:∀ a∈G,P a):aG K H' ds vs G :=
 h.keep (fun _ _=>e.tqT) e.fz fun b hb _ r=>(e.keep b (hp b hb)).trans r
def qf (env:En)(F:Nat->List Addr)(env':En)(F':Nat->List Addr):Prop:=∀(i:Nat) (d:D),env'[i]? = some (some (d,.lk))->env[i]? = some (some (d,.lk))/\F' i=F i
theorem qf.refl (env:En)(F:Nat->List Addr):qf env F env F:=fun _ _ h=>⟨h,rfl⟩
theorem qf.trans {e1 e2 e3:En}{F1 F2 F3:Nat->List Addr}(a:qf e1 F1 e2 F2)(b:qf e2 F2 e3 F3):qf e1 F1 e3 F3:=fun i d h=>by
 obtain⟨h1,h2⟩:=b i d h;obtain⟨h3,h4⟩:=a i d h1;exact⟨h3,h2.trans h4⟩
structure After (K:Frag)(P Z:Addr->Prop)(env:En)(F:Nat->List Addr)(H:Hp)(env':En)(σ':L2.St)(H':Hp)(F':Nat->List Addr):Prop where
 re:RE K P env' σ' H' F'
 z:∀ i,∀ a∈F' i,Z a
 ev:jx P H H'
 lk:qf env F env' F'
theorem After.trans {K:Frag}{P Z:Addr->Prop}{e1 e2 e3:En}{F1 F2 F3:Nat->List Addr}{H1 H2 H3:Hp}{σ2 σ3:L2.St}(a:After K P Z e1 F1 H1 e2 σ2 H2 F2)(b:After K P Z e2 F2 H2 e3 σ3 H3 F3):After K P Z e1 F1 H1 e3 σ3 H3 F3 :=
 ⟨b.re,b.z,a.ev.trans b.ev,a.lk.trans b.lk⟩
noncomputable def post (K:Frag)(P Z:Addr->Prop)(env:En)(F:Nat->List Addr)(H:Hp)(D:Ends):Fl->Prop
 |.nx env'=>∀ σ' H' F',After K P Z env F H env' σ' H' F'->D.nx σ' H'
 |.bk env'=>∀ σ' H' F',After K P Z env F H env' σ' H' F'->D.bk σ' H'
 |.ct env'=>∀ σ' H' F',After K P Z env F H env' σ' H' F'->D.ct σ' H'
 |.rt d fr=>∀ v H' G,Rep K H' d v G->jx P H H'->(∀ a∈G,Z a)->(fr=true->G.Nodup/\∀ a∈G,¬ P a/\∃ vs:ML,H' a=some vs.o)->D.rt v H'
 |.xc _ _=>False
 |.bad=>False
theorem post.trans {K:Frag}{P Z:Addr->Prop}{e1 e2:En}{F1 F2:Nat->List Addr}{H1 H2:Hp}{σ2:L2.St}{D:Ends}(a:After K P Z e1 F1 H1 e2 σ2 H2 F2):∀{f:Fl},post K P Z e1 F1 H1 D f->post K P Z e2 F2 H2 D f
 |.nx _,h=>fun σ' H' F' b=>h σ' H' F' (a.trans b)
 |.bk _,h=>fun σ' H' F' b=>h σ' H' F' (a.trans b)
 |.ct _,h=>fun σ' H' F' b=>h σ' H' F' (a.trans b)
 |.rt _ _,h=>fun v H' G r e z f=>h v H' G r (a.ev.trans e) z f
 |.xc _ _,h=>h
 |.bad,h=>h
section
variable {K:Frag}{P Z:Addr->Prop}{env:En}{σ:L2.St}{H:Hp}{F:Nat->List Addr}
theorem lh {i:Nat}{d:D}{t:Tg}{G:List Addr}(hi:i<env.length)(ht:t≠.lk):qf env F (put env i d t) (oR F i G):=fun j d' e=>by
 by_cases h:j=i
 ·subst h;rw[dC hi] at e;cases e;exact absurd rfl ht
 ·obtain⟨t0,e0,q⟩:=fW h e;cases t0 with
  |lk=>exact⟨e0,cZ h⟩
  |own=>cases q
  |sh R=>cases q
theorem mB {i:Nat}{G:List Addr}(hz:∀ i,∀ a∈F i,Z a)(hg:∀ a∈G,Z a):∀ j,∀ a∈oR F i G j,Z a:=fun j a ha=>by
 by_cases h:j=i
 ·subst h;rw[dN] at ha;exact hg a ha
 ·rw[cZ h] at ha;exact hz j a ha
theorem wa {H':Hp}{D:Ends}{i:Nat}{mv:Bool}{p:Pc.D×Rt}{v:V}{G:List Addr}(re:RE K P env σ H F)(hz:∀ i,∀ a∈F i,Z a)(zp:∀ a,¬ P a->Z a)(e:aE H H')(rp:Rep K H' p.1 v G)(rt:bP env F H p.2 H' G)
  (h:post K P Z env F H D (qh (.nm i) mv env p)):D.nx (σ.set i (some v)) H':=by
 have re':=re.same e;have ez:∀ a∈G,Z a:=fun a ha=>by
  rcases rt.cont a ha with q | ⟨j,_,_,f,_⟩
  ·exact zp a fun z=>re.pl a z q
  ·exact hz j a f
 have jb:=jx.of_same (P:=P) re.pl e;unfold qh at h;by_cases hi:i<env.length
 ·simp only[hi,if_true] at h;have shared:∀ R,p.2.roots=R->post K P Z env F H D (.nx (put env i p.1 (.sh (R.filter (· != i)))))->D.nx (σ.set i (some v)) H':=fun R hR h=>by
   refine h _ H' (oR F i G) ⟨re'.put hi rp (fun o=>by cases o) (fun o=>by cases o) fun a ha j d' t' hj ej o m=>?_,mB hz ez,jb,lh hi (by intro z;cases z)⟩;rcases rt.cont a ha with q | ⟨k,d2,t2,f,e2,s⟩
   ·exact absurd q (re.nn ej m)
   ·have:=s j ((re.one j d' t' ej o).2.2 a m k d2 t2 e2 f);rw[hR] at this;simp only[aY,List.mem_filter];exact⟨this,by simpa using hj⟩
  cases hr:p.2 with
  |sh R=>rw[hr] at h;exact shared R (by rw[hr];rfl) h
  |mv R =>
   rw[hr] at h;obtain⟨m1,m2,m3⟩:=rt.mv R hr;cases R with
   |nil =>
    have fresh:∀ a∈G,H a=none:=fun a ha=>by
     rcases m3 a ha with q | ⟨_,_,_,q,_⟩
     ·exact q
     ·cases q
    refine h _ H' (oR F i G) ⟨re'.put hi rp (fun _=>⟨m1,m2,fun a ha j _ m=>?_⟩) (fun _ a ha z=>re.pl a z (fresh a ha)) fun a ha j d' t' hj ej o m=>?_,mB hz ez,jb,lh hi (by intro z;cases z)⟩
    ·obtain⟨d2,t2,e2⟩:=re.at' m;exact re.nn e2 m (fresh a ha)
    ·exact absurd (fresh a ha) (re.nn ej m)
   |cons r0 R0 =>
    cases mv with
    |false=>exact shared _ (by rw[hr];rfl) h
    |true =>
     simp only[if_true] at h;by_cases ho:dD env (r0::R0)=true
     ·rw[if_pos ho] at h;have fg:=re'.forget (env':=kill (r0::R0) env) (cV _ _) fun j d' t' ej=>(cF ej).1
      have ow:∀ k∈r0::R0,∃ d',env[k]? = some (some (d',.own)):=fun k hk=>by
       have:=dq.mp ho k hk;split at this
       ·rename_i d' q;exact⟨d',q⟩
       ·cases this
      have apart:∀ a∈G,∀ j,j≠i->a∉(match (kill (r0::R0) env)[j]? with | some (some _)=>F j | _=>[]):=fun a ha j hj m=>by
       split at m
       ·rename_i q ej;obtain⟨dj,tj⟩:=q;obtain⟨e0,h1,h2⟩:=cF ej;rcases m3 a ha with q | ⟨k,d2,t2,hk,f,e2,o2⟩
        ·exact re.nn e0 m q
        ·exact h2 k hk ((re.one k d2 t2 e2 o2).2.2 a f j dj tj e0 m)
       ·cases m
      refine h _ H' _ ⟨fg.put (by rw[cV];exact hi) rp (fun _=>⟨m1,m2,apart⟩) (fun _ a ha z=>?_) fun a ha j d' t' hj ej o m=>absurd m (apart a ha j hj),mB (fun j a ha=>?_) ez,jb,fun j d' ej=>?_⟩
      ·rcases m3 a ha with q | ⟨k,d2,t2,hk,f,e2,o2⟩
       ·exact re.pl a z q
       ·obtain⟨d3,e3⟩:=ow k hk;exact re.wr k d3 e3 a f z
      ·split at ha
       ·exact hz j a ha
       ·cases ha
      ·by_cases hj:j=i
       ·subst hj;rw[dC (by rw[cV];exact hi)] at ej;cases ej
       ·obtain⟨t0,e0,q⟩:=fW hj ej;cases t0 with
        |lk =>
         refine⟨(cF e0).1,?_⟩;rw[cZ hj,e0]
        |own=>cases q
        |sh R=>cases q
     ·rw[if_neg ho] at h;exact h.elim
 ·simp only[hi,if_false] at h;exact h.elim
noncomputable def setM:List Nat->List V->L2.St->L2.St
 |i::is,v::vs,σ=>setM is vs (σ.set i (some v))
 |_,_,σ=>σ
theorem mz:∀{is:List Nat}{ds:List D}{vs:List V}{G:List Addr}{env env':En}{σ:L2.St}{F:Nat->List Addr},RE K P env σ H F->(∀ i,∀ a∈F i,Z a)->aG K H ds vs G->G.Nodup->(∀ a∈G,∃ vs:ML,H a=some vs.o)->(∀ a∈G,¬ P a)->(∀ a∈G,Z a) ->
  (∀ a∈G,∀ j,a∉F j)->bindM (fun _=>.own) is ds env=some env'->∃ F',RE K P env' (setM is vs σ) H F'/\(∀ i,∀ a∈F' i,Z a)/\qf env F env' F'/\is.length=vs.length
 | [],_,_,_,env,env',σ,F,re,hz,.nil,_,_,_,_,_,h=>by
  simp only[bindM,Option.some.injEq] at h;subst h;exact⟨F,re,hz,qf.refl _ _,rfl⟩
 | i::is,_,_,_,env,env',σ,F,re,hz,.cons (G:=G1) (G':=G2) r rs,nd,ll,np,gz,ap,h=>by
  simp only[bindM] at h;by_cases hi:i<env.length
  ·rw[if_pos hi] at h;obtain⟨n1,n2,n12⟩:=fb.mp nd;have re1:=re.put (t:=.own) hi r (fun _=>⟨n1,fun a ha=>ll a (ay _ ha),fun a ha j _=>ap a (ay _ ha) j⟩) (fun _ a ha=>np a (ay _ ha)) fun a ha j _ _ _ _ _ m=>absurd m (ap a (ay _ ha) j)
   obtain⟨F',a1,a2,a3,a4⟩:=mz re1 (mB hz fun a ha=>gz a (ay _ ha)) rs n2 (fun a ha=>ll a (ao _ ha)) (fun a ha=>np a (ao _ ha)) (fun a ha=>gz a (ao _ ha)) (fun a ha j m=>by
    by_cases hj:j=i
    ·subst hj;rw[dN] at m;exact n12 a m a ha rfl
    ·rw[cZ hj] at m;exact ap a (ao _ ha) j m) h
   exact⟨F',a1,a2,(lh hi (by intro z;cases z)).trans a3,by simp[a4]⟩
  ·rw[if_neg hi] at h;cases h
 |[],_,_,_,_,_,_,_,_,_,.cons _ _,_,_,_,_,_,h=>by simp[bindM] at h
 |_::_,_,_,_,_,_,_,_,_,_,.nil,_,_,_,_,_,h=>by simp[bindM] at h
theorem oY {d:D}{R:List Nat}:aW d R≠.lk:=by unfold aW;split<;>intro z<;>cases z
theorem r9 {i:Nat}{d:D}{v:V}{G:List Addr}{R:List Nat}(re:RE K P env σ H F)(hi:i<env.length)(rp:Rep K H d v G)(hs:∀ a∈G,∀(j:Nat) (d':D) (t':Tg),env[j]? = some (some (d',t'))->be t'=true->a∈F j->j∈R) :
  RE K P (put env i d (aW d R)) (σ.set i (some v)) H (oR F i G):=by
 unfold aW;cases hf:d.flat with
 |true =>
  have:G=[]:=rp.flat hf;subst this;simp only[if_true];exact re.put hi rp (fun _=>⟨cy,fun _ h=>(nomatch h),fun _ h=>(nomatch h)⟩) (fun _ _ h=>(nomatch h)) fun _ h=>(nomatch h)
 |false =>
  simp only[Bool.false_eq_true,if_false];exact re.put hi rp (fun o=>by cases o) (fun o=>by cases o) fun a ha j d' t' hj ej o m=>hs a ha j d' t' ej o m
theorem kJ {R:List Nat}:∀{is:List Nat}{ds:List D}{vs:List V}{G:List Addr}{env env':En}{σ:L2.St}{F:Nat->List Addr},RE K P env σ H F->(∀ i,∀ a∈F i,Z a)->aG K H ds vs G->(∀ a∈G,Z a) ->
  (∀ a∈G,∀(j:Nat) (d':D) (t':Tg),env[j]? = some (some (d',t'))->be t'=true->a∈F j->j∈R)->bindM (fun d=>aW d R) is ds env=some env'->∃ F',RE K P env' (setM is vs σ) H F'/\(∀ i,∀ a∈F' i,Z a)/\qf env F env' F'/\is.length=vs.length
 | [],_,_,_,env,env',σ,F,re,hz,.nil,_,_,h=>by
  simp only[bindM,Option.some.injEq] at h;subst h;exact⟨F,re,hz,qf.refl _ _,rfl⟩
 | i::is,_,_,_,env,env',σ,F,re,hz,.cons (d:=d) (G:=G1) (G':=G2) r rs,gz,hs,h=>by
  simp only[bindM] at h;by_cases hi:i<env.length
  ·rw[if_pos hi] at h;have re1:=r9 re hi r fun a ha=>hs a (ay _ ha)
   obtain⟨F',a1,a2,a3,a4⟩:=kJ re1 (mB hz fun a ha=>gz a (ay _ ha)) rs (fun a ha=>gz a (ao _ ha)) (fun a ha j d' t' ej o m=>by
    by_cases hj:j=i
    ·subst hj;rw[dC hi] at ej;simp only[Option.some.injEq,Prod.mk.injEq] at ej;obtain⟨rfl,rfl⟩:=ej;rw[dN] at m;cases hf:d.flat with
     |true=>rw[r.flat hf] at m;cases m
     |false=>simp[aW,hf,be] at o
    ·rw[cZ hj] at m;obtain⟨t0,e0,rfl⟩:=fW hj ej;rw[jz] at o;exact hs a (ao _ ha) j d' t0 e0 o m) h
   exact⟨F',a1,a2,(lh hi oY).trans a3,by simp[a4]⟩
  ·rw[if_neg hi] at h;cases h
 |[],_,_,_,_,_,_,_,_,_,.cons _ _,_,_,h=>by simp[bindM] at h
 |_::_,_,_,_,_,_,_,_,_,_,.nil,_,_,h=>by simp[bindM] at h
theorem nT (R:List Nat)(env:En):(lock R env).length=env.length:=by simp[lock]
theorem j6 {R:List Nat}{env:En}{i:Nat}{d:D}{t:Tg}(e:(lock R env)[i]? = some (some (d,t))) :
  (env[i]? = some (some (d,t))/\(t = .own->i∉R))\/(t = .lk/\i∈R/\env[i]? = some (some (d,.own))):=by
 unfold lock at e;rw[List.getElem?_mapIdx] at e;cases q:env[i]? with
 |none=>rw[q] at e;cases e
 |some s =>
  rw[q] at e;cases s with
  |none=>cases e
  |some p =>
   obtain⟨a,b⟩:=p;simp only[Option.map_some,Option.some.injEq] at e;cases b with
   |own =>
    simp only at e;by_cases h:R.contains i=true
    ·rw[if_pos h] at e;cases e;exact .inr ⟨rfl,by simpa using h,rfl⟩
    ·rw[if_neg h] at e;cases e;exact .inl ⟨rfl,fun _ z=>h (by simpa using z)⟩
   |lk=>cases e;exact .inl ⟨rfl,fun z=>by cases z⟩
   |sh Q=>cases e;exact .inl ⟨rfl,fun z=>by cases z⟩
theorem vT {R:List Nat}{env:En}{i:Nat}{d:D}{t:Tg}(e:env[i]? = some (some (d,t))):∃ t',(lock R env)[i]? = some (some (d,t'))/\be t'=be t/\aY i t'=aY i t:=by
 unfold lock;rw[List.getElem?_mapIdx,e];cases t with
 |own =>
  simp only[Option.map_some];by_cases h:R.contains i=true
  ·exact⟨.lk,by rw[if_pos h],rfl,rfl⟩
  ·exact⟨.own,by rw[if_neg h],rfl,rfl⟩
 |lk=>exact⟨.lk,rfl,rfl,rfl⟩
 |sh Q=>exact⟨.sh Q,rfl,rfl,rfl⟩
theorem eP {R:List Nat}{env:En}{i:Nat}{d:D}{t:Tg}(e:(lock R env)[i]? = some (some (d,t))):∃ t0,env[i]? = some (some (d,t0))/\be t0=be t/\aY i t0=aY i t:=by
 rcases j6 e with ⟨h,_⟩ | ⟨rfl,_,h⟩
 ·exact⟨t,h,rfl,rfl⟩
 ·exact⟨.own,h,rfl,rfl⟩
theorem RE.locked (re:RE K P env σ H F){R:List Nat}{G:List Addr}(hg:∀ a∈G,H a≠none)(hc:∀ a∈G,∀(i:Nat) (d:D) (t:Tg),env[i]? = some (some (d,t))->be t=true->a∈F i->i∈R) :
  RE K (fun a=>P a\/a∈G) (lock R env) σ H F where
 len:=(nT R env).trans re.len
 val:=fun i d t e=>let ⟨t0,e0,_⟩:=eP e;re.val i d t0 e0
 emp:=fun i h=>re.emp i fun d t e=>by
  obtain⟨t',e',_⟩:=vT (R:=R) e;exact h d t' e'
 one:=fun i d t e o=>by
  obtain⟨t0,e0,o0,_⟩:=eP e;obtain⟨a,b,c⟩:=re.one i d t0 e0 (o0.trans o);refine⟨a,b,fun x hx j d' t' ej m=>?_⟩;obtain⟨t1,e1,_,s1⟩:=eP ej;rw[<-s1];exact c x hx j d' t1 e1 m
 wr:=fun i d e a ha z=>by
  rcases j6 e with ⟨h,hn⟩ | ⟨q,_⟩
  ·rcases z with z | z
   ·exact re.wr i d h a ha z
   ·exact hn rfl (hc a z i d .own h rfl ha)
  ·cases q
 pl:=fun a h=>h.elim (re.pl a) (hg a)
theorem lr (R:List Nat)(env0 env:En):(unlock R env0 env).length=env.length:=by simp[unlock]
theorem hZ {R:List Nat}{env0 env:En}{i:Nat}{d:D}{t:Tg}(e:(unlock R env0 env)[i]? = some (some (d,t))) :
  (env[i]? = some (some (d,t))/\(t = .lk->¬ (i∈R/\∃ d0,env0[i]? = some (some (d0,.own)))))\/(t = .own/\i∈R/\env[i]? = some (some (d,.lk))/\∃ d0,env0[i]? = some (some (d0,.own))):=by
 unfold unlock at e;rw[List.getElem?_mapIdx] at e;cases q:env[i]? with
 |none=>rw[q] at e;cases e
 |some s =>
  rw[q] at e;cases s with
  |none=>cases e
  |some p =>
   obtain⟨a,b⟩:=p;simp only[Option.map_some,Option.some.injEq] at e;cases b with
   |own=>cases e;exact .inl ⟨rfl,fun z=>by cases z⟩
   |sh Q=>cases e;exact .inl ⟨rfl,fun z=>by cases z⟩
   |lk =>
    simp only at e;split at e
    ·rename_i d0 q0;by_cases h:R.contains i=true
     ·rw[if_pos h] at e;cases e;exact .inr ⟨rfl,by simpa using h,rfl,d0,q0⟩
     ·rw[if_neg h] at e;cases e;exact .inl ⟨rfl,fun _ z=>h (by simpa using z.1)⟩
    ·rename_i nq;cases e;exact .inl ⟨rfl,fun _ ⟨_,d0,q0⟩=>nq d0 q0⟩
theorem fD {R:List Nat}{env0 env:En}{i:Nat}{d:D}{t:Tg}(e:(unlock R env0 env)[i]? = some (some (d,t))):∃ t0,env[i]? = some (some (d,t0))/\be t0=be t/\aY i t0=aY i t:=by
 rcases hZ e with ⟨h,_⟩ | ⟨rfl,_,h,_⟩
 ·exact⟨t,h,rfl,rfl⟩
 ·exact⟨.lk,h,rfl,rfl⟩
theorem ql {R:List Nat}{env0 env:En}{i:Nat}{d:D}{t:Tg}(e:env[i]? = some (some (d,t))):∃ t',(unlock R env0 env)[i]? = some (some (d,t')):=by
 unfold unlock;rw[List.getElem?_mapIdx,e];cases t with
 |own=>exact⟨.own,rfl⟩
 |sh Q=>exact⟨.sh Q,rfl⟩
 |lk =>
  simp only[Option.map_some];split
  ·by_cases h:R.contains i=true
   ·exact⟨.own,by rw[if_pos h]⟩
   ·exact⟨.lk,by rw[if_neg h]⟩
  ·exact⟨.lk,rfl⟩
theorem After.unlocked {R:List Nat}{G:List Addr}{env':En}{σ':L2.St}{H':Hp}{F':Nat->List Addr}(re:RE K P env σ H F)(a:After K (fun a=>P a\/a∈G) Z (lock R env) F H env' σ' H' F'):After K P Z env F H (unlock R env env') σ' H' F' where
 re:={
  len:=(lr R env env').trans a.re.len
  val:=fun i d t e=>let ⟨t0,e0,_⟩:=fD e;a.re.val i d t0 e0
  emp:=fun i h=>a.re.emp i fun d t e=>by
   obtain⟨t',e'⟩:=ql (R:=R) (env0:=env) e;exact h d t' e'
  one:=fun i d t e o=>by
   obtain⟨t0,e0,o0,_⟩:=fD e;obtain⟨x,y,c⟩:=a.re.one i d t0 e0 (o0.trans o);refine⟨x,y,fun z hz j d' t' ej m=>?_⟩;obtain⟨t1,e1,_,s1⟩:=fD ej;rw[<-s1];exact c z hz j d' t1 e1 m
  wr:=fun i d e b hb z=>by
   rcases hZ e with ⟨h,_⟩ | ⟨_,hR,h,d0,h0⟩
   ·exact a.re.wr i d h b hb (.inl z)
   ·obtain⟨h1,h2⟩:=a.lk i d h;rw[h2] at hb;exact re.wr i d0 h0 b hb z
  pl:=fun b h=>a.re.pl b (.inl h) }
 z:=a.z
 ev:=a.ev.weak fun _ h=>.inl h
 lk:=fun i d e=>by
  rcases hZ e with ⟨h,hn⟩ | ⟨q,_⟩
  ·obtain⟨h1,h2⟩:=a.lk i d h;rcases j6 h1 with ⟨h3,_⟩ | ⟨_,hR,h3⟩
   ·exact⟨h3,h2⟩
   ·exact absurd ⟨hR,d,h3⟩ (hn rfl)
  ·cases q
end
section
variable {K:Frag}{P Z:Addr->Prop}{env:En}{σ:L2.St}{H:Hp}{F:Nat->List Addr}
theorem fY {x:Nat}{d:D}(h:ownAt env x=some d):env[x]? = some (some (d,.own)):=by
 unfold ownAt at h;split at h
 ·rename_i d' q;cases h;exact q
 ·cases h
theorem mo (re:RE K P env σ H F){x:Nat}{d:D}{path:Option Int}{xs:List D}{v:V}(hx:ownAt env x=some d)(hv:σ[x]? = some (some v))(h:d.at1 path=some xs) :
  ∃ p,PV K H v path p/\∀ H',aE H H'->∃ ws Gx,H' p=some (.lst ws)/\aG K H' xs ws Gx/\p∈F x/\(∀ a∈Gx,a∈F x)/\Gx.Nodup/\p∉Gx /\
   ∀ ys us Gy,aG K (upd H' p (.lst us)) ys us Gy->Gy.Nodup->p∉Gy->(∀ a∈Gy,a∈Gx\/a∉F x)->∃ G',Rep K (upd H' p (.lst us)) (d.set1 path ys) v G'/\G'.Nodup/\∀ a∈G',a∈F x\/a∈Gy:=by
 have hx':=fY hx;obtain⟨u,e,rp⟩:=re.val x d .own hx';rw[hv] at e;cases e;obtain⟨a,b,_⟩:=re.one x d .own hx' rfl;obtain⟨p,pv,f⟩:=uB rp a h;exact⟨p,pv,fun H' e=>f H' e fun y hy=>let ⟨ws,q⟩:=b y hy;⟨ws,e _ _ q⟩⟩
theorem uM {D:Ends}{x:Nat}{d:Pc.D}{path:Option Int}{ys:List Pc.D}{rs:List Rt}(h:post K P Z env F H D (eU x path env d ys rs)):ys.length<=lim:=by
 unfold eU at h;cases hR:cU rs with
 |none=>rw[hR] at h;exact h.elim
 |some R =>
  rw[hR] at h;simp only at h;by_cases hc:(decide R.Nodup&&dD env R && !R.contains x&&decide (ys.length<=lim))=true
  ·simp only[Bool.and_eq_true,decide_eq_true_eq] at hc;exact hc.2
  ·rw[if_neg hc] at h;exact h.elim
theorem oW {H1:Hp}{D:Ends}{x:Nat}{d:Pc.D}{path:Option Int}{ys:List Pc.D}{rs:List Rt}{v:V}{p:Addr}{us:List V}{N:List Addr}
  (re:RE K P env σ H F) (hz:∀ i,∀ a∈F i,Z a) (zp:∀ a,¬ P a->Z a) (e:aE H H1) (hx:ownAt env x=some d) (hv:σ[x]? = some (some v)) (hp:p∈F x)
  (hN:∀ R,cU rs=some R->R.Nodup->N.Nodup/\(∀ a∈N,∃ vs:ML,H1 a=some vs.o)/\∀ a∈N,H a=none\/∃ i d t,i∈R/\a∈F i/\env[i]? = some (some (d,t))/\be t=true)
  (hset:(∀ a∈N,a∉F x)->N.Nodup->∃ G',Rep K (upd H1 p (.lst us)) (d.set1 path ys) v G'/\G'.Nodup/\∀ a∈G',a∈F x\/a∈N)
  (h:post K P Z env F H D (eU x path env d ys rs)):D.nx σ (upd H1 p (.lst us)):=by
 unfold eU at h;cases hR:cU rs with
 |none=>rw[hR] at h;exact h.elim
 |some R =>
  rw[hR] at h;simp only at h;by_cases hc:(decide R.Nodup&&dD env R && !R.contains x&&decide (ys.length<=lim))=true
  ·rw[if_pos hc] at h;simp only[Bool.and_eq_true,decide_eq_true_eq,Bool.not_eq_true'] at hc;obtain⟨⟨⟨hc1,hc2⟩,hc3⟩,hc4⟩:=hc;have hxR:x∉R:=fun z=>by
    have:R.contains x=true:=by simpa using z
    rw[this] at hc3;cases hc3
   obtain⟨n1,n2,n3⟩:=hN R hR hc1;have hx':=fY hx;have ow:∀ k∈R,∃ d',env[k]? = some (some (d',.own)):=fun k hk=>by
    have:=dq.mp hc2 k hk;split at this
    ·rename_i d' q;exact⟨d',q⟩
    ·cases this
   have notx:∀ a∈N,a∉F x:=fun a ha m=>by
    rcases n3 a ha with q | ⟨i,d2,t2,hi,f,e2,o2⟩
    ·exact re.nn hx' m q
    ·have:=(re.one i d2 t2 e2 o2).2.2 a f x d .own hx' m;simp only[aY,List.mem_singleton] at this;subst this;exact hxR hi
   obtain⟨G',g1,g2,g3⟩:=hset notx n1;have re1:=re.same e;have pP:∀ a∈N,¬ P a:=fun a ha z=>by
    rcases n3 a ha with q | ⟨i,d2,t2,hi,f,e2,o2⟩
    ·exact re.pl a z q
    ·obtain⟨d3,e3⟩:=ow i hi;exact re.wr i d3 e3 a f z
   have re2:=re1.mutate (R:=R) (N:=N) hx' hv hp g1 g2 g3 fun a ha=>⟨n2 a ha,pP a ha,fun j dj tj ej m=>by
    rcases n3 a ha with q | ⟨i,d2,t2,hi,f,e2,o2⟩
    ·exact absurd q (re.nn ej m)
    ·exact⟨i,ag _ hi,(re.one i d2 t2 e2 o2).2.2 a f j dj tj ej m⟩⟩
   obtain⟨_,lsx,_⟩:=re1.one x d .own hx' rfl;obtain⟨ws,hpl⟩:=lsx p hp;have nPp:¬ P p:=re.wr x d hx' p hp;refine h σ _ _ ⟨re2,fun j a ha=>?_,(jx.of_same re.pl e).trans ⟨fun a z=>aF (fun q=>nPp (q ▸ z)),fun b xs r=>?_,ji hpl⟩,fun j dj ej=>?_⟩
   ·unfold ox at ha;split at ha
    ·rcases g3 a ha with q | q
     ·exact hz x a q
     ·exact zp a (pP a q)
    ·split at ha
     ·exact hz j a ha
     ·cases ha
   ·refine (aF (fun q=>?_)).trans r;subst q;rw[hpl] at r;cases ws<;>cases r
   ·by_cases hj:j=x
    ·subst hj;rw[List.getElem?_set_self (by rw[cV];exact (List.getElem?_eq_some_iff.mp hx').1)] at ej;cases ej
    ·rw[List.getElem?_set_ne (eg hj)] at ej;refine⟨(cF ej).1,?_⟩;unfold ox;rw[if_neg hj,ej]
  ·rw[if_neg hc] at h;exact h.elim
end
end Pc
end
section
namespace Pc
open PySem PySem.Spec PyProof.Rows L2
section
variable {K:Frag}{H:Hp}
theorem aG.inv2 {d e:D}{x y:V}{G:List Addr}(h:aG K H [d,e] [x,y] G):∃ G1 G2,Rep K H d x G1/\Rep K H e y G2/\G=G1++G2:=by
 cases h with
 |cons r s =>
  cases s with
  |cons r' s'=>cases s';exact⟨_,_,r,r',by rw[bc]⟩
theorem Rep.int_inv {i:Int}{v:V}{G:List Addr}(h:Rep K H (.int i) v G):v = .int i/\G=[]:=by cases h;exact⟨rfl,rfl⟩
theorem Rep.bl_inv {i:Bool}{v:V}{G:List Addr}(h:Rep K H (.bl i) v G):v = .bl i/\G=[]:=by cases h;exact⟨rfl,rfl⟩
theorem Rep.str_inv {i:Str}{v:V}{G:List Addr}(h:Rep K H (.str i) v G):v = .str i/\G=[]:=by cases h;exact⟨rfl,rfl⟩
theorem Rep.non_inv {v:V}{G:List Addr}(h:Rep K H .non v G):v = .non/\G=[]:=by cases h;exact⟨rfl,rfl⟩
theorem Rep.tup_inv {ds:List D}{v:V}{G:List Addr}(h:Rep K H (.tup ds) v G):∃ p vs,v = .ref p/\jm K H p vs/\aG K H ds vs G:=by
 cases h with
 |tup a b=>exact⟨_,_,rfl,a.sq,b⟩
theorem Rep.tup_invT {ds:List D}{v:V}{G:List Addr}(h:Rep K H (.tup ds) v G):∃ p vs,v = .ref p/\jV K H p vs/\aG K H ds vs G:=by
 cases h with
 |tup a b=>exact⟨_,_,rfl,a,b⟩
end
section
variable {X:Cx}
theorem Inv.lstR {pins:List (Addr×Obj)}{σ:L2.St}{H:Hp}{s:Shared}{l:Addr}{xs:List V}(I:Inv X pins σ H s)(hH:Rd H l (.lst xs)):xs.length<=sizeLine/\∃(its:List Value) (n:Nat),aL xs its/\xs.length=its.length/\s.heap.get? l=some { cls:=.type "list",data:=.seq its.toArray n }:=by
 obtain⟨z,its,n,r,e⟩:=hH.ok I.hok;exact⟨z,its,n,r,r.length,e⟩
noncomputable def C8:R2:=fun x y H Q=>∃ l b xs zs,x = .ref l/\y = .ref b/\Rd H l (.lst xs)/\Rd H b (.lst zs)/\xs.length+zs.length<=sizeLine/\∀ p,H p=none->Q (.ref p) (upd H p (.lst (xs++zs)))
theorem rC:kS X (binaryOp .Add) C8:=by
 intro pins s σ H x y v u Q I rx ry h;obtain⟨l,b,xs,zs,rfl,rfl,hH,hB,hz,q⟩:=h;cases rx;cases ry;obtain⟨z,its,n,r,hl,e⟩:=Inv.lstR I hH;obtain⟨z2,its2,n2,r2,hl2,e2⟩:=Inv.lstR I hB;refine PySem.P.add_list e e2 ?_ (by rw[ak,ak];omega);have ea:its.toArray++its2.toArray=(its++its2).toArray:=by simp
 rw[ea];exact⟨.ref _,_,I.lnew (t':=s.toks) (r.append r2) (by rw[dk];omega),rfl,q _ I.fresh⟩
theorem zC {n:Nat}{d e:D}(h:ck n d=some e):n<=lim/\e=d:=by
 unfold ck at h;split at h
 ·cases h;exact⟨‹_›,rfl⟩
 ·cases h
theorem lO {i:Int}:small i=true↔(-(2 ^ 64)<i/\i<2 ^ 64):=by unfold small;exact decide_eq_true_iff
theorem zo {op:Operator}{i j k:Int}(h:binI op i j=some k):kS X (binaryOp op) (fun x y H Q=>x = .int i/\y = .int j/\Q (.int k) H):=by
 intro pins s σ H x y v u Q I rx ry q;obtain⟨rfl,rfl,q⟩:=q;cases op with
 |Add=>cases h;exact BY pins s σ H _ _ v u Q I rx ry ⟨i,j,rfl,rfl,q⟩
 |Sub=>cases h;exact BQ pins s σ H _ _ v u Q I rx ry ⟨i,j,rfl,rfl,q⟩
 |Mult =>
  have h:(if small i || small j then some (i*j) else none)=some k:=h;by_cases hc:(small i || small j)=true
  ·rw[if_pos hc] at h;cases h;refine CZ pins s σ H _ _ v u Q I rx ry ⟨i,j,rfl,rfl,?_,q⟩;rw[gf,lO,lO] at hc;exact hc
  ·rw[if_neg hc] at h;cases h
 |FloorDiv =>
  have h:(if 0<j/\j<1073741824 then some (i / j) else none)=some k:=h;by_cases hc:0<j/\j<1073741824
  ·rw[if_pos hc] at h;cases h;exact zJ pins s σ H _ _ v u Q I rx ry ⟨i,j,rfl,rfl,hc,q⟩
  ·rw[if_neg hc] at h;cases h
 |Mod =>
  have h:(if 0<j then some (i%j) else none)=some k:=h;by_cases hc:0<j
  ·rw[if_pos hc] at h;cases h;exact Cr pins s σ H _ _ v u Q I rx ry ⟨i,j,rfl,rfl,hc,q⟩
  ·rw[if_neg hc] at h;cases h
 |_=>cases h
theorem yu (op:Operator):kS X (binaryOp op) (xO X.K (xD op)):=by
 intro pins s σ H x y v u Q I rx ry h;obtain⟨d1,d2,d,G,rs,hd,k⟩:=h;obtain⟨G1,G2,r1,r2,rfl⟩:=rs.inv2;cases d1 with
 |int i =>
  cases d2 with
  |int j =>
   obtain⟨rfl,rfl⟩:=r1.int_inv;obtain⟨rfl,rfl⟩:=r2.int_inv;have:xD op (.int i) (.int j)=(binI op i j).map .int:=rfl;rw[this,aa] at hd;obtain⟨z,hz,rfl⟩:=hd;exact zo hz pins s σ H _ _ v u Q I rx ry ⟨rfl,rfl,k _ H [] (.int z) gS.nil⟩
  |_=>cases hd
 |lst a =>
  obtain⟨p,vs,G',rfl,rfl,h1,h2⟩:=r1.lst_inv;cases d2 with
  |lst b =>
   cases op with
   |Add =>
    obtain⟨hl,rfl⟩:=zC hd;obtain⟨p',vs',G'',rfl,rfl,h1',h2'⟩:=r2.lst_inv;refine rC pins s σ H _ _ v u Q I rx ry ⟨p,p',vs,vs',rfl,rfl,h1,h1',by rw[<-h2.len,<-h2'.len];exact kG hl,fun q hq=>?_⟩;obtain⟨n1,n2⟩:=gF (G0:=p::G'++p'::G'') (h2.append h2') (fun a ha=>by simp at ha ⊢;rcases ha with ha | ha<;>simp[ha]) hq;exact k _ _ _ n1 n2
   |_=>cases hd
  |_=>cases hd
 |_=>cases hd
open SeqAt in
theorem gN {f:D->D->Option Bool}:∀{xs ys:List D}{b:Bool},p9 f xs ys=some b->xs.length=ys.length/\∃ e:Nat->Bool,(∀ j x y,xs[j]? = some x->ys[j]? = some y->f x y=some (e j))/\b=(List.range xs.length).all e
 |[],[],b,h=>by cases h;exact⟨rfl,fun _=>true,fun j x y hx=>by simp at hx,rfl⟩
 | x::xs,y::ys,b,h=>by
  simp only[p9,Option.bind_eq_some_iff,Option.map_eq_some_iff] at h;obtain⟨a,h1,c,h2,rfl⟩:=h;obtain⟨hl,e,he,rfl⟩:=gN h2;refine⟨by simp[hl],fun j=>match j with | 0=>a | j+1=>e j,fun j x' y' hx hy=>?_,?_⟩
  ·cases j with
   |zero=>simp at hx hy;subst hx;subst hy;exact h1
   |succ j=>exact he j x' y' (by simpa using hx) (by simpa using hy)
  ·rw[az,List.range_succ_eq_map,List.all_cons,List.all_map];rfl
 |[],_::_,b,h=>by cases h
 |_::_,[],b,h=>by cases h
theorem iZ:∀(n:Nat) (d:D) (b:Bool),D.eqf n d d=some b->b=true
 |0,_,_,h=>by cases h
 |n+1,.non,b,h=>by cases h;rfl
 |n+1,.bl _,b,h=>by cases h
 | n+1,.int x,b,h=>by
  have h:some (x==x)=some b:=h;rw[gw] at h;cases h;rfl
 |n+1,.str _,b,h=>by cases h
 | n+1,.lst xs,b,h=>by
  have h:(if xs.length=xs.length then p9 (D.eqf n) xs xs else some false)=some b:=h;rw[if_pos rfl] at h;obtain⟨_,e,he,rfl⟩:=gN h;rw[dq];intro j hj;have hj:j<xs.length:=by simpa using hj
  exact iZ n xs[j] _ (he j _ _ (by simp[hj]) (by simp[hj]))
 |n+1,.dct _,b,h=>by cases h
 |n+1,.mpi _,b,h=>by cases h
 |n+1,.mpt _,b,h=>by cases h
 |n+1,.mpz _,b,h=>by cases h
 | n+1,.tup xs,b,h=>by
  have h:(if xs.length=xs.length then p9 (D.eqf n) xs xs else none)=some b:=h;rw[if_pos rfl] at h;obtain⟨_,e,he,rfl⟩:=gN h;rw[dq];intro j hj;have hj:j<xs.length:=by simpa using hj
  exact iZ n xs[j] _ (he j _ _ (by simp[hj]) (by simp[hj]))
section
variable {pins:List (Addr×Obj)}{σ:L2.St}{H:Hp}{s:Shared}
theorem vp.inj {K:Frag}{a:Addr}{kvs kvs':List (Key×Option Int)}(h:vp K a kvs)(h':vp K a kvs'):kvs=kvs':=h.elim
noncomputable def nf:HO->Bool
 |.frz _ _=>false
 |_=>true
noncomputable def nt:HO->Bool
 |.tup _=>false
 |_=>true
theorem dW {H:Hp}{a:Addr}{u u':HO}(h:Rd H a u)(h':Rd H a u')(hu:nf u=true:=by rfl)(hu':nf u'=true:=by rfl):u=u':=by
 rcases h with h | ⟨o,h⟩<;>rcases h' with h' | ⟨o',h'⟩<;>rw[h] at h'
 ·exact br h'
 ·rw[br h'] at hu;cases hu
 ·rw[<-br h'] at hu';cases hu'
 ·cases h';rfl
theorem Ee (I:L2.Inv X pins σ H s){a:Addr}{o:Obj}(h:X.K.lookup a=some o):H a=none:=(I.bs a o (I.ok.mod.kin a o h)).2
theorem rE:∀{a b:List Int},a.map (Sum.inl (β:=Str))=b.map Sum.inl->a=b
 |[],[],_=>rfl
 |[],_::_,h=>by cases h
 |_::_,[],h=>by cases h
 | x::a,y::b,h=>by
  have h:(Sum.inl x:Key)::a.map Sum.inl=Sum.inl y::b.map Sum.inl:=h;injection h with h1 h2
  injection h1 with h1
  rw[h1,rE h2]
theorem rM:∀{a b:List (List Int)},Dz a=Dz b->a=b
 |[],[],_=>rfl
 |[],_::_,h=>by cases h
 |_::_,[],h=>by cases h
 | x::a,y::b,h=>by
  have h:(x.map Sum.inl,V.bl true)::Dz a=(y.map Sum.inl,V.bl true)::Dz b:=h;injection h with h1 h2
  injection h1 with h1 _
  rw[rE h1,rM h2]
theorem jm.not_rd (I:L2.Inv X pins σ H s){a:Addr}{vs:List V}{u:HO}(h:jm X.K H a vs)(h':Rd H a u)(hu:nf u=true:=by rfl)(ht:nt u=true:=by rfl):False:=by
 rcases h with h | h
 ·rw[dW h' h hu] at ht;cases ht
 ·obtain⟨o,_,_,h1,_⟩:=h;exact Rd.ne_none h' (Ee I h1)
theorem pS:∀{a b:List Int},a.map V.int=b.map V.int->a=b
 |[],[],_=>rfl
 |[],_::_,h=>by cases h
 |_::_,[],h=>by cases h
 | x::a,y::b,h=>by
  injection h with h1 h2
  injection h1 with h1
  rw[h1,pS h2]
theorem uP.inj (I:Inv X pins σ H s):∀{m m':MV}{v:V},uP X.K H m v->uP X.K H m' v->m=m'
 |.tr,.tr,_,_,_=>rfl
 |.int i,.int j,_,h,h'=>by cases h;cases h';rfl
 | .tup a,.tup b,_,⟨p,e,h⟩,⟨p',e',h'⟩=>by
  subst e;cases e';rw[pS (I.tuple_inj h.sq h'.sq)]
 |.tr,.int _,_,h,h'=>by cases h;cases h'
 |.int _,.tr,_,h,h'=>by cases h;cases h'
 |.tr,.tup _,_,h,⟨_,e,_⟩=>by cases h;cases e
 |.tup _,.tr,_,⟨_,e,_⟩,h=>by cases h;cases e
 |.int _,.tup _,_,h,⟨_,e,_⟩=>by cases h;cases e
 |.tup _,.int _,_,⟨_,e,_⟩,h=>by cases h;cases e
theorem jE.inj (I:Inv X pins σ H s):∀{a b:List (Int×MV)}{xs:List (Key×V)},jE X.K H a xs->jE X.K H b xs->a=b
 |[],[],_,_,_=>rfl
 |[],_::_,[],_,h=>h.elim
 |_::_,[],[],h,_=>h.elim
 |[],_::_,_::_,h,_=>h.elim
 |_::_,[],_::_,_,h=>h.elim
 |_::_,_::_,[],h,_=>h.elim
 | (k,m)::a,(k',m')::b,x::xs,⟨h1,h2,h3⟩,⟨g1,g2,g3⟩=>by
  rw[h1] at g1;injection g1 with g1
  have g1:k=k':=g1;rw[g1,show m=m' from uP.inj I h2 g2,jE.inj I h3 g3]
theorem Rep.inj (I:Inv X pins σ H s){d:D}{v:V}{G:List Addr}(h:Rep X.K H d v G):∀{e:D}{G':List Addr},Rep X.K H e v G'->d=e:=by
 refine Rep.rec (motive_1:=fun d v G _=>∀{e:D}{G':List Addr},Rep X.K H e v G'->d=e) (motive_2:=fun ds vs G _=>∀{es:List D}{G':List Addr},aG X.K H es vs G'->ds=es) ?non ?bl ?int ?str ?lst ?tup ?dct ?mpi ?mpt ?mpz ?nil ?cons h
 case non =>
  intro e' G' h;cases h;rfl
 case bl =>
  intro _ e' G' h;cases h;rfl
 case int =>
  intro _ e' G' h;cases h;rfl
 case str =>
  intro _ e' G' h;cases h;rfl
 case mpi =>
  intro p0 ks0 xs0 h r0 e' G' q;cases q with
  |mpi h' r'=>
   rw[h] at h';cases h';rw[jE.inj I r0 r']
  |mpz h' r'=>rw[h] at h';cases h'
  |mpt h'=>exact nomatch dW (.inl h) h'
  |lst h' _=>exact nomatch dW (.inl h) h'
  |tup h' _=>exact (jm.not_rd I h'.sq (.inl h)).elim
  |dct h' =>
   exact h'.elim
 case mpz =>
  intro p0 C0 o0 h r0 e' G' q;cases q with
  |mpz h' r'=>
   rw[h] at h';cases h';rw[r0] at r';cases r';rfl
  |mpi h' r'=>rw[h] at h';cases h'
  |mpt h'=>exact nomatch dW (.inr ⟨_,h⟩) h'
  |lst h' _=>exact nomatch dW (.inr ⟨_,h⟩) h'
  |tup h' _=>exact (jm.not_rd I h'.sq (.inr ⟨_,h⟩)).elim
  |dct h' =>
   exact h'.elim
 case mpt =>
  intro p0 ks0 h e' G' q;cases q with
  |mpt h'=>
   have:=dW h h';injection this with this
   rw[rM this]
  |mpi h' _=>exact nomatch dW h (.inl h')
  |mpz h' _=>exact nomatch dW h (.inr ⟨_,h'⟩)
  |lst h' _=>exact nomatch dW h h'
  |tup h' _=>exact (jm.not_rd I h'.sq h).elim
  |dct h' =>
   exact h'.elim
 case lst =>
  intro p0 vs0 ds0 G0 h r ih e' G' q;cases q with
  |mpi h' _=>exact nomatch dW h (.inl h')
  |mpz h' _=>exact nomatch dW h (.inr ⟨_,h'⟩)
  |mpt h'=>exact nomatch dW h h'
  |lst h' r' =>
   have e:=I.list_inj (.inl h) (.inl h');subst e;rw[ih r']
  |dct h' =>
   exact h'.elim
  |tup h' r' =>
   obtain⟨its,_,pl,_⟩:=I.list (.inl h);obtain⟨its',_,pt,_⟩:=I.tuple h'.sq;obtain⟨o,ho,hc,_⟩:=pl.isList;obtain⟨o',ho',hc',_⟩:=pt;rw[ho] at ho';cases ho';rw[hc] at hc';injection hc' with z;exact absurd z (by decide)
 case tup =>
  intro p0 vs0 ds0 G0 h r ih e' G' q;cases q with
  |mpi h' _=>exact (jm.not_rd I h.sq (.inl h')).elim
  |mpz h' _=>exact (jm.not_rd I h.sq (.inr ⟨_,h'⟩)).elim
  |mpt h'=>exact (jm.not_rd I h.sq h').elim
  |tup h' r' =>
   have e:=I.tuple_inj h.sq h'.sq;subst e;rw[ih r']
  |dct h' =>
   exact h'.elim
  |lst h' r' =>
   obtain⟨its,_,pl,_⟩:=I.list (.inl h');obtain⟨its',_,pt,_⟩:=I.tuple h.sq;obtain⟨o,ho,hc,_⟩:=pl.isList;obtain⟨o',ho',hc',_⟩:=pt;rw[ho] at ho';cases ho';rw[hc] at hc';injection hc' with z;exact absurd z (by decide)
 case dct =>
  intro p0 ks0 h e' G' q;cases q with
  |mpi h' _ =>
   exact h.elim
  |mpz h' _ =>
   exact h.elim
  |mpt h' =>
   exact h.elim
  |dct h'=>rw[vp.inj h h']
  |lst h' r' =>
   exact h.elim
  |tup h' r' =>
   exact h.elim
 case nil=>intro e' G' h;cases h;rfl
 case cons =>
  intro d0 v0 ds0 vs0 G0 G1 h r i1 i2 e' G' q;cases q with
  |cons h' r'=>rw[i1 h',i2 r']
open SeqAt in
theorem wK (I:Inv X pins σ H s):∀(n:Nat) (A:Around) (d e:D) (v w:V) (G G':List Addr) (u u':Value) (b:Bool),A.units+n<cLine->Rep X.K H d v G->Rep X.K H e w G'->RelV v u->RelV w u'->D.eqf n d e=some b->RcAt A s u u' b/\EqAt A s u u' b
 |0,_,_,_,_,_,_,_,_,_,_,_,_,_,_,_,h=>by cases h
 | n+1,A,d,e,v,w,G,G',u,u',b,hu,r1,r2,q1,q2,h=>by
  have hu1:A.in1.units+n<cLine:=by show A.units+1+n<cLine;omega
  have hu0:A.units<cLine:=by omega
  have items:∀{xs ys:List D}{vs ws:List V}{G1 G2:List Addr}{its its':List Value}{c:Bool},aG X.K H xs vs G1->aG X.K H ys ws G2->aL vs its->aL ws its'->p9 (D.eqf n) xs ys=some c ->
    its.toArray.size=its'.toArray.size/\∃ ee:Nat->Bool,c=(List.range its.toArray.size).all ee/\∀ j (h1:j<its.toArray.size) (h2:j<its'.toArray.size),EqAt A.in1 s its.toArray[j] its'.toArray[j] (ee j):=by
   intro xs ys vs ws G1 G2 its its' c a1 a2 b1 b2 hc;obtain⟨hl,ee,he,rfl⟩:=gN hc;have l1:=a1.len;have l2:=a2.len;have l3:=b1.length;have l4:=b2.length;have sz:its.toArray.size=xs.length:=by rw[ak];omega
   refine⟨by rw[ak,ak];omega,ee,by rw[sz],fun j h1 h2=>?_⟩;have j1:j<xs.length:=by rw[<-sz];exact h1
   have j2:j<ys.length:=by omega
   obtain⟨v1,g1,e1,p1,_⟩:=a1.get (i:=j) (d:=xs[j]) (by simp[j1]);obtain⟨v2,g2,e2,p2,_⟩:=a2.get (i:=j) (d:=ys[j]) (by simp[j2]);obtain⟨u1,f1,t1⟩:=b1.get e1;obtain⟨u2,f2,t2⟩:=b2.get e2;have x1:its.toArray[j]=u1:=by
    have:=List.getElem?_eq_some_iff.mp f1;simpa using this.2
   have x2:its'.toArray[j]=u2:=by
    have:=List.getElem?_eq_some_iff.mp f2;simpa using this.2
   rw[x1,x2];exact (wK I n A.in1 _ _ _ _ _ _ _ _ _ hu1 p1 p2 t1 t2 (he j _ _ (by simp[j1]) (by simp[j2]))).2
  have refs:∀{l m:Addr}{c:Bool},(l=m->c=true)->RcAt A s (.ref l) (.ref m) c->RcAt A s (.ref l) (.ref m) c/\EqAt A s (.ref l) (.ref m) c:=fun {l m c} hs hr=>⟨hr,by
   by_cases z:l=m
   ·subst z;rw[hs rfl];exact EqAt.same _
   ·exact EqAt.of_refs z hr⟩
  cases d with
  |dct _=>cases e<;>cases h
  |mpi _=>cases e<;>cases h
  |mpt _=>cases e<;>cases h
  |mpz _=>cases e<;>cases h
  |non =>
   obtain⟨rfl,rfl⟩:=r1.non_inv;cases q1;cases e with
   |non=>obtain⟨rfl,rfl⟩:=r2.non_inv;cases q2;cases h;exact⟨RcAt.none_none,EqAt.same _⟩
   |int i=>obtain⟨rfl,rfl⟩:=r2.int_inv;obtain⟨t,rfl⟩:=q2;cases h;exact⟨RcAt.none_int i t,EqAt.none_int i t⟩
   |_=>cases h
  |bl _=>cases e<;>cases h
  |int a =>
   obtain⟨rfl,rfl⟩:=r1.int_inv;obtain⟨t0,rfl⟩:=q1;cases e with
   |non=>obtain⟨rfl,rfl⟩:=r2.non_inv;cases q2;cases h;exact⟨RcAt.int_none a t0,EqAt.int_none a t0⟩
   |int i=>obtain⟨rfl,rfl⟩:=r2.int_inv;obtain⟨t,rfl⟩:=q2;cases h;exact⟨RcAt.int_int a t0 i t,EqAt.int_int a t0 i t⟩
   |_=>cases h
  |str _=>cases e<;>cases h
  |lst xs =>
   obtain⟨l,vs,g,rfl,rfl,a1,a2⟩:=r1.lst_inv;cases q1;obtain⟨its,rv,pl,_⟩:=I.list (.inl a1);cases e with
   |lst ys =>
    obtain⟨m,ws,g',rfl,rfl,b1,b2⟩:=r2.lst_inv;cases q2;obtain⟨its',rv',pl',_⟩:=I.list (.inl b1);have same:l=m->b=true:=fun z=>by
     subst z;have e0:=Rep.inj I r1 r2;rw[e0] at h;exact iZ _ _ _ h
    have h:(if xs.length=ys.length then p9 (D.eqf n) xs ys else some false)=some b:=h;by_cases hl:xs.length=ys.length
    ·rw[if_pos hl] at h;obtain⟨hz,ee,rfl,he⟩:=items a2 b2 rv rv' h;exact refs same (RcAt.lists pl.isList pl'.isList hz hu0 he)
    ·rw[if_neg hl] at h;cases h;have hz:(its.toArray.size != its'.toArray.size)=true:=by
      have l1:=a2.len;have l2:=b2.len;have l3:=rv.length;have l4:=rv'.length;simp only[bne_iff_ne,ne_eq,List.size_toArray];omega
     exact refs same (RcAt.lists_lengths pl.isList pl'.isList hz hu0)
   |_=>cases h
  |tup xs =>
   obtain⟨l,vs,rfl,a1,a2⟩:=r1.tup_inv;cases q1;obtain⟨its,rv,pl,_⟩:=I.tuple a1;cases e with
   |tup ys =>
    obtain⟨m,ws,rfl,b1,b2⟩:=r2.tup_inv;cases q2;obtain⟨its',rv',pl',_⟩:=I.tuple b1;have same:l=m->b=true:=fun z=>by
     subst z;have e0:=Rep.inj I r1 r2;rw[e0] at h;exact iZ _ _ _ h
    have h:(if xs.length=ys.length then p9 (D.eqf n) xs ys else none)=some b:=h;by_cases hl:xs.length=ys.length
    ·rw[if_pos hl] at h;obtain⟨hz,ee,rfl,he⟩:=items a2 b2 rv rv' h;have q:=RcAt.tuples (e:=ee) pl pl' hu0 he;rw[<-hz,Nat.min_self,gw,Bool.and_true] at q;exact refs same q
    ·rw[if_neg hl] at h;cases h
   |_=>cases h
end
end
section
open PySem.SeqAt
open PySem.AutoSeq1 (wpAny_loadPart')
open PySem.MeetsSeq PySem.MeetsSeq2 PySem.MeetsSeq3
end
section
open PySem.SeqAt
open PySem.AutoSeq1 (wpAny_loadPart')
open PySem.MeetsSeq PySem.MeetsSeq2 PySem.MeetsSeq3
end
section
variable {X:Cx}{pins:List (Addr×Obj)}{σ:L2.St}{H:Hp}{s:Shared}
end
section
variable {X:Cx}{pins:List (Addr×Obj)}{σ:L2.St}{H:Hp}{s:Shared}
open SeqAt in
theorem E5 (I:Inv X pins σ H s)(n:Nat)(A:Around)(d e:D)(v w:V)(G G':List Addr)(u u':Value)(b:Bool)(hu:A.units+n<cLine)(r1:Rep X.K H d v G)(r2:Rep X.K H e w G')(q1:RelV v u)(q2:RelV w u')(h:D.eqf n d e=some b):RcNeAt A s u u' (!b):=by
 cases n with
 |zero=>cases h
 |succ n =>
  have hu1:A.in1.units+n<cLine:=by show A.units+1+n<cLine;omega
  have hu0:A.units<cLine:=by omega
  have items:∀{xs ys:List D}{vs ws:List V}{G1 G2:List Addr}{its its':List Value}{c:Bool},aG X.K H xs vs G1->aG X.K H ys ws G2->aL vs its->aL ws its'->p9 (D.eqf n) xs ys=some c ->
    its.toArray.size=its'.toArray.size/\∃ ee:Nat->Bool,c=(List.range its.toArray.size).all ee/\∀ j (h1:j<its.toArray.size) (h2:j<its'.toArray.size),EqAt A.in1 s its.toArray[j] its'.toArray[j] (ee j):=by
   intro xs ys vs ws G1 G2 its its' c a1 a2 b1 b2 hc;obtain⟨hl,ee,he,rfl⟩:=gN hc;have l1:=a1.len;have l2:=a2.len;have l3:=b1.length;have l4:=b2.length;have sz:its.toArray.size=xs.length:=by rw[ak];omega
   refine⟨by rw[ak,ak];omega,ee,by rw[sz],fun j h1 h2=>?_⟩;have j1:j<xs.length:=by rw[<-sz];exact h1
   have j2:j<ys.length:=by omega
   obtain⟨v1,g1,e1,p1,_⟩:=a1.get (i:=j) (d:=xs[j]) (by simp[j1]);obtain⟨v2,g2,e2,p2,_⟩:=a2.get (i:=j) (d:=ys[j]) (by simp[j2]);obtain⟨u1,f1,t1⟩:=b1.get e1;obtain⟨u2,f2,t2⟩:=b2.get e2;have x1:its.toArray[j]=u1:=by
    have:=List.getElem?_eq_some_iff.mp f1;simpa using this.2
   have x2:its'.toArray[j]=u2:=by
    have:=List.getElem?_eq_some_iff.mp f2;simpa using this.2
   rw[x1,x2];exact (wK I n A.in1 _ _ _ _ _ _ _ _ _ hu1 p1 p2 t1 t2 (he j _ _ (by simp[j1]) (by simp[j2]))).2
  have lsti:∀{ys:List D}{w:V}{g:List Addr}{u:Value},Rep X.K H (.lst ys) w g->RelV w u->∃ m its vs g',u = .ref m/\s.heap.IsList m its.toArray/\aL vs its/\aG X.K H ys vs g':=fun {ys w g u} r q=>by
   obtain⟨m,ws,g',rfl,rfl,a1,a2⟩:=r.lst_inv;cases q;obtain⟨its,rv,pl,_⟩:=I.list (.inl a1);exact⟨m,its,ws,g',rfl,pl.isList,rv,a2⟩
  have tupi:∀{ys:List D}{w:V}{g:List Addr}{u:Value},Rep X.K H (.tup ys) w g->RelV w u->∃ m its vs,u = .ref m/\s.heap.IsTuple m its.toArray/\aL vs its/\aG X.K H ys vs g:=fun {ys w g u} r q=>by
   obtain⟨m,ws,rfl,a1,a2⟩:=r.tup_inv;cases q;obtain⟨its,rv,pl,_⟩:=I.tuple a1;exact⟨m,its,ws,rfl,pl,rv,a2⟩
  cases d with
  |dct _=>cases e<;>cases h
  |mpi _=>cases e<;>cases h
  |mpt _=>cases e<;>cases h
  |mpz _=>cases e<;>cases h
  |non =>
   obtain⟨rfl,rfl⟩:=r1.non_inv;cases q1;cases e with
   |non=>obtain⟨rfl,rfl⟩:=r2.non_inv;cases q2;cases h;exact RcNeAt.none_none
   |int i=>obtain⟨rfl,rfl⟩:=r2.int_inv;obtain⟨t,rfl⟩:=q2;cases h;exact RcNeAt.none_int i t
   |_=>cases h
  |bl _=>cases e<;>cases h
  |int a =>
   obtain⟨rfl,rfl⟩:=r1.int_inv;obtain⟨t0,rfl⟩:=q1;cases e with
   |non=>obtain⟨rfl,rfl⟩:=r2.non_inv;cases q2;cases h;exact RcNeAt.int_none a t0
   |int i=>obtain⟨rfl,rfl⟩:=r2.int_inv;obtain⟨t,rfl⟩:=q2;cases h;exact RcNeAt.int_int a t0 i t
   |_=>cases h
  |str _=>cases e<;>cases h
  |lst xs =>
   obtain⟨l,its,vs,g1,rfl,pl,rv,a2⟩:=lsti r1 q1;cases e with
   |lst ys =>
    obtain⟨m,its',ws,g2,rfl,pl',rv',b2⟩:=lsti r2 q2;have h:(if xs.length=ys.length then p9 (D.eqf n) xs ys else some false)=some b:=h;by_cases hl:xs.length=ys.length
    ·rw[if_pos hl] at h;obtain⟨hz,ee,rfl,he⟩:=items a2 b2 rv rv' h;exact RcNeAt.lists pl pl' hz hu0 he
    ·rw[if_neg hl] at h;cases h;have hz:(its.toArray.size != its'.toArray.size)=true:=by
      have l1:=a2.len;have l2:=b2.len;have l3:=rv.length;have l4:=rv'.length;simp only[bne_iff_ne,ne_eq,List.size_toArray];omega
     exact RcNeAt.lists_lengths pl pl' hz hu0
   |_=>cases h
  |tup xs =>
   obtain⟨l,its,vs,rfl,pl,rv,a2⟩:=tupi r1 q1;cases e with
   |tup ys =>
    obtain⟨m,its',ws,rfl,pl',rv',b2⟩:=tupi r2 q2;have h:(if xs.length=ys.length then p9 (D.eqf n) xs ys else none)=some b:=h;by_cases hl:xs.length=ys.length
    ·rw[if_pos hl] at h;obtain⟨hz,ee,rfl,he⟩:=items a2 b2 rv rv' h;have q:=RcNeAt.tuples (e:=ee) pl pl' hu0 he;rw[<-hz,Nat.min_self,gw,Bool.and_true] at q;exact q
    ·rw[if_neg hl] at h;cases h
   |_=>cases h
end
section
variable {X:Cx}
theorem jE.any {K:Frag}{H:Hp}(n:Int):∀{q:List (Int×MV)}{x:List (Key×V)},jE K H q x->(x.any fun kv=>decide (kv.1=Sum.inl n))=q.any fun kv=>decide (kv.1=n)
 |[],[],_=>rfl
 | (k,m)::q,p::x,⟨a,_,c⟩=>by
  rw[ip,ip,c.any n,a];congr 1;exact decide_eq_decide.mpr ⟨fun e=>by injection e,fun e=>by rw[e]⟩
 |[],_::_,h=>h.elim
 |_::_,[],h=>h.elim
theorem mj {K:Frag}{H:Hp}:∀ ks:List Int,aG K H (ks.map D.int) (ks.map V.int) []
 |[]=>.nil
 |k::ks=>.cons (G:=[]) (G':=[]) (.int k) (mj ks)
theorem rS (op:CmpOp)(hx:X.A.units+40<cLine/\xM X.w X.K):kS X (compareOp op) (xO X.K fun x y=>(jG op x y).map .bl):=by
 have hu:=hx.1;intro pins s σ H x y v u Q I rx ry h;obtain⟨d1,d2,d,G,rs,hd,k⟩:=h;obtain⟨G1,G2,r1,r2,rfl⟩:=rs.inv2;rw[aa] at hd;obtain⟨b,hb,rfl⟩:=hd;have fin:Q (.bl b) H:=k _ H [] (.bl b) gS.nil;have ep:∀ c,c=b->EP X pins σ Q (.bool c) s:=fun c e=>⟨.bl b,H,I,by rw[e];rfl,fin⟩
 have onInts:∀{f:Int->Int->Bool},(∀ i j,jG op (.int i) (.int j)=some (f i j))->(∀ d1 d2,(∀ i j,¬ (d1 = .int i/\d2 = .int j))->jG op d1 d2=none)->kS X (compareOp op) (zc fun i j=>.bl (f i j))->wpAny (model X.prog X.w) X.A (compareOp op v u) (EP X pins σ Q) X.xe s:=by
  intro f h1 h2 ho;by_cases hi:∃ i j,d1 = .int i/\d2 = .int j
  ·obtain⟨i,j,rfl,rfl⟩:=hi;rw[h1] at hb;cases hb;obtain⟨rfl,rfl⟩:=r1.int_inv;obtain⟨rfl,rfl⟩:=r2.int_inv;exact ho pins s σ H _ _ v u Q I rx ry ⟨i,j,rfl,rfl,fin⟩
  ·rw[h2 d1 d2 fun i j z=>hi ⟨i,j,z⟩] at hb;cases hb
 have nope:∀(op:CmpOp),(op = .Gt\/op = .GtE)->∀ d1 d2:D,(∀ i j,¬ (d1 = .int i/\d2 = .int j))->jG op d1 d2=none:=by
  intro op ho d1 d2 hn;cases d1 with
  |int i =>
   cases d2 with
   |int j=>exact absurd ⟨rfl,rfl⟩ (hn i j)
   |_=>rcases ho with rfl | rfl<;>rfl
  |_=>rcases ho with rfl | rfl<;>rfl
 cases op with
 |Lt =>
  cases d1 with
  |int i =>
   cases d2 with
   |int j =>
    cases hb;obtain⟨rfl,rfl⟩:=r1.int_inv;obtain⟨rfl,rfl⟩:=r2.int_inv;exact EO pins s σ H _ _ v u Q I rx ry ⟨i,j,rfl,rfl,fin⟩
   |_=>cases hb
  |_=>cases hb
 |LtE =>
  cases d1 with
  |int i =>
   cases d2 with
   |int j =>
    cases hb;obtain⟨rfl,rfl⟩:=r1.int_inv;obtain⟨rfl,rfl⟩:=r2.int_inv;exact DA pins s σ H _ _ v u Q I rx ry ⟨i,j,rfl,rfl,fin⟩
   |_=>cases hb
  |_=>cases hb
 |Gt=>exact onInts (fun _ _=>rfl) (nope .Gt (.inl rfl)) Ew
 |GtE=>exact onInts (fun _ _=>rfl) (nope .GtE (.inr rfl)) Dr
 |Eq =>
  have hb:D.eqf 40 d1 d2=some b:=hb;exact (wK I 40 X.A d1 d2 x y G1 G2 v u b hu r1 r2 rx ry hb).1 _ _ _ _ (ep b rfl)
 |NotEq =>
  have hb:(D.eqf 40 d1 d2).map (!·)=some b:=hb;rw[aa] at hb;obtain⟨c,hc,rfl⟩:=hb;exact E5 I 40 X.A d1 d2 x y G1 G2 v u c hu r1 r2 rx ry hc _ _ _ _ (ep _ rfl)
 |Is =>
  cases d2 with
  |non =>
   obtain⟨rfl,rfl⟩:=r2.non_inv;refine BU pins s σ H _ _ v u Q I rx ry ⟨rfl,?_⟩;have hb:some (xH d1)=some b:=hb;cases hb;have:decide (x=V.non)=xH d1:=by
    cases r1<;>rfl
   rw[this];exact fin
  |_=>cases hb
 |IsNot=>cases hb
 |In=>cases hb
 |NotIn=>cases hb
theorem vz (n:Nat)(i:Int):Pc.fE n i=L2.fE n i:=rfl
theorem zk (hx:xM X.w X.K):zQ X (Er X.K):=by
 intro value slice pins s σ H x y v u Q I rx ry h hs;obtain⟨d1,d2,d,G,rs,hd,k⟩:=h;obtain⟨G1,G2,r1,r2,rfl⟩:=rs.inv2;cases d2 with
 |int i =>
  obtain⟨rfl,rfl⟩:=r2.int_inv;rw[bc] at k;have seq:∀{xs:List D}{vs:List V}{g:List Addr},aG X.K H xs vs g->((fE xs.length i).bind fun j=>xs[j]?)=some d->∃ w g',AM vs i=some w/\Rep X.K H d w g'/\g'.Sublist g:=fun {xs vs g} r e=>by
   rw[ae] at e;obtain⟨j,e1,e2⟩:=e;obtain⟨w,g',a,b,c⟩:=r.get e2;refine⟨w,g',?_,b,c⟩;unfold AM;rw[<-r.len,<-vz,e1];exact a
  cases d1 with
  |lst xs =>
   obtain⟨p,vs,g,rfl,rfl,a1,a2⟩:=r1.lst_inv;obtain⟨w,g',e1,e2,e3⟩:=seq a2 hd;exact sW value slice pins s σ H _ _ v u Q I rx ry ⟨p,vs,i,w,rfl,rfl,.inl a1,e1,k w g' e2 (e3.trans (List.sublist_cons_self _ _))⟩ hs
  |tup xs =>
   obtain⟨p,vs,rfl,a1,a2⟩:=r1.tup_inv;obtain⟨w,g',e1,e2,e3⟩:=seq a2 hd;exact wu value slice pins s σ H _ _ v u Q I rx ry ⟨p,vs,i,w,rfl,rfl,a1,e1,k w g' e2 e3⟩ hs
  |_=>cases hd
 |_=>cases d1<;>cases hd
end
section
variable {X:Cx}{T:Tb}{a b c:Expr}{ca cb cc:Ex}{pos:Pos}
theorem CW {i:Nat}{x:Str}(hN:X.N[i]? = some x)(hv:xJ X.env.scope x)(hd:(x==("__debug__" : Str))=false) (hcd:(x==("__classdict__" : Str))=false):PE X (.Name x pos) (tE X.K T (.var i)):=by
 refine bJ (kT hN hv hd hcd) fun σ H Q ⟨P,env,F,re,p,hev,k⟩=>?_
 unfold ev at hev;cases hs:env[i]? with
 |none=>rw[hs] at hev;cases hev
 |some o =>
  cases o with
  |none=>rw[hs] at hev;cases hev
  |some q =>
   obtain⟨d,t⟩:=q;rw[hs] at hev;simp only[Rs.ok.injEq] at hev;subst hev;obtain⟨v,e1,rp⟩:=re.val i d t hs;refine⟨v,e1,k v H (F i) (aE.refl _) rp ?_⟩;cases hf:d.flat with
   |true =>
    rw[rp.flat hf];exact bP.nil
   |false =>
    simp only[Bool.false_eq_true,if_false];have ow:be t=true->bP env F H (.mv [i]) H (F i):=fun o=>by
     obtain⟨n1,n2,n3⟩:=re.one i d t hs o;refine⟨fun a ha=>.inr ⟨i,d,t,ha,hs,fun q hq=>by cases t<;>simp_all [aY,be,Rt.roots]⟩,fun R e=>?_⟩;cases e;exact⟨n1,n2,fun a ha=>.inr ⟨i,d,t,by simp,ha,hs,o⟩⟩
    cases t with
    |own=>exact ow rfl
    |lk=>exact ow rfl
    |sh R=>exact⟨fun a ha=>.inr ⟨i,d,.sh R,ha,hs,fun q hq=>hq⟩,fun R' e=>by cases e⟩
theorem gO {e:Expr}{d:D}{v:V}(h:PE X e (tC v))(hr:∀ H,Rep X.K H d v []):PE X e (tE X.K T (.cst d)):=by
 refine bJ h fun σ H Q ⟨P,env,F,re,p,hev,k⟩=>?_
 unfold ev at hev;cases hev;exact k v H [] (aE.refl _) (hr H) bP.nil
theorem AQ {e:Expr}{i:Nat}{v:V}(h:PE X e (tC v))(hr:∀ H,Rep X.K H (T.gl i) v []):PE X e (tE X.K T (.glb i)):=by
 refine bJ h fun σ H Q ⟨P,env,F,re,p,hev,k⟩=>?_
 unfold ev at hev;cases hev;exact k v H [] (aE.refl _) (hr H) bP.nil
theorem Cu (ha:PE X a (tE X.K T ca)):PE X (.UnaryOp .USub a pos) (tE X.K T (.neg ca)):=by
 refine bJ (Eh A6 ha) fun σ H Q ⟨P,env,F,re,p,hev,k⟩=>?_
 unfold ev at hev;obtain⟨q,h1,hev⟩:=Rs.bind_ok hev;refine⟨P,env,F,re,q,h1,fun v H1 G s rp rt=>?_⟩;cases hq:q.1 with
 |int i =>
  rw[hq] at hev rp;cases hev;obtain⟨rfl,rfl⟩:=rp.int_inv;exact⟨i,rfl,k _ H1 [] s (.int _) bP.nil⟩
 |_=>rw[hq] at hev;cases hev
theorem Bg {op:CmpOp}(hu:X.A.units+40<cLine/\xM X.w X.K)(ha:PE X a (tE X.K T ca))(hb:PE X b (tE X.K T cb))(hm:behindInMarks op b=false):PT X (.Compare a [op] [b] pos) (mU X.K T (.cmp op ca cb)):=by
 refine qL (x8 (rS op hu) ha hb hm) fun σ H Q ⟨P,env,F,re,p0,bb,hev,ht,k⟩=>?_
 unfold ev at hev;obtain⟨p,h1,hev⟩:=Rs.bind_ok hev;obtain⟨q,h2,hev⟩:=Rs.bind_ok hev;obtain⟨d,h3,hev⟩:=Rs.bind_ok hev;have h3:=cL h3;cases hev;obtain rfl:d=bb:=br ht;refine two re h1 h2 fun x y H2 G ar=>⟨p.1,q.1,.bl d,G,ar.reps,by simp[h3],fun v H' G' rp nv=>?_⟩
 obtain⟨rfl,_⟩:=rp.bl_inv;exact⟨d,rfl,k H' (ar.same.trans nv.same)⟩
variable {rest:List Expr}
theorem Cf (ha:PE X a (tE X.K T ca))(hb:PE X (.BoolOp .And (b::rest) pos) (tE X.K T cb)):PE X (.BoolOp .And (a::b::rest) pos) (tE X.K T (.and ca cb)):=by
 refine bJ (Cn ha hb) fun σ H Q ⟨P,env,F,re,p,hev,k⟩=>?_
 unfold ev at hev;obtain⟨q,h1,hev⟩:=Rs.bind_ok hev;refine⟨P,env,F,re,q,h1,fun v H1 G s rp rt=>?_⟩;cases hq:q.1 with
 |bl kb =>
  rw[hq] at hev rp;obtain⟨rfl,rfl⟩:=rp.bl_inv;cases kb with
  |true=>exact⟨true,rfl,by rw[if_pos rfl];exact⟨P,env,F,re.same s,p,hev,fun v H' G s' rp' rt'=>k v H' G (s.trans s') rp' (rt'.back s)⟩⟩
  |false =>
   cases hev;exact⟨false,rfl,by rw[if_neg cw];exact k _ H1 [] s (.bl _) bP.nil⟩
 |_=>rw[hq] at hev;cases hev
theorem Ed (ha:PE X a (tE X.K T ca))(hb:PE X (.BoolOp .Or (b::rest) pos) (tE X.K T cb)):PE X (.BoolOp .Or (a::b::rest) pos) (tE X.K T (.or ca cb)):=by
 refine bJ (DW ha hb) fun σ H Q ⟨P,env,F,re,p,hev,k⟩=>?_
 unfold ev at hev;obtain⟨q,h1,hev⟩:=Rs.bind_ok hev;refine⟨P,env,F,re,q,h1,fun v H1 G s rp rt=>?_⟩;cases hq:q.1 with
 |bl kb =>
  rw[hq] at hev rp;obtain⟨rfl,rfl⟩:=rp.bl_inv;cases kb with
  |false=>exact⟨false,rfl,by rw[if_neg cw];exact⟨P,env,F,re.same s,p,hev,fun v H' G s' rp' rt'=>k v H' G (s.trans s') rp' (rt'.back s)⟩⟩
  |true =>
   cases hev;exact⟨true,rfl,by rw[if_pos rfl];exact k _ H1 [] s (.bl _) bP.nil⟩
 |_=>rw[hq] at hev;cases hev
theorem BN (ha:PE X a (tE X.K T ca)):PE X (.UnaryOp .Not a pos) (tE X.K T (.not ca)):=by
 refine bJ (wj ha) fun σ H Q ⟨P,env,F,re,p,hev,k⟩=>?_
 unfold ev at hev;obtain⟨q,h1,hev⟩:=Rs.bind_ok hev;refine⟨P,env,F,re,q,h1,fun v H1 G s rp rt=>?_⟩;cases hq:q.1 with
 |bl kb =>
  rw[hq] at hev rp;obtain⟨rfl,rfl⟩:=rp.bl_inv;cases hev;exact⟨kb,rfl,k _ H1 [] s (.bl _) bP.nil⟩
 |_=>rw[hq] at hev;cases hev
theorem CC (ha:PT X a (mU X.K T ca))(hb:PW X (.BoolOp .And (b::rest) pos) (mU X.K T cb)):PW X (.BoolOp .And (a::b::rest) pos) (mU X.K T (.and ca cb)):=by
 intro wh pins s σ H Q I h;refine CN ha hb wh pins s σ H Q I ?_;obtain⟨P,env,F,re,p,bb,hev,ht,k⟩:=h;unfold ev at hev;obtain⟨q,h1,hev⟩:=Rs.bind_ok hev;cases hq:q.1 with
 |bl kb =>
  rw[hq] at hev;cases kb with
  |true=>exact⟨P,env,F,re,q,true,h1,by rw[hq];rfl,fun H' s=>by show if true=true then _ else _;rw[if_pos rfl];exact⟨P,env,F,re.same s,p,bb,hev,ht,fun H2 s2=>k H2 (s.trans s2)⟩⟩
  |false =>
   cases hev;cases ht;exact⟨P,env,F,re,q,false,h1,by rw[hq];rfl,fun H' s=>by show if false=true then _ else _;rw[if_neg cw];exact k H' s⟩
 |_=>rw[hq] at hev;cases hev
theorem Dx (ha:PT X a (mU X.K T ca))(hb:PW X (.BoolOp .Or (b::rest) pos) (mU X.K T cb)):PW X (.BoolOp .Or (a::b::rest) pos) (mU X.K T (.or ca cb)):=by
 intro wh pins s σ H Q I h;refine Ag ha hb wh pins s σ H Q I ?_;obtain⟨P,env,F,re,p,bb,hev,ht,k⟩:=h;unfold ev at hev;obtain⟨q,h1,hev⟩:=Rs.bind_ok hev;cases hq:q.1 with
 |bl kb =>
  rw[hq] at hev;cases kb with
  |false=>exact⟨P,env,F,re,q,false,h1,by rw[hq];rfl,fun H' s=>by show if false=true then _ else _;rw[if_neg cw];exact⟨P,env,F,re.same s,p,bb,hev,ht,fun H2 s2=>k H2 (s.trans s2)⟩⟩
  |true =>
   cases hev;cases ht;exact⟨P,env,F,re,q,true,h1,by rw[hq];rfl,fun H' s=>by show if true=true then _ else _;rw[if_pos rfl];exact k H' s⟩
 |_=>rw[hq] at hev;cases hev
theorem BO (ha:PT X a (mU X.K T ca)):PT X (.UnaryOp .Not a pos) (mU X.K T (.not ca)):=by
 refine qL (qv ha) fun σ H Q ⟨P,env,F,re,p,bb,hev,ht,k⟩=>?_
 unfold ev at hev;obtain⟨q,h1,hev⟩:=Rs.bind_ok hev;cases hq:q.1 with
 |bl kb =>
  rw[hq] at hev;cases hev;cases ht;exact⟨P,env,F,re,q,kb,h1,by rw[hq];rfl,fun H' s=>k H' s⟩
 |_=>rw[hq] at hev;cases hev
theorem zA {K:Frag}{H:Hp}{d:D}{v:V}{G:List Addr}{b:Bool}(rp:Rep K H d v G)(h:truth d=some b):B3 K v H b:=by
 cases rp with
 |dct _=>cases h
 |mpi _=>cases h
 |mpt _=>cases h
 |mpz _=>cases h
 |non=>cases h;rfl
 |bl c=>cases h;rfl
 |int i=>cases h;rfl
 |str z =>
  simp only[truth] at h;by_cases hl:z.length<=lim
  ·rw[if_pos hl] at h;cases h;exact⟨kG hl,rfl⟩
  ·rw[if_neg hl] at h;cases h
 |lst a r =>
  rename_i vs ds g;cases h;refine .inl ⟨vs,.inl a,?_⟩;have:=r.len;cases ds<;>cases vs<;>simp_all
 |tup a r =>
  rename_i vs ds;cases h;refine .inr (.inl ⟨vs,a.sq,?_⟩);have:=r.len;cases ds<;>cases vs<;>simp_all
theorem cA {e:Expr}(h:PE X e (tE X.K T ca))(he:∀ whole,isTrue e X.env whole=(do let v <- whole;standAt e.pos;holding [v] (truthy v))):PT X e (mU X.K T ca):=by
 refine qL (xk h he) fun σ H Q ⟨P,env,F,re,p,bb,hev,ht,k⟩=>?_
 exact⟨P,env,F,re,p,hev,fun v H' G s rp rt=>⟨bb,zA rp ht,k H' s⟩⟩
theorem A2 (hc:PT X c (mU X.K T cc))(ha:PE X a (tE X.K T ca))(hb:PE X b (tE X.K T cb)):PE X (.IfExp c a b pos) (tE X.K T (.ite cc ca cb)):=by
 refine bJ (wq hc ha hb) fun σ H Q ⟨P,env,F,re,p,hev,k⟩=>?_
 unfold ev at hev;obtain⟨q,h1,hev⟩:=Rs.bind_ok hev;obtain⟨kb,h2,hev⟩:=Rs.bind_ok hev;refine⟨P,env,F,re,q,kb,h1,cL h2,fun H' s=>?_⟩;cases kb with
 |true=>rw[if_pos rfl];exact⟨P,env,F,re.same s,p,hev,fun v H2 G s' rp' rt'=>k v H2 G (s.trans s') rp' (rt'.back s)⟩
 |false=>rw[if_neg cw];exact⟨P,env,F,re.same s,p,hev,fun v H2 G s' rp' rt'=>k v H2 G (s.trans s') rp' (rt'.back s)⟩
variable {es:List Expr}{cs:jM}
theorem qg:PA X [] (sY X.K T .nil):=by
 refine va eK fun σ H Q ⟨P,env,F,re,l,hev,k⟩=>?_
 unfold bN at hev;cases hev;exact k [] H [] (.nil (aE.refl _))
theorem mT (ha:PE X a (tE X.K T ca))(hr:PA X es (sY X.K T cs))(hs:starEach (a::es) X.env=(false,eval a X.env)::starEach es X.env):PA X (a::es) (sY X.K T (.cons ca cs)):=by
 refine va (aX ha hr hs) fun σ H Q ⟨P,env,F,re,l,hev,k⟩=>?_
 unfold bN at hev;obtain⟨p,h1,hev⟩:=Rs.bind_ok hev;obtain⟨q,h2,hev⟩:=Rs.bind_ok hev;cases hev;exact⟨P,env,F,re,p,h1,fun v H1 G s rp rt=>⟨P,env,F,re.same s,q,h2,fun vs H2 G' ar=>k (v::vs) H2 _ (.cons s rp rt ar)⟩⟩
theorem bP.addNew {env:En}{F:Nat->List Addr}{H H1:Hp}{r:Rt}{G:List Addr}{p:Addr}{vs:List V}(h:bP env F H r H1 G)(e:aE H H1)(hp:H1 p=none)(hl:∀ a∈G,H1 a≠none):bP env F H r (upd H1 p (.lst vs)) (p::G) where
 cont:=fun a ha=>by
  rcases gc.mp ha with rfl | ha
  ·exact .inl (aE.no e hp)
  ·exact h.cont a ha
 mv:=fun R hr=>by
  obtain⟨a,b,c⟩:=h.mv R hr;refine⟨List.nodup_cons.mpr ⟨fun z=>hl p z hp,a⟩,fun x hx=>?_,fun x hx=>?_⟩
  ·rcases gc.mp hx with rfl | hx
   ·exact⟨.l _,aK⟩
   ·obtain⟨ws,q⟩:=b x hx;exact⟨ws,aE.new hp _ _ q⟩
  ·rcases gc.mp hx with rfl | hx
   ·exact .inl (aE.no e hp)
   ·exact c x hx
theorem CQ (h:PA X es (sY X.K T cs)):PE X (.List es pos) (tE X.K T (.lst cs)):=by
 refine bJ (wx h) fun σ H Q ⟨P,env,F,re,p,hev,k⟩=>?_
 unfold ev at hev;obtain⟨l,h1,hev⟩:=Rs.bind_ok hev;by_cases hl:l.length<=lim
 ·rw[if_pos hl] at hev;cases hev;refine⟨P,env,F,re,l,h1,fun vs H1 G ar=>?_⟩;have rs:=ar.reps;have hlen:=rs.len;rw[ai] at hlen;refine⟨by rw[<-hlen];exact kG hl,fun q hq=>?_⟩;have e:=aE.new (o:=.lst vs) hq;exact k _ _ (q::G) (ar.same.trans e) (.lst (.inl aK) (rs.same e)) ((ar.comb re).addNew ar.same hq fun a ha=>rs.nn ha)
 ·rw[if_neg hl] at hev;cases hev
theorem AU {x1:Nat}(h:PA X es (sY X.K T cs)):PE X (.Tuple es x1 pos) (tE X.K T (.tup cs)):=by
 refine bJ (xu h) fun σ H Q ⟨P,env,F,re,p,hev,k⟩=>?_
 unfold ev at hev;obtain⟨l,h1,hev⟩:=Rs.bind_ok hev;by_cases hl:l.length<=lim
 ·rw[if_pos hl] at hev;cases hev;refine⟨P,env,F,re,l,h1,fun vs H1 G ar=>?_⟩;have rs:=ar.reps;have hlen:=rs.len;rw[ai] at hlen;refine⟨by rw[<-hlen];exact kG hl,fun q hq=>?_⟩;have e:=aE.new (o:=.tup vs) hq;exact k _ _ G (ar.same.trans e) (.tup (.inl aK) (rs.same e)) ((ar.comb re).later e)
 ·rw[if_neg hl] at hev;cases hev
def zH (K:Frag)(n:Nat)(f:List D->Rs (D×Bool)):Sp:=fun vs H Q E=>∃ ds G,ds.length=n/\aG K H ds vs G/\∃ r,f ds = .ok r/\∀ v H' G',aE H H'->Rep K H' r.1 v G'->(∀ a∈G',H a=none\/a∈G)->(r.2=true->G'.Nodup/\∀ a∈G',H a=none/\∃ vs:ML,H' a=some vs.o)->Q v H'
theorem mV {K:Frag}{n:Nat}{f:List D->Rs (D×Bool)}{vs:List V}{H:Hp}{Q:VK}{E:XK}(h:zH K n f vs H Q E):vs.length=n:=by
 obtain⟨ds,G,h1,h2,_⟩:=h;rw[<-h1,h2.len]
theorem me {f:Nat}{n:Nat}{σ:L2.St}{H:Hp}{Q:VK}(hn:∀ ds r,T.cl f ds = .ok r->ds.length=n)(h:tE X.K T (.call f cs) σ H Q):vH (zH X.K n (T.cl f)) [] E0 (sY X.K T cs) σ H Q:=by
 obtain⟨P,env,F,re,p,hev,k⟩:=h;unfold ev at hev;obtain⟨l,h1,hev⟩:=Rs.bind_ok hev;obtain⟨r,h2,hev⟩:=Rs.bind_ok hev;cases hev;refine⟨P,env,F,re,l,h1,fun vs H1 G ar=>?_⟩;show zH X.K n (T.cl f) (vs ++ []) H1 Q E0;rw[bc];refine⟨l.map (·.1),G,hn _ _ h2,ar.reps,r,h2,fun v H' G' s rp sub fr=>k v H' G' (ar.same.trans s) rp ?_⟩;cases hr:r.2 with
 |true =>
  obtain⟨a,b⟩:=fr hr;have c:∀ x∈G',H x=none:=fun x hx=>aE.no ar.same (b x hx).1
  exact⟨fun x hx=>.inl (c x hx),fun R e=>⟨a,fun x hx=>(b x hx).2,fun x hx=>.inl (c x hx)⟩⟩
 |false =>
  refine⟨fun x hx=>?_,fun R e=>by cases e⟩;rcases sub x hx with q | q
  ·exact .inl (aE.no ar.same q)
  ·exact ar.cont x q
end
def pC (K:Frag)(b:A3):List V->Hp->VK->Prop:=fun xs H Q=>∃ ds d G,aG K H ds xs G/\iL b ds=some d/\∀ v H' G',Rep K H' d v G'->gS H H' G d G'->Q v H'
section
variable {X:Cx}{T:Tb}
theorem oz {b:A3}{cs:jM}{σ:L2.St}{H:Hp}{Q:VK}(h:tE X.K T (.blt b cs) σ H Q):AZ (pC X.K b) (sY X.K T cs) σ H Q:=by
 obtain⟨P,env,F,re,p,hev,k⟩:=h;unfold ev at hev;obtain⟨l,h1,hev⟩:=Rs.bind_ok hev;obtain⟨d,h2,hev⟩:=Rs.bind_ok hev;cases hev;exact⟨P,env,F,re,l,h1,fun vs H1 G ar=>⟨l.map (·.1),d,G,ar.reps,cL h2,fun v H' G' rp nv=>k v H' G' (ar.same.trans nv.same) rp (bP.new ar nv fun _ z=>z)⟩⟩
theorem aG.of1 {K:Frag}{H:Hp}{d:D}{xs:List V}{G:List Addr}(h:aG K H [d] xs G):∃ x,xs=[x]/\Rep K H d x G:=by
 cases h with
 |cons r s=>cases s;exact⟨_,rfl,by rw[bc];exact r⟩
theorem aG.of2 {K:Frag}{H:Hp}{d e:D}{xs:List V}{G:List Addr}(h:aG K H [d,e] xs G):∃ x y G1 G2,xs=[x,y]/\Rep K H d x G1/\Rep K H e y G2:=by
 cases h with
 |cons r s =>
  cases s with
  |cons r' s'=>cases s';exact⟨_,_,_,_,rfl,r,r'⟩
theorem t7:eL X (.builtin "len") (pC X.K .len):=by
 intro pins s σ H xs us Q I r h;obtain⟨ds,d,G,rs,hd,k⟩:=h
 match ds,hd with
 |[.lst ys],hd =>
  cases hd;obtain⟨x,rfl,rp⟩:=rs.of1;obtain⟨p,vs,g,rfl,rfl,a1,a2⟩:=rp.lst_inv;exact iV pins s σ H _ us Q I r ⟨p,vs,rfl,.inl (.inl a1),by rw[<-a2.len];exact k _ H [] (.int _) gS.nil⟩
 |[.tup ys],hd =>
  cases hd;obtain⟨x,rfl,rp⟩:=rs.of1;obtain⟨p,vs,rfl,a1,a2⟩:=rp.tup_inv;exact iV pins s σ H _ us Q I r ⟨p,vs,rfl,.inr a1,by rw[<-a2.len];exact k _ H [] (.int _) gS.nil⟩
theorem oU {pins:List (Addr×Obj)}{s:Shared}{σ:L2.St}{H:Hp}{xs:List V}{us:List Value}{Q:VK}(I:Inv X pins σ H s)(r:aL xs us){ds:List D}{d:D}{G:List Addr}(rs:aG X.K H ds xs G)(hd:iL .list ds=some d)(k:∀ v H' G',Rep X.K H' d v G'->gS H H' G d G'->Q v H')(hn:∀ ks,ds≠[.mpi ks]):wpAny (model X.prog X.w) X.A (call (.type "list") us) (EP X pins σ Q) X.xe s:=by
 match ds,hd with
 |[.mpi ks],hd=>exact absurd rfl (hn ks)
 |[.lst ys],hd =>
  cases hd;obtain⟨x,rfl,rp⟩:=rs.of1;obtain⟨p,vs,g,rfl,rfl,a1,a2⟩:=rp.lst_inv;refine iR pins s σ H _ us Q I r ⟨p,vs,rfl,.inl (.inl a1),fun l hl=>?_⟩;obtain⟨n1,n2⟩:=gF (G0:=p::g) a2 (fun a ha=>ag _ ha) hl;exact k _ _ _ n1 n2
 |[.tup ys],hd =>
  cases hd;obtain⟨x,rfl,rp⟩:=rs.of1;obtain⟨p,vs,rfl,a1,a2⟩:=rp.tup_inv;refine iR pins s σ H _ us Q I r ⟨p,vs,rfl,.inr a1,fun l hl=>?_⟩;obtain⟨n1,n2⟩:=gF (G0:=G) a2 (fun a ha=>ha) hl;exact k _ _ _ n1 n2
end
def kB (K:Frag)(P:Addr->Prop)(H0:Hp)(J:It)(ds:List D)(G:List Addr):Prop:=∀ H,jx P H0 H->(∀(i:Nat) (d:D),ds[i]? = some d->J.go i H/\∀ x H',J.yld i H x H'->aE H H'/\∃ G',Rep K H' d x G'/\∀ a∈G',a∈G)/\J.stop ds.length H
noncomputable def tI (K:Frag)(T:Tb)(it:qa):TI:=fun σ H R=>∃ P env F,RE K P env σ H F/\∃ p,eA T it env = .ok p/\∀ J H' G,aE H H'->bP env F H (.sh p.2) H' G->(∀ a∈G,H' a≠none)->(∀ P',(∀ a∈G,P' a)->kB K P' H' J p.1 G)->R J H'
theorem tf {K:Frag}{P:Addr->Prop}{H0:Hp}{p:Addr}{vs:List V}{ds:List D}{G:List Addr}(h1:Rd H0 p (.lst vs))(h2:aG K H0 ds vs G)(hp:∀ a∈p::G,P a):kB K P H0 (Itl K p) ds (p::G):=fun H e=>by
 have ep:=e.keep p (hp p aq);have h1':Rd H p (.lst vs):=by
  rcases h1 with q | ⟨o,q⟩
  ·exact .inl (ep.trans q)
  ·exact .inr ⟨o,ep.trans q⟩
 have h2':=e.reps h2 fun a ha=>hp a (ag _ ha)
 refine⟨fun i d hd=>?_,⟨vs,.inl h1',by rw[h2.len];exact aj _⟩⟩;obtain⟨v,G',a,b,c⟩:=h2'.get hd;refine⟨⟨vs,v,.inl h1',a⟩,fun x H' ⟨e1,e2⟩=>?_⟩;subst e1;have:=e2 vs (.inl h1');rw[a] at this;cases this;exact⟨aE.refl _,G',b,fun z hz=>ag _ (c.subset hz)⟩
theorem wF {K:Frag}{P:Addr->Prop}{H0:Hp}{p:Addr}{vs:List V}{ds:List D}{G:List Addr}(h1:jV K H0 p vs)(h2:aG K H0 ds vs G)(hp:∀ a∈G,P a):kB K P H0 (Itt K p) ds G:=fun H e=>by
 have h1':=e.tqT h1;have h2':=e.reps h2 hp;refine⟨fun i d hd=>?_,⟨vs,h1'.sq,by rw[h2.len];exact aj _⟩⟩;obtain⟨v,G',a,b,c⟩:=h2'.get hd;refine⟨⟨vs,v,h1'.sq,a⟩,fun x H' ⟨e1,e2⟩=>?_⟩;subst e1;have:=e2 vs h1'.sq;rw[a] at this;cases this;exact⟨aE.refl _,G',b,fun z hz=>c.subset hz⟩
noncomputable def Fd (xs:List V):It:=⟨fun i _=>i<xs.length,fun i H x H'=>H'=H/\xs[i]? = some x,fun i _=>xs.length<=i⟩
theorem ma {K:Frag}{P:Addr->Prop}{H0:Hp}{vs:List V}{ds:List D}(hr:∀ H,aG K H ds vs []):kB K P H0 (Fd vs) ds []:=fun H e=>by
 have hl:=(hr H).len;refine⟨fun i d hd=>?_,by show vs.length<=ds.length;omega⟩;obtain⟨v,G',a,b,c⟩:=(hr H).get hd;refine⟨by show i<vs.length;rw[<-hl];exact (List.getElem?_eq_some_iff.mp hd).1,fun x H' ⟨e1,e2⟩=>?_⟩;subst e1;rw[a] at e2;cases e2;exact⟨aE.refl _,G',b,fun z hz=>c.subset hz⟩
theorem mG {P:Program}{w:World}{K:Frag}{tg:Expr}{it:Addr}{xs:List V}{Pv:Nat->Value->Prop}{St:Nat->Heap->Prop}(W:∀ A:Around,A.handled=none->Walks P w A it [it] [it] xs.length Pv St)(hP:∀ i v,Pv i v->∃ x,xs[i]? = some x/\RelV x v)
  (ob:∀ i h,St i h->∃ o n vs,h.get? it=some o/\o.cls = .type n/\o.data = .fields vs/\["enumerate","zip","dict_itemiterator","dict_reverseitemiterator","odict_iterator","itertools.zip_longest","itertools.pairwise"].contains n=false)
  (fr:∀ i h h',St i h->(∀ o,h.get? it=some o->h'.get? it=some o)->St i h') (le:∀ i h,St i h->i<=xs.length) (slf:∀(A:Around) (i:Nat) (s:Shared) (Q E:Value->Shared->Prop),St i s.heap->Q (.ref it) s->wpAny (model P w) A (pyIter (.ref it)) Q E s):Turn P w K tg (Fd xs) [it] it St where
 mem:=by simp
 obj:=fun i h st b hb=>by
  have e:b=it:=by simpa using hb
  subst e;obtain⟨o,n,vs,h1,h2,h3,_⟩:=ob i h st;exact⟨o,h1,fun v z=>by rw[h3] at z;cases z⟩
 keep:=fun i h h' st k=>fr i h h' st fun o e=>k it (by simp) o e
 item:=by
  intro X hp hw hK hc i pins s σ H E I hf st hg;subst hp hw hK;obtain⟨f0,f1,f2,f3,f4,f5⟩:=hf it (by simp);refine (W X.A (I.ok.hd hc)).item i s _ _ hg st fun v h' tk hv st' kk=>?_
  obtain⟨x,ex,rx⟩:=hP i v hv;have I1:Inv X pins σ H { s with heap:=h',toks:=tk }:=I.turned (fun b o hb e=>kk b o (by simpa using hb) e) f0 f1 f3 f4 f5;obtain⟨o,n,vs,h1,h2,h3,h4⟩:=ob (i+1) h' st';exact⟨v,rfl,rH (s:={ s with heap:=h',toks:=tk }) (n:=n) h1 h2 h3 h4 ⟨x,H,I1,rx,⟨rfl,ex⟩,st',fun b hb=>(hf b hb).1⟩⟩
 done:=by
  intro X hp hw hK hc i pins s σ H E I hf st hg;subst hp hw hK;obtain⟨f0,f1,f2,f3,f4,f5⟩:=hf it (by simp);have hi:i=xs.length:=Nat.le_antisymm (le i _ st) hg;subst hi;exact (W X.A (I.ok.hd hc)).done s _ _ st fun h' tk kk=>⟨rfl,I.turned (fun b o hb e=>kk b o (by simpa using hb) e) f0 f1 f3 f4 f5⟩
 self:=fun A i s Q E st h=>slf A i s Q E st h
noncomputable def cY (a c:Int)(n:Nat):List V:=(List.range n).map fun (i:Nat)=>.int (a+(i:Int)*c)
theorem iE (a c:Int)(n:Nat):(cY a c n).length=n:=by simp[cY]
theorem fV {K:Frag}{H:Hp}(c:Int):∀(n:Nat) (a:Int),aG K H (aQ a c n) (cY a c n) []
 |0,a=>.nil
 | n+1,a=>by
  have e:cY a c (n+1) = .int a::cY (a+c) c n:=by
   unfold cY;rw[List.range_succ_eq_map,ba,dm];congr 1
   ·simp
   ·refine fh fun i _=>?_
    simp only[Function.comp_apply,V.int.injEq,Nat.succ_eq_add_one]
    push_cast
    rw[Int.add_mul];omega
  rw[e];show aG K H (.int a::aQ (a+c) c n) _ ([] ++ []);exact .cons (.int a) (fV c n (a+c))
theorem iU (a b c:Int)(hc:c≠0):0<=Builtin.Range.rangeSize a b c:=by
 unfold Builtin.Range.rangeSize;split
 ·rename_i h;split
  ·have:0<=(b - a - 1) / c:=Int.ediv_nonneg (by omega) (by omega);omega
  ·omega
 ·split
  ·have:0<=(a - b - 1) / (-c):=Int.ediv_nonneg (by omega) (by omega);omega
  ·omega
theorem pE {a b c:Int}(ha:eZ a=true)(hb:eZ b=true)(hc:c≠0)(hs:c.natAbs<1073741824):Builtin.Range.small a b c=true:=by
 unfold eZ at ha hb;have ha:=of_decide_eq_true ha;have hb:=of_decide_eq_true hb;have hn:=iU a b c hc;have hu:Builtin.Range.rangeSize a b c<2 ^ 63:=by
  unfold Builtin.Range.rangeSize;split
  ·split
   ·have:=Int.ediv_le_self (b:=c) (a:=b - a - 1) (by omega);omega
   ·decide
  ·split
   ·have:=Int.ediv_le_self (b:=-c) (a:=a - b - 1) (by omega);omega
   ·decide
 unfold Builtin.Range.small;simp only[Builtin.Range.rangeFitsLong,Bool.and_eq_true,Bool.or_eq_true,decide_eq_true_eq,beq_iff_eq];refine⟨⟨⟨⟨⟨by omega,by omega⟩,by omega,by omega⟩,by omega,by omega⟩,by omega,hu⟩,.inr ?_⟩;split<;>simp only[Bool.and_eq_true,decide_eq_true_eq]<;>omega
section
variable {X:Cx}{tg:Expr}
theorem jq {pins:List (Addr×Obj)}{σ:L2.St}{H:Hp}{s:Shared}{R:It->Hp->Prop}{E:Value->Shared->Prop}{lo hi c:Int}{t u v:Tok}{tk:Nat}(I:Inv X pins σ H s)(h1:eZ lo=true)(h2:eZ hi=true)(h3:c≠0)(h4:c.natAbs<1073741824)
  (q:R (Fd (cY lo c (Builtin.Range.rangeSize lo hi c).toNat)) H):wpAny (model X.prog X.w) X.A (pyIter (.ref s.heap.objs.size)) (C2 X pins σ tg R) E { s with heap:=s.heap.push { cls:=.type "range",data:=.fields #[.int lo t,.int hi u,.int c v] },toks:=tk }:=by
 refine wpAny_pyIter_range (IsRange.new ..) (pE h1 h2 h3 h4) ?_;have I1:Inv X pins σ H { s with heap:=s.heap.push { cls:=.type "range",data:=.fields #[.int lo t,.int hi u,.int c v] },toks:=tk }:=I.kept fun b o e=>Heap.get?_push_of_some _ e
 have hn:=iU lo hi c h3;let n:=(Builtin.Range.rangeSize lo hi c).toNat;refine⟨(s.heap.push { cls:=.type "range",data:=.fields #[.int lo t,.int hi u,.int c v] }).objs.size,[(s.heap.push { cls:=.type "range",data:=.fields #[.int lo t,.int hi u,.int c v] }).objs.size],
  (fun i h=>i<=n/\IsRangeIter h (s.heap.push { cls:=.type "range",data:=.fields #[.int lo t,.int hi u,.int c v] }).objs.size (lo+(i:Nat)*c) ((n:Int) - (i:Nat)) c),_,H,rfl,
  I1.kept (t':=tk) fun b o e=>Heap.get?_push_of_some _ e,mG (Pv:=fun i v=>i<n/\∃ t,v = .int (lo+i*c) t) (fun A hA=>?_) (fun i v hv=>?_) (fun i h st=>?_) (fun i h h' st k=>⟨st.1,k _ st.2⟩) (fun i h st=>by rw[iE];exact st.1) (fun A i s Q E st h=>wpAny_pyIter_rangeiter st.2 h),?_,fun b hb=>?_,q⟩
 ·rw[iE];have W:=Walks.range (prog:=X.prog) (w:=X.w) hA (s.heap.push { cls:=.type "range",data:=.fields #[.int lo t,.int hi u,.int c v] }).objs.size lo c n;exact⟨W.sub,fun i h h' st k=>⟨st.1,W.frame i h h' st.2 k⟩,fun i s Q E hi st hQ=>W.item i s Q E hi st.2 fun v h' tk hv st' kk=>hQ v h' tk ⟨hi,hv⟩ ⟨hi,st'⟩ kk,fun s Q E st hQ=>W.done s Q E st.2 hQ,fun i s Q E st h=>W.self i s Q E st.2 h⟩
 ·obtain⟨hi',t',rfl⟩:=hv;exact⟨.int (lo+i*c),by unfold cY;rw[List.getElem?_map,List.getElem?_range hi'];rfl,t',rfl⟩
 ·exact⟨_,_,_,st.2,rfl,rfl,by decide⟩
 ·refine⟨cq _,?_⟩;have e1:lo+((0:Nat):Int)*c=lo:=by simp
  have e2:((n:Nat):Int) - ((0:Nat):Int)=Builtin.Range.rangeSize lo hi c:=by omega
  rw[e1,e2];exact Heap.get?_push_size _ rfl
 ·have e:b=(s.heap.push { cls:=.type "range",data:=.fields #[.int lo t,.int hi u,.int c v] }).objs.size:=by simpa using hb
  subst e;exact I1.fpOk (aj _) (I1.hok.fresh (aj _))
end
section
variable {X:Cx}{tg:Expr}{T:Tb}{pins:List (Addr×Obj)}{σ:L2.St}{H:Hp}{s:Shared}{R:It->Hp->Prop}{E:Value->Shared->Prop}
theorem zD {a:Addr}{xs:List V}(I:Inv X pins σ H s)(hq:mD X.K H a xs)(q:R (Itl X.K a) H):wpAny (model X.prog X.w) X.A (pyIter (.ref a)) (C2 X pins σ tg R) E s:=by
 obtain⟨its,rv,p,hz⟩:=I.list hq;refine wpAny_pyIter_list p.isList ?_;refine⟨s.heap.objs.size,[s.heap.objs.size],_,_,H,rfl,I.kept (t':=s.toks) fun b o e=>Heap.get?_push_of_some _ e,uc a _,⟨_,Heap.get?_push_size _ rfl,rfl,rfl⟩,fun b hb=>?_,q⟩;have e:b=s.heap.objs.size:=by simpa using hb
 subst e;exact I.fpOk (aj _) (I.hok.fresh (aj _))
theorem vF {a:Addr}{xs:List V}(I:Inv X pins σ H s)(hq:jm X.K H a xs)(q:R (Itt X.K a) H):wpAny (model X.prog X.w) X.A (pyIter (.ref a)) (C2 X pins σ tg R) E s:=by
 obtain⟨its,rv,p,hz⟩:=I.tuple hq;refine wpAny_pyIter_tuple (show s.heap.IsTuple a its.toArray from p) ?_;refine⟨s.heap.objs.size,[s.heap.objs.size],_,_,H,rfl,I.kept (t':=s.toks) fun b o e=>Heap.get?_push_of_some _ e,rg a _,⟨_,Heap.get?_push_size _ rfl,rfl,rfl⟩,fun b hb=>?_,q⟩;have e:b=s.heap.objs.size:=by simpa using hb
 subst e;exact I.fpOk (aj _) (I.hok.fresh (aj _))
noncomputable def ni (z:Str):List V:=z.cps.toList.map fun c=>.str ⟨#[c]⟩
theorem A9 {z:Str}{t:Tok}(I:Inv X pins σ H s)(q:R (Fd (ni z)) H):wpAny (model X.prog X.w) X.A (pyIter (.str z t)) (C2 X pins σ tg R) E s:=by
 have hlen:(ni z).length=z.cps.size:=by simp[ni]
 have core:∀(nm:String) (hn:["enumerate","zip","dict_itemiterator","dict_reverseitemiterator","odict_iterator","itertools.zip_longest","itertools.pairwise"].contains nm=false)
   (W:∀ A:Around,A.handled=none->Walks X.prog X.w A s.heap.objs.size [s.heap.objs.size] [s.heap.objs.size] z.cps.size (SignAt z) (fun i h=>h.IsStrIter s.heap.objs.size nm z t i))
   (slf:∀(A:Around) (i:Nat) (s':Shared) (Q E:Value->Shared->Prop),s'.heap.IsStrIter s.heap.objs.size nm z t i->Q (.ref s.heap.objs.size) s'->wpAny (model X.prog X.w) A (pyIter (.ref s.heap.objs.size)) Q E s'),
   C2 X pins σ tg R (.ref s.heap.objs.size) { s with heap:=s.heap.push { cls:=.type nm,data:=.fields #[.str z t,.int 0 0] } }:=by
  intro nm hn W slf;refine⟨s.heap.objs.size,[s.heap.objs.size],(fun i h=>i<=z.cps.size/\h.IsStrIter s.heap.objs.size nm z t i),_,H,rfl,I.kept (t':=s.toks) fun b o e=>Heap.get?_push_of_some _ e,
   mG (Pv:=SignAt z) (fun A hA=>?_) (fun i v hv=>?_) (fun i h st=>?_) (fun i h h' st k=>⟨st.1,let ⟨o,ho,r⟩:=st.2;⟨o,k o ho,r⟩⟩) (fun i h st=>by rw[hlen];exact st.1) (fun A i s Q E st h=>slf A i s Q E st.2 h),⟨cq _,⟨_,Heap.get?_push_size _ rfl,rfl,rfl⟩⟩,fun b hb=>?_,q⟩
  ·rw[hlen];have W:=W A hA;exact⟨W.sub,fun i h h' st k=>⟨st.1,W.frame i h h' st.2 k⟩,fun i s Q E hi st hQ=>W.item i s Q E hi st.2 fun v h' tk hv st' kk=>hQ v h' tk hv ⟨hi,st'⟩ kk,fun s Q E st hQ=>W.done s Q E st.2 hQ,fun i s Q E st h=>W.self i s Q E st.2 h⟩
  ·obtain⟨c,u,e,rfl⟩:=hv;exact⟨.str ⟨#[c]⟩,by simp[ni];exact e,u,rfl⟩
  ·obtain⟨o,ho,hc,hd⟩:=st.2;exact⟨o,nm,_,ho,hc,hd,hn⟩
  ·have e:b=s.heap.objs.size:=by simpa using hb
   subst e;exact I.fpOk (aj _) (I.hok.fresh (aj _))
 cases ha:z.cps.all (· < 128)
 ·exact wpAny_pyIter_wide ha (core "str_iterator" (by decide) (fun A' hA=>Walks.strWide hA _ z t) fun A i s' Q E st h=>wpAny_pyIter_striter_wide st h)
 ·exact wpAny_pyIter_ascii ha (core "str_ascii_iterator" (by decide) (fun A' hA=>Walks.strAscii hA _ z t) fun A i s' Q E st h=>wpAny_pyIter_striter_ascii st h)
theorem kC {K:Frag}{H:Hp}:∀(cs:List Nat),aG K H (cs.map fun c=>D.str ⟨#[c]⟩) (cs.map fun c=>V.str ⟨#[c]⟩) []
 |[]=>.nil
 | c::cs=>by
  show aG K H (_::_) (_::_) ([] ++ []);exact .cons (.str _) (kC cs)
theorem wb {e:Expr}{c:Ex}(h:PE X e (tE X.K T c)):PI X tg e (tI X.K T (.seq c)):=by
 intro pins s σ H R I hq;obtain⟨P,env,F,re,p,hev,k⟩:=hq;unfold eA at hev;obtain⟨q,h1,hev⟩:=Rs.bind_ok hev;obtain⟨l,h2,hev⟩:=Rs.bind_ok hev;have h2:=cL h2;cases hev;refine cC (h pins s σ H (fun v H'=>∃ G,aE H H'/\Rep X.K H' q.1 v G/\bP env F H q.2 H' G) I ⟨P,env,F,re,q,h1,fun v H' G s rp rt=>⟨G,s,rp,rt⟩⟩) fun u s1 ⟨v,H1,I1,r1,G,e,rp,rt⟩=>?_
 have rt':bP env F H (.sh q.2.roots) H1 G:=rt.part (fun _ h=>h) (fun _ h=>h) fun R e=>by cases e
 cases hd:q.1 with
 |lst xs =>
  rw[hd] at rp h2;cases h2;obtain⟨a,vs,g,rfl,rfl,a1,a2⟩:=rp.lst_inv;cases r1;exact zD I1 (.inl a1) (k _ H1 (a::g) e rt' (fun b hb=>rp.nn hb) fun P' hP=>tf a1 a2 hP)
 |tup xs =>
  rw[hd] at rp h2;cases h2;obtain⟨a,vs,rfl,a1,a2⟩:=rp.tup_invT;cases r1;exact vF I1 a1.sq (k _ H1 G e rt' (fun b hb=>rp.nn hb) fun P' hP=>wF a1 a2 hP)
 |str z =>
  rw[hd] at rp h2;simp only[uT] at h2;by_cases hl:z.length<=lim
  ·rw[if_pos hl] at h2;cases h2;obtain⟨rfl,rfl⟩:=rp.str_inv;obtain⟨t,rfl⟩:=r1;exact A9 I1 (k _ H1 [] e bP.nil (fun _ h=>(nomatch h)) fun P' hP=>ma fun H=>kC _)
  ·rw[if_neg hl] at h2;cases h2
 |_=>rw[hd] at h2;cases h2
theorem jy (a b:Int):(Builtin.Range.rangeSize a b 1).toNat=(b - a).toNat:=by
 rw[rangeSize_one];split<;>omega
theorem AV {es:List Expr}{cs:jM}{it:qa}{p pos:Pos}{e0:Expr}{rest:List Expr}(hes:es=e0::rest)(hg:Gl X "range") (hm:X.mg "range" = none) (ha:PA X es (sY X.K T cs)) (hs:starEach es X.env=(false,eval e0 X.env)::starEach rest X.env) (hpl:(backTo pos (starEach rest X.env)).any (·.1)=false)
  (hit:∀ env p,eA T it env = .ok p->p.2=[]/\∃ l,bN T cs env = .ok l/\((∃ j,l.map (·.1)=[.int j]/\eZ j=true/\p.1=aQ 0 1 j.toNat)\/(∃ i j,l.map (·.1)=[.int i,.int j]/\eZ i=true/\eZ j=true/\p.1=aQ i 1 (j - i).toNat) \/
   ∃ i j k,l.map (·.1)=[.int i,.int j,.int k]/\eZ i=true/\eZ j=true/\k≠0/\k.natAbs<1073741824/\p.1=aQ i k (Builtin.Range.rangeSize i j k).toNat)) :
  PI X tg (.Call (.Name "range" p) es [] pos) (tI X.K T it):=by
 subst hes;intro pins s σ H R I hq;obtain⟨P,env,F,re,q,hev,k⟩:=hq;obtain⟨hq2,l,hl,hc⟩:=hit env q hev;refine Call_ (eI I hg hm boot_range (bz (cC (ha pos pins s σ H (fun vs H'=>∃ G,Args X.K env F H H' l vs G) I ⟨P,env,F,re,l,hl,fun vs H' G ar=>⟨G,ar⟩⟩) fun us s1 ⟨vs,H1,I1,r1,G,ar⟩=>?_) hs hpl));have rs:=ar.reps;have fin:∀(a c:Int) (n:Nat),q.1=aQ a c n->R (Fd (cY a c n)) H1:=fun a c n e=>by
  refine k _ H1 [] ar.same bP.nil (fun _ h=>(nomatch h)) fun P' _=>?_
  rw[e];exact ma fun H=>fV c n a
 have one:∀{d:D}{ds:List D}{vs:List V}{us:List Value}{G:List Addr},aG X.K H1 (d::ds) vs G->aL vs us->∀ i,d = .int i->∃ t us' vs' G',us = .int i t::us'/\vs = .int i::vs'/\aG X.K H1 ds vs' G'/\aL vs' us':=by
  intro d ds vs us G r rv i e;subst e;cases r with
  |cons r rr =>
   obtain⟨rfl,rfl⟩:=r.int_inv;cases rv with
   |cons x y =>
    obtain⟨t,rfl⟩:=x;exact⟨t,_,_,_,rfl,rfl,rr,y⟩
 have nil:∀{vs:List V}{us:List Value}{G:List Addr},aG X.K H1 [] vs G->aL vs us->us=[]:=by
  intro vs us G r rv;cases r;cases rv;rfl
 rcases hc with ⟨j,e1,e2,e3⟩ | ⟨i,j,e1,e2,e3,e4⟩ | ⟨i,j,c,e1,e2,e3,e4,e5,e6⟩
 ·rw[e1] at rs;obtain⟨t,us',vs',G',rfl,_,rs,r1⟩:=one rs r1 j rfl;obtain rfl:=nil rs r1;refine call_range_1 (jq (c:=1) I1 (by decide) e2 (by decide) (by decide) ?_);refine fin _ _ _ ?_;rw[e3,jy];simp
 ·rw[e1] at rs;obtain⟨t,us',vs',G',rfl,_,rs,r1⟩:=one rs r1 i rfl;obtain⟨t',us'',vs'',G'',rfl,_,rs,r1⟩:=one rs r1 j rfl;obtain rfl:=nil rs r1;refine call_range_2 (jq (c:=1) I1 e2 e3 (by decide) (by decide) ?_);refine fin _ _ _ ?_;rw[e4,jy]
 ·rw[e1] at rs;obtain⟨t,us',vs',G',rfl,_,rs,r1⟩:=one rs r1 i rfl;obtain⟨t',us'',vs'',G'',rfl,_,rs,r1⟩:=one rs r1 j rfl;obtain⟨t3,us3,vs3,G3,rfl,_,rs,r1⟩:=one rs r1 c rfl;obtain rfl:=nil rs r1;refine call_range_3 e4 (jq (c:=c) I1 e2 e3 e4 e5 ?_) (.inl (PyProof.noPylong_small e5));exact fin _ _ _ e6
end
theorem vf {h:Heap}{o o':Obj}{b:Addr}(e:(h.push o).get? b=some o'):(b=h.objs.size/\o'=o)\/h.get? b=some o':=by
 obtain⟨e1,e2⟩:=Heap.get?_some_iff.mp e;by_cases hb:b=h.objs.size
 ·left;subst hb;refine⟨rfl,?_⟩;have:(h.push o).objs[h.objs.size]? = some o:=by cases h;simp[Heap.push]
  rw[this] at e1;exact (br e1).symm
 ·right;refine Heap.get?_some_iff.mpr ⟨?_,e2⟩;cases h;simpa[Heap.push,Array.getElem?_push,hb] using e1
theorem qm {h:Heap}{a b:Addr}{o o':Obj}(e:h.get? a=some o)(e':h.get? b=some o')(n:o.cls≠o'.cls):a≠b:=by
 rintro rfl;rw[e] at e';cases e';exact n rfl
section
variable {X:Cx}{pins:List (Addr×Obj)}{σ:L2.St}{H:Hp}{s:Shared}
theorem nO {h':Heap}{t':Nat}{ch:List Addr}(I:Inv X pins σ H s)(k:∀ b o,b∉ch->s.heap.get? b=some o->h'.get? b=some o)(hf:∀ b∈ch,jJ X pins H b):Inv X pins σ H { s with heap:=h',toks:=t' }:=by
 have nit:∀ b u,H b=some u->b∉ch:=fun b u e z=>by
  have:=(hf b z).1;rw[this] at e;cases e
 refine I.step (g':=s.gens) (d':=s.drawn) (ch:=ch) (fun b hb=>?_) (fun b o _ _ hc e _=>k b o hc e) (fun b o _ _ hc e _=>⟨o.slots,k b o hc e⟩) (fun _ _ _ _ n=>n)
  (fun b o hc e=>⟨o,k b o hc e⟩) (fun _ _ e=>e) (fun _ _ _ e=>e) (fun b ps e=>⟨#[],by rw[e];simp⟩) (fun m hm=>?_) (fun b u e=>?_) I.bare
 ·obtain⟨f0,f1,f2,f3,f4,f5⟩:=hf b hb;exact⟨f3,f1,f4,f5⟩
 ·obtain⟨o,es,ep,ho,r⟩:=hm;exact⟨o,es,ep,k _ o (fun z=>(hf _ z).2.1 rfl) ho,r⟩
 ·refine (I.hok b u e).stay (fun c v hc q=>k c v ?_ q) (fun _ q=>q) fun _ _ q=>q
  rcases hc with z | z
  ·rw[z];exact nit b u e
  ·exact nit c _ z
end
noncomputable def Itv (K:Frag)(l:Addr)(n:Nat):It:=⟨fun i H=>∃ xs,mD K H l xs/\xs.length=n/\i<n,fun i H x H'=>H'=H/\∀ xs,mD K H l xs->xs[n - 1 - i]? = some x,fun i _=>n<=i⟩
theorem xC {P:Program}{w:World}{K:Frag}{tg:Expr}(l it:Addr)(n:Nat):Turn P w K tg (Itv K l n) [it] it (fun i h=>i<=n/\h.IsRevIter it l ((n:Int) - 1 - (i:Int))) where
 mem:=by simp
 obj:=fun i h st b hb=>by
  have e:b=it:=by simpa using hb
  subst e;obtain⟨o,e,c,d⟩:=st.2;exact⟨o,e,fun v z=>by rw[d] at z;cases z⟩
 keep:=fun i h h' st k=>⟨st.1,st.2.at fun o e=>k it (by simp) o e⟩
 item:=by
  intro X hP hw hK hc i pins s σ H E I hf st hg;subst hP hw hK;obtain⟨xs,hq,hn,hi⟩:=hg;obtain⟨its,rv,p,hz⟩:=I.list hq;have hlt:n - 1 - i<xs.length:=by omega
  have hx:xs[n - 1 - i]? = some xs[n - 1 - i]:=List.getElem?_eq_getElem hlt;obtain⟨u,hu,ru⟩:=rv.get hx;have e0:(n:Int) - 1 - (i:Int)=((n - 1 - i:Nat):Int):=by omega
  have hit:=st.2;rw[e0] at hit;refine wpAny_pyNext_rev_item hit p.isList (x:=u) (by simpa using hu) fun h' st' sb=>?_
  have e1:((n - 1 - i:Nat):Int) - 1=(n:Int) - 1 - ((i+1:Nat):Int):=by omega
  rw[e1] at st';have I1:Inv X pins σ H { s with heap:=h' }:=nO (t':=s.toks) (ch:=[it]) I (fun b o hb e=>sb.extBut b o (fun z=>hb (by simp[z])) e) hf;obtain⟨o,e,c,d⟩:=id st';exact⟨u,rfl,rH (s:={ s with heap:=h' }) e c d (by decide) ⟨_,H,I1,ru,⟨rfl,fun ys hy=>by rw[I.list_inj hy hq];exact hx⟩,⟨hi,st'⟩,fun b hb=>(hf b hb).1⟩⟩
 done:=by
  intro X hP hw hK hc i pins s σ H E I hf st hg;subst hP hw hK;have hi:i=n:=Nat.le_antisymm st.1 hg;have hit:=st.2;rw[show (n:Int) - 1 - (i:Int) = -1 by omega] at hit;exact wpAny_pyNext_rev_end (I.ok.hd hc) hit fun h' eb=>⟨rfl,nO (t':=s.toks) (ch:=[it]) I (fun b o hb e=>eb b o (fun z=>hb (by simp[z])) e) hf⟩
 self:=fun A i s Q E st h=>wpAny_pyIter_revIter st.2 h
theorem u7 {K:Frag}{P:Addr->Prop}{H0:Hp}{p:Addr}{vs:List V}{ds:List D}{G:List Addr}(h1:Rd H0 p (.lst vs))(h2:aG K H0 ds vs G)(hp:∀ a∈p::G,P a):kB K P H0 (Itv K p vs.length) ds.reverse (p::G):=fun H e=>by
 have ep:=e.keep p (hp p aq);have h1':Rd H p (.lst vs):=by
  rcases h1 with q | ⟨o,q⟩
  ·exact .inl (ep.trans q)
  ·exact .inr ⟨o,ep.trans q⟩
 have h2':=e.reps h2 fun a ha=>hp a (ag _ ha)
 have hlen:=h2.len;refine⟨fun i d hd=>?_,by show vs.length<=_;rw[gb,hlen];exact aj _⟩;have hi:i<ds.length:=by
  have:=(List.getElem?_eq_some_iff.mp hd).1
  rwa [gb] at this
 rw[List.getElem?_reverse hi] at hd;obtain⟨v,G',a,b,c⟩:=h2'.get hd;rw[hlen] at a hi;refine⟨⟨vs,.inl h1',rfl,hi⟩,fun x H' ⟨e1,e2⟩=>?_⟩;subst e1;have:=e2 vs (.inl h1');rw[a] at this;cases this;exact⟨aE.refl _,G',b,fun z hz=>ag _ (c.subset hz)⟩
section
variable {X:Cx}{T:Tb}
theorem uA {env:En}{F:Nat->List Addr}{H H':Hp}{l:List (D×Rt)}{vs:List V}{G:List Addr}{R:List Nat}(ar:Args X.K env F H H' l vs G)(h:∀ q,q∈aU (l.map (·.2))->q∈R):bP env F H (.sh R) H' G where
 cont:=fun a ha=>(ar.cont a ha).imp id fun ⟨i,d,t,x,y,z⟩=>⟨i,d,t,x,y,fun q hq=>h q (z q hq)⟩
 mv:=fun R e=>by cases e
theorem tY {d:D}{l:List D}(h:rB d=some l):d = .lst l:=by
 cases d<;>simp[rB] at h
 rw[h]
theorem A0 {tg e:Expr}{c:Ex}{p pos:Pos}(hg:Gl X "reversed") (hm:X.mg "reversed" = none) (ha:PA X [e] (sY X.K T (.cons c .nil))) (hs:starEach [e] X.env=(false,eval e X.env)::starEach [] X.env):PI X tg (.Call (.Name "reversed" p) [e] [] pos) (tI X.K T (.rev c)):=by
 intro pins s σ H R I hq;obtain⟨P,env,F,re,q,hev,k⟩:=hq;unfold eA at hev;obtain⟨r,h1,hev⟩:=Rs.bind_ok hev;obtain⟨l,h2,hev⟩:=Rs.bind_ok hev;have h2:=tY (cL h2);cases hev;have hl:bN T (.cons c .nil) env = .ok [r]:=by unfold bN;rw[h1];unfold bN;rfl
 refine Call_ (eI I hg hm boot_reversed (bz (cC (ha pos pins s σ H (fun vs H'=>∃ G,Args X.K env F H H' [r] vs G) I ⟨P,env,F,re,[r],hl,fun vs H' G ar=>⟨G,ar⟩⟩) fun us s1 ⟨vs,H1,I1,r1,G,ar⟩=>?_) hs rfl));have rs:aG X.K H1 [r.1] vs G:=ar.reps;obtain⟨x,rfl,rp⟩:=rs.of1;rw[h2] at rp;obtain⟨a,vs,g,rfl,rfl,a1,a2⟩:=rp.lst_inv;obtain⟨u,rfl,ru⟩:=r1.one;cases ru;obtain⟨its,rv,pl,hz⟩:=I1.list (.inl a1);have hlen:=rv.length;have hnew:(s1.heap.push (revObj a ((its.toArray.size:Int) - 1))).IsRevIter s1.heap.objs.size a ((its.toArray.size:Int) - 1):=⟨_,Heap.get?_push_size _ rfl,rfl,rfl⟩;refine call_reversed_list pl.isList (wpAny_pyIter_revIter (s:={ s1 with heap:=s1.heap.push (revObj a ((its.toArray.size:Int) - 1)) }) hnew ⟨_,[s1.heap.objs.size],_,_,H1,rfl,I1.kept (t':=s1.toks) fun b o e=>Heap.get?_push_of_some _ e,xC a _ vs.length,⟨Nat.zero_le _,?_⟩,fun b hb=>?_,k _ H1 (a::g) ar.same (uA ar fun q hq=>by simpa[aU] using hq) (fun b hb=>rp.nn hb) fun P' hP=>u7 a1 a2 hP⟩)
 ·rw[ak,<-hlen] at hnew;have:((vs.length:Nat):Int) - 1 - ((0:Nat):Int)=(vs.length:Int) - 1:=by omega
  rw[this,ak,<-hlen];exact hnew
 ·have e:b=s1.heap.objs.size:=by simpa using hb
  subst e;exact I1.fpOk (aj _) (I1.hok.fresh (aj _))
end
def tS (K:Frag)(T:Tb)(c:St):TS:=fun D σ H=>∃ P Z env F,RE K P env σ H F/\(∀ i,∀ a∈F i,Z a)/\(∀ a,¬ P a->Z a)/\post K P Z env F H D (aT T c env)
def BI (K:Frag)(T:Tb)(c:bW):TS:=fun D σ H=>∃ P Z env F,RE K P env σ H F/\(∀ i,∀ a∈F i,Z a)/\(∀ a,¬ P a->Z a)/\post K P Z env F H D (aC T c env)
section
variable {K:Frag}{P Z:Addr->Prop}{env:En}{σ:L2.St}{H:Hp}{F:Nat->List Addr}{D:Ends}
theorem cP {α:Type}{x:Rs α}{k:α->Fl}(h:post K P Z env F H D (eY env x k)):∃ a,x = .ok a/\post K P Z env F H D (k a):=by
 cases x with
 |ok a=>exact⟨a,rfl,h⟩
 |exc e=>exact h.elim
 |bad=>exact h.elim
theorem After.same {H':Hp}(re:RE K P env σ H F)(hz:∀ i,∀ a∈F i,Z a)(e:aE H H'):After K P Z env F H env σ H' F:=⟨re.same e,hz,jx.of_same re.pl e,qf.refl _ _⟩
theorem BJ {H':Hp}{r:Rt}{G:List Addr}(re:RE K P env σ H F)(hz:∀ i,∀ a∈F i,Z a)(zp:∀ a,¬ P a->Z a)(rt:bP env F H r H' G):∀ a∈G,Z a:=fun a ha=>by
 rcases rt.cont a ha with q | ⟨j,_,_,f,_⟩
 ·exact zp a fun z=>re.pl a z q
 ·exact hz j a f
end
section
variable {X:Cx}{T:Tb}{pos:Pos}{e:Expr}{c:Ex}
theorem x4:iG X [] (BI X.K T .nil):=by
 refine i9 sg fun D σ H ⟨P,Z,env,F,re,hz,zp,h⟩=>?_
 unfold aC at h;exact h σ H F (After.same re hz (aE.refl _))
theorem xt {st:Stmt}{rest:List Stmt}{cs:St}{cr:bW}(h1:PS X st (tS X.K T cs))(h2:iG X rest (BI X.K T cr)):iG X (st::rest) (BI X.K T (.cons cs cr)):=by
 refine i9 (gK h1 h2) fun D σ H ⟨P,Z,env,F,re,hz,zp,h⟩=>⟨P,Z,env,F,re,hz,zp,?_⟩
 unfold aC at h;cases hs:aT T cs env with
 |nx env' =>
  rw[hs] at h;exact fun σ' H' F' af=>⟨P,Z,env',F',af.re,af.z,zp,post.trans af h⟩
 |bk env'=>rw[hs] at h;exact h
 |ct env'=>rw[hs] at h;exact h
 |rt d fr=>rw[hs] at h;exact h
 |xc e env'=>rw[hs] at h;exact h
 |bad=>rw[hs] at h;exact h
theorem za:PS X (.Pass pos) (tS X.K T .pass):=by
 refine dA yU fun D σ H ⟨P,Z,env,F,re,hz,zp,h⟩=>?_
 unfold aT at h;exact h σ H F (After.same re hz (aE.refl _))
theorem CA {x:Str}{j:Nat}{pos':Pos}:PS X (.Expr (.Constant (.str x) j pos) pos') (tS X.K T .pass):=by
 refine dA BF fun D σ H ⟨P,Z,env,F,re,hz,zp,h⟩=>?_
 unfold aT at h;exact h σ H F (After.same re hz (aE.refl _))
theorem xP:PS X (.Return none pos) (tS X.K T .retN):=by
 refine dA yh fun D σ H ⟨P,Z,env,F,re,hz,zp,h⟩=>?_
 unfold aT at h;exact h .non H [] .non (jx.refl _) (fun _ h=>(nomatch h)) fun _=>⟨cy,fun _ h=>(nomatch h)⟩
theorem CU (he:PE X e (tE X.K T c)):PS X (.Return (some e) pos) (tS X.K T (.ret c)):=by
 refine dA (la he) fun D σ H ⟨P,Z,env,F,re,hz,zp,h⟩=>?_
 unfold aT at h;obtain⟨p,hp,h⟩:=cP h;refine⟨P,env,F,re,p,hp,fun v H' G s rp rt=>h v H' G rp (jx.of_same re.pl s) (BJ re hz zp rt) fun fr=>?_⟩;cases hr:p.2 with
 |sh R=>rw[hr] at fr;cases fr
 |mv R =>
  rw[hr] at fr;obtain⟨a,b,d⟩:=rt.mv R hr;refine⟨a,fun x hx=>⟨fun z=>?_,b x hx⟩⟩;rcases d x hx with q | ⟨i,d2,t2,hi,f,e2,o2⟩
  ·exact re.pl x z q
  ·have:=dq.mp fr i hi;split at this
   ·rename_i d' q;exact re.wr i d' q x f z
   ·cases this
theorem yL (he:PE X e (tE X.K T c))(hs:swapsWith e none pos.line X.env=pure false):PS X (.Expr e pos) (tS X.K T (.expr c)):=by
 refine dA (j4 he hs) fun D σ H ⟨P,Z,env,F,re,hz,zp,h⟩=>?_
 unfold aT at h;obtain⟨p,hp,h⟩:=cP h;exact⟨P,env,F,re,p,hp,fun v H' G s rp rt=>h σ H' F (After.same re hz s)⟩
theorem Bt {a b:List Stmt}{ca cb:bW}(hc:PT X e (mU X.K T c))(ha:iG X a (BI X.K T ca))(hb:iG X b (BI X.K T cb)):PS X (.If e a b pos) (tS X.K T (.ite c ca cb)):=by
 refine dA (z6 hc ha hb) fun D σ H ⟨P,Z,env,F,re,hz,zp,h⟩=>?_
 unfold aT at h;obtain⟨p,hp,h⟩:=cP h;cases ht:truth p.1 with
 |none=>rw[ht] at h;exact h.elim
 |some k =>
  rw[ht] at h;refine⟨P,env,F,re,p,k,hp,ht,fun H' s=>?_⟩;have af:=After.same (Z:=Z) re hz s;cases k with
  |true=>show if true=true then _ else _;rw[if_pos rfl];exact⟨P,Z,env,F,af.re,hz,zp,post.trans af h⟩
  |false=>show if false=true then _ else _;rw[if_neg cw];exact⟨P,Z,env,F,af.re,hz,zp,post.trans af h⟩
theorem w8 {i:Nat}{x:Str}{pos':Pos}{mv:Bool}(hN:X.N.Nodup)(hi:X.N[i]? = some x)(hx:Loc X.env.scope x)(he:PE X e (tE X.K T c))(hs:swapsWith e (some (.Name x pos')) pos.line X.env=pure false)(hf:X.fn x=true\/X.env.scope.names.lookup x=some .local) :
  PS X (.Assign [.Name x pos'] e pos) (tS X.K T (.asg (.nm i) c mv)):=by
 refine dA (nD hN hi hx he hs hf) fun D σ H ⟨P,Z,env,F,re,hz,zp,h⟩=>?_
 unfold aT at h;obtain⟨p,hp,h⟩:=cP h;exact⟨P,env,F,re,p,hp,fun v H' G s rp rt=>wa re hz zp s rp rt h⟩
noncomputable def fU:List Nat->AI
 |[]=>Dg
 |i::is=>AJ (j8 i) (fU is)
theorem iA:∀{is:List Nat}{vs:List V}{σ:L2.St}{H:Hp}{Q:L2.St->Hp->Prop},is.length=vs.length->Q (setM is vs σ) H->fU is vs σ H Q
 |[],[],_,_,_,_,q=>⟨rfl,q⟩
 |i::is,v::vs,σ,H,Q,hl,q=>⟨v,vs,rfl,iA (is:=is) (vs:=vs) (by simpa using hl) q⟩
 |[],_::_,_,_,_,hl,_=>by simp at hl
 |_::_,[],_,_,_,hl,_=>by simp at hl
theorem yC {tg:Expr}{is:List Nat}{mv:Bool}(hg:PG X tg (wm X.K is.length (fU is)))(he:PE X e (tE X.K T c))(hs:swapsWithSole [tg] e pos.line X.env=pure false)(hw:swappedStores [tg] e X.env=pure none)(h1:(assignEach [tg] X.env).map (·.2)=[assign tg X.env]) :
  PS X (.Assign [tg] e pos) (tS X.K T (.asg (.tp is) c mv)):=by
 refine dA (xn he hg hs hw h1) fun D σ H ⟨P,Z,env,F,re,hz,zp,h⟩=>?_
 unfold aT at h;obtain⟨p,hp,h⟩:=cP h;refine⟨P,env,F,re,p,hp,fun v H' G s rp rt=>?_⟩;have re':=re.same s;have ez:=BJ re hz zp rt;have jb:=jx.of_same (P:=P) re.pl s;unfold qh at h;cases hd:p.1 with
 |tup ds =>
  rw[hd] at h rp;obtain⟨a,vs,rfl,a1,a2⟩:=rp.tup_inv;have fin:∀{o:Option En},post X.K P Z env F H D (uz o)->(∀ env',o=some env'->∃ F',RE X.K P env' (setM is vs σ) H' F'/\(∀ i,∀ a∈F' i,Z a)/\qf env F env' F'/\is.length=vs.length)->wm X.K is.length (fU is) (.ref a) σ H' D.nx:=fun {o} h q=>by
   cases o with
   |none=>exact h.elim
   |some env' =>
    obtain⟨F',b1,b2,b3,b4⟩:=q env' rfl;exact⟨a,vs,rfl,a1,b4.symm,iA b4 (h _ H' F' ⟨b1,b2,jb,b3⟩)⟩
  have shared:post X.K P Z env F H D (if is.all (fun i=>!p.2.roots.contains i) then uz (bindM (fun d=>aW d p.2.roots) is ds env) else .bad)->wm X.K is.length (fU is) (.ref a) σ H' D.nx:=fun h=>by
   by_cases hc:is.all (fun i=>!p.2.roots.contains i)=true
   ·rw[if_pos hc] at h;refine fin h fun env' he'=>kJ re' hz a2 ez (fun x hx j d' t' ej o m=>?_) he'
    rcases rt.cont x hx with q | ⟨k,d2,t2,f,e2,sr⟩
    ·exact absurd q (re.nn ej m)
    ·exact sr j ((re.one j d' t' ej o).2.2 x m k d2 t2 e2 f)
   ·rw[if_neg hc] at h;exact h.elim
  cases hr:p.2 with
  |sh R=>rw[hr] at h shared;exact shared h
  |mv R =>
   cases R with
   |cons r0 R0=>rw[hr] at h shared;exact shared h
   |nil =>
    rw[hr] at h;obtain⟨m1,m2,m3⟩:=rt.mv [] hr;have fresh:∀ a∈G,H a=none:=fun a ha=>by
     rcases m3 a ha with q | ⟨_,_,_,q,_⟩
     ·exact q
     ·cases q
    exact fin h fun env' he'=>mz re' hz a2 m1 m2 (fun x hx z=>re.pl x z (fresh x hx)) ez (fun x hx j m=>by
     obtain⟨d2,t2,e2⟩:=re.at' m;exact re.nn e2 m (fresh x hx)) he'
 |_=>rw[hd] at h;exact h.elim
noncomputable def qq (K:Frag):jL->TG
 |.nm i=>j8 i
 |.tp is=>wm K is.length (fU is)
theorem ph {K:Frag}{P Z:Addr->Prop}{env env':En}{σ:L2.St}{H:Hp}{F:Nat->List Addr}{t:jL}{d:Pc.D}{v:V}{G:List Addr}{R:List Nat}{Q:L2.St->Hp->Prop}(re:RE K P env σ H F)(hz:∀ i,∀ a∈F i,Z a)(rp:Rep K H d v G)(gz:∀ a∈G,Z a)
  (hs:∀ a∈G,∀(j:Nat) (d':Pc.D) (t':Tg),env[j]? = some (some (d',t'))->be t'=true->a∈F j->j∈R) (hb:aV R t d env=some env') (hQ:∀ σ' F',RE K P env' σ' H F'->(∀ i,∀ a∈F' i,Z a)->qf env F env' F'->Q σ' H):qq K t v σ H Q:=by
 cases t with
 |nm i =>
  simp only[aV] at hb;by_cases hi:i<env.length
  ·rw[if_pos hi] at hb;cases hb;exact hQ _ _ (r9 re hi rp hs) (mB hz gz) (lh hi oY)
  ·rw[if_neg hi] at hb;cases hb
 |tp is =>
  cases d with
  |tup ds =>
   simp only[aV] at hb;obtain⟨a,vs,rfl,a1,a2⟩:=rp.tup_inv;obtain⟨F',b1,b2,b3,b4⟩:=kJ re hz a2 gz hs hb;exact⟨a,vs,rfl,a1,b4.symm,iA b4 (hQ _ F' b1 b2 b3)⟩
  |_=>cases hb
theorem iY {t:jL}{R:List Nat}{b:En->Fl}:∀(ds:List Pc.D) (env:En),(∀ e,bR t R b ds env≠.bk e)/\∀ e,bR t R b ds env≠.ct e
 |[],env=>⟨fun e z=>(by cases z),fun e z=>(by cases z)⟩
 | d::ds,env=>by
  unfold bR;cases aV R t d env with
  |none=>exact⟨fun e z=>(by cases z),fun e z=>(by cases z)⟩
  |some env' =>
   simp only;cases b env' with
   |nx e'=>exact iY ds e'
   |ct e'=>exact iY ds e'
   |bk e'=>exact⟨fun e z=>(by cases z),fun e z=>(by cases z)⟩
   |rt d fr=>exact⟨fun e z=>(by cases z),fun e z=>(by cases z)⟩
   |xc x e'=>exact⟨fun e z=>(by cases z),fun e z=>(by cases z)⟩
   |bad=>exact⟨fun e z=>(by cases z),fun e z=>(by cases z)⟩
theorem BE {tg iter:Expr}{t:jL}{it:qa}{b:List Stmt}{cb:bW}(hp:PassesOwn (model X.prog X.w) X.A X.env X.xe)(hc:X.calm=true)(hi:PI X tg iter (tI X.K T it))(hg:PG X tg (qq X.K t))(hb:iG X b (BI X.K T cb))(hs:∀ x,foldedSetIterable iter X.env x=pure x) :
  PS X (.For tg iter b [] pos) (tS X.K T (.forr t it cb)):=by
 refine dA (CP hp hc hi hg hb hs) fun D σ H ⟨P,Z,env,F,re,hz,zp,h⟩=>?_
 unfold aT at h;obtain⟨p,hp,h⟩:=cP h;refine⟨P,env,F,re,p,hp,fun J H1 G s1 rt nn wk=>?_⟩;have af1:=After.same (Z:=Z) re hz s1;have h:=post.trans af1 h;let P':Addr->Prop:=fun a=>P a\/a∈G
 have wk:=wk P' fun a ha=>.inr ha
 have seen:∀ a∈G,∀(i:Nat) (d:Pc.D) (t:Tg),env[i]? = some (some (d,t))->be t=true->a∈F i->i∈p.2:=fun a ha i d t e o m=>by
  rcases rt.cont a ha with q | ⟨k,d2,t2,f,e2,sr⟩
  ·exact absurd q (re.nn e m)
  ·exact sr i ((re.one i d t e o).2.2 a m k d2 t2 e2 f)
 have reL:RE X.K P' (lock p.2 env) σ H1 F:=af1.re.locked nn seen;have gz:∀ a∈G,Z a:=BJ re hz zp rt;let E':Ends:={ D with nx:=fun σ' H'=>∀ env' F',After X.K P' Z (lock p.2 env) F H1 env' σ' H' F'->D.nx σ' H' };have stepP:∀{f:Fl},(∀ e,f≠.bk e)->(∀ e,f≠.ct e)->post X.K P Z env F H1 D (match f with | .nx e=>.nx (unlock p.2 env e) | x=>x)->post X.K P' Z (lock p.2 env) F H1 D f:=fun {f} nb nc h=>by
  cases f with
  |nx e=>exact fun σ' H' F' af=>h σ' H' F' (af.unlocked af1.re)
  |bk e=>exact absurd rfl (nb e)
  |ct e=>exact absurd rfl (nc e)
  |rt d fr=>exact fun v H' G' rp ev z f=>h v H' G' rp (ev.weak fun _ q=>.inl q) z fun w=>⟨(f w).1,fun a ha=>⟨fun q=>((f w).2 a ha).1 (.inl q),((f w).2 a ha).2⟩⟩
  |xc x e=>exact h
  |bad=>exact h
 have h:=stepP (iY _ _).1 (iY _ _).2 h;have zpL:∀ a,¬ P' a->Z a:=fun a ha=>zp a fun q=>ha (.inl q)
 refine⟨fun i m σ' H'=>m=p.1.length - i/\i<=p.1.length/\∃ env' F',After X.K P' Z (lock p.2 env) F H1 env' σ' H' F'/\post X.K P' Z env' F' H' D (bR t p.2 (aC T cb) (p.1.drop i) env'),⟨p.1.length,by simp,Nat.zero_le _,lock p.2 env,F,After.same reL hz (aE.refl _),by simpa using h⟩,?_⟩;rintro i m σ2 H2 ⟨rfl,hi,env2,F2,af2,h2⟩;obtain⟨w1,w2⟩:=wk H2 af2.ev;by_cases hlt:i<p.1.length
 ·right;have hd:p.1[i]? = some p.1[i]:=by simp[hlt]
  obtain⟨g1,g2⟩:=w1 i _ hd;refine⟨g1,fun σ' H'=>∃ env' F',After X.K P' Z (lock p.2 env) F H1 env' σ' H' F'/\post X.K P' Z env' F' H' D (bR t p.2 (aC T cb) (p.1.drop (i+1)) env'),fun σ' H' q=>⟨p.1.length - (i+1),by omega,rfl,hlt,q⟩,fun x H3 y=>?_⟩;obtain⟨s3,G3,rp3,sub3⟩:=g2 x H3 y;have af3:=After.same (Z:=Z) af2.re af2.z s3;have h2:=post.trans af3 h2;rw[ey hlt] at h2;unfold bR at h2;cases hb:aV p.2 t p.1[i] env2 with
  |none=>rw[hb] at h2;exact h2.elim
  |some env4 =>
   rw[hb] at h2;refine ph af3.re af2.z rp3 (fun a ha=>gz a (sub3 a ha)) (fun a ha j d' t' ej o m=>?_) hb fun σ4 F4 re4 z4 lk4=>?_
   ·cases t' with
    |own=>exact absurd (.inr (sub3 a ha)) (af2.re.wr j d' ej a m)
    |lk =>
     obtain⟨e5,e6⟩:=af2.lk j d' ej;rw[e6] at m;obtain⟨t0,e0,o0,_⟩:=eP e5;exact seen a (sub3 a ha) j d' t0 e0 (o0.trans o) m
    |sh Q=>cases o
   ·have af4:After X.K P' Z env2 F2 H3 env4 σ4 H3 F4:=⟨re4,z4,jx.refl _,lk4⟩;refine⟨P',Z,env4,F4,re4,z4,zpL,?_⟩;have h2:=post.trans af4 h2;have all:=(af2.trans af3).trans af4;cases hs:aC T cb env4 with
    |nx e'=>simp only[hs] at h2;exact fun σ' H' F' af5=>⟨e',F',all.trans af5,post.trans af5 h2⟩
    |ct e'=>simp only[hs] at h2;exact fun σ' H' F' af5=>⟨e',F',all.trans af5,post.trans af5 h2⟩
    |bk e'=>simp only[hs] at h2;exact h2
    |rt d fr=>simp only[hs] at h2;exact h2
    |xc x e'=>simp only[hs] at h2;exact h2
    |bad=>simp only[hs] at h2;exact h2
 ·left;have e:i=p.1.length:=by omega
  subst e;rw[List.drop_length] at h2;exact⟨w2,h2 σ2 H2 F2 (After.same af2.re af2.z (aE.refl _))⟩
end
noncomputable def fL (cells:List (Str×Addr)):List (Str×NameKind)->List (Str×Addr)->List (Str×Addr)
 |[],acc=>acc
 | (n,k)::r,acc=>fL cells r (if k == .free then (match cells.lookup n with | some c=>(n,c)::acc | none=>acc) else acc)
theorem qW {scope:Scope}{env:Env}(h:∀ x,(x,NameKind.free)∈scope.names->∃ c,env.cells.lookup x=some c):closureFor scope env=pure (fL env.cells scope.names []):=by
 unfold closureFor;have gen:∀(names:List (Str×NameKind)) (acc:List (Str×Addr)),(∀ x,(x,NameKind.free)∈names->∃ c,env.cells.lookup x=some c) ->
   (forIn names acc fun (p:Str×NameKind) (cs:List (Str×Addr))=>(match p with
    | (name,kind)=>if (kind == .free)=true then (do let c <- cellOf env name;pure (ForInStep.yield ((name,c)::cs))) else pure (ForInStep.yield cs):Sem (ForInStep (List (Str×Addr)))))=(pure (fL env.cells names acc):Sem (List (Str×Addr))):=by
  intro names
  induction names with
  |nil=>intro acc _;rfl
  |cons x r ih =>
   intro acc hx;obtain⟨n,k⟩:=x;rw[List.forIn_cons];simp only[fL];have hr:∀ x,(x,NameKind.free)∈r->∃ c,env.cells.lookup x=some c:=fun x hm=>hx x (ag _ hm)
   by_cases hk:(k==NameKind.free)=true
   ·have e:k = .free:=by simpa using hk
    subst e;obtain⟨c,hc⟩:=hx n aq;simp only[hk,if_true,cellOf,hc];exact ih ((n,c)::acc) hr
   ·simp only[hk,if_false];exact ih acc hr
 have:=gen scope.names [] h;simpa using this
theorem lH {cells:List (Str×Addr)}{x:Str}{c:Addr}:∀{names:List (Str×NameKind)}{acc:List (Str×Addr)},(∀ y d,acc.lookup y=some d->cells.lookup y=some d)->(fL cells names acc).lookup x=some c->cells.lookup x=some c
 |[],acc,ha,h=>ha x c h
 | (n,k)::r,acc,ha,h=>by
  simp only[fL] at h;refine lH (names:=r) (fun y d q=>?_) h;by_cases hk:(k==NameKind.free)=true
  ·rw[if_pos hk] at q;cases hc:cells.lookup n with
   |none=>rw[hc] at q;exact ha y d q
   |some e =>
    rw[hc] at q;simp only[List.lookup_cons] at q;cases hy:y==n with
    |true =>
     rw[hy] at q;have:=eq_of_beq hy;subst this;rw[hc];exact q
    |false=>rw[hy] at q;exact ha y d q
  ·rw[if_neg hk] at q;exact ha y d q
theorem lQ {cells:List (Str×Addr)}{x:Str}:∀{names:List (Str×NameKind)}{acc:List (Str×Addr)},(∃ c,acc.lookup x=some c)->∃ c,(fL cells names acc).lookup x=some c
 |[],acc,h=>h
 | (n,k)::r,acc,h=>by
  simp only[fL];refine lQ (names:=r) ?_;by_cases hk:(k==NameKind.free)=true
  ·rw[if_pos hk];cases hc:cells.lookup n with
   |none=>exact h
   |some e =>
    simp only[List.lookup_cons];cases hy:x==n with
    |true=>exact⟨e,rfl⟩
    |false=>exact h
  ·rw[if_neg hk];exact h
theorem ka {cells:List (Str×Addr)}{x:Str}{c:Addr}(hc:cells.lookup x=some c):∀{names:List (Str×NameKind)}{acc:List (Str×Addr)},(x,NameKind.free)∈names->∃ c,(fL cells names acc).lookup x=some c
 |[],acc,h=>by cases h
 | (n,k)::r,acc,h=>by
  simp only[fL];rcases gc.mp h with e | h
  ·cases e;refine lQ (names:=r) ?_;simp only[beq_self_eq_true,if_true,hc,List.lookup_cons];exact⟨c,rfl⟩
  ·exact ka hc (names:=r) h
noncomputable def inner (X:Cx)(scope:Scope)(N':List Str)(C:Addr)(s0:Shared)(H0:Hp)(ex:List Addr):Cx :=
 { X with N:=N',s₀:=s0,H₀:=H0,env:=compEnvC scope (cellsFrom (C+1) scope.names (fL X.env.cells scope.names [])) C X.env,outer:=X.stack,stack:=X.stack,ex:=ex,fn:=fun x=>scope.names.lookup x==some .cell,pn:=[],xe:=fun _ _=>False }
structure dJ (X:Cx)(scope:Scope)(N':List Str)(pick:List (Option Nat)):Prop where
 kind:scope.kind = .function
 cells:∀ y∈scope.names,y.2 = .cell->scope.names.lookup y.1=some .cell
 names:∀ y∈scope.names,y.2 = .local->scope.names.lookup y.1=some .local
 len:pick.length=N'.length
 outer:∀ x,scope.names.lookup x=some .free->(X.env.kindOf x=some .cell\/X.env.kindOf x=some .free)
 free:∀ x,(x,NameKind.free)∈scope.names->scope.names.lookup x=some .free
 pick:∀(i j:Nat) (x:Str),pick[i]? = some (some j)->N'[i]? = some x->scope.names.lookup x=some .free/\X.N[j]? = some x
noncomputable def eO (σ:L2.St)(pick:List (Option Nat)):L2.St:=pick.map fun o=>o.bind fun j=>(σ[j]?).join
theorem dZ {env:Env}:∀{names:List (Str×NameKind)}{x:Str}{k:NameKind},(names.map fun (n,k)=>if (k==NameKind.free&&env.scope.kind == .function&&env.kindOf n==some .cell) then (n,NameKind.cell) else (n,k)).lookup x=some k ->
  ∃ k0,names.lookup x=some k0/\(k=k0\/(k0 = .free/\k = .cell))
 |[],_,_,h=>by simp at h
 | (n,k0)::r,x,k,h=>by
  rw[ba] at h;by_cases hc:(k0==NameKind.free&&env.scope.kind == .function&&env.kindOf n==some .cell)=true
  ·simp only[hc,if_true,List.lookup_cons] at h;simp only[List.lookup_cons];cases hx:x==n with
   |true =>
    rw[hx] at h;cases h;rw[ah,ah] at hc;exact⟨k0,rfl,.inr ⟨by simpa using hc.1.1,rfl⟩⟩
   |false=>rw[hx] at h;exact dZ h
  ·have hc:(k0==NameKind.free&&env.scope.kind == .function&&env.kindOf n==some .cell)=false:=by simpa using hc
   simp only[hc,Bool.false_eq_true,if_false,List.lookup_cons] at h;simp only[List.lookup_cons];cases hx:x==n with
   |true=>rw[hx] at h;cases h;exact⟨k0,rfl,.inl rfl⟩
   |false=>rw[hx] at h;exact dZ h
theorem eH {env:Env}:∀{names:List (Str×NameKind)}{x:Str},names.lookup x=some .free ->
  (names.map fun (n,k)=>if (k==NameKind.free&&env.scope.kind == .function&&env.kindOf n==some .cell) then (n,NameKind.cell) else (n,k)).lookup x=some .cell \/
  (names.map fun (n,k)=>if (k==NameKind.free&&env.scope.kind == .function&&env.kindOf n==some .cell) then (n,NameKind.cell) else (n,k)).lookup x=some .free
 |[],_,h=>by simp at h
 | (n,k0)::r,x,h=>by
  rw[ba];by_cases hc:(k0==NameKind.free&&env.scope.kind == .function&&env.kindOf n==some .cell)=true
  ·simp only[hc,if_true,List.lookup_cons] at h ⊢;cases hx:x==n with
   |true=>left;rfl
   |false=>rw[hx] at h;exact eH h
  ·have hc:(k0==NameKind.free&&env.scope.kind == .function&&env.kindOf n==some .cell)=false:=by simpa using hc
   simp only[hc,Bool.false_eq_true,if_false,List.lookup_cons] at h ⊢;cases hx:x==n with
   |true=>rw[hx] at h;cases h;right;rfl
   |false=>rw[hx] at h;exact eH h
theorem fZ:∀(names:List (Str×NameKind)) (n:Nat) (acc:List (Str×Addr)),cellsFrom n names acc=cellsFrom n names []++acc
 |[],_,_=>rfl
 | (nm,k)::r,n,acc=>by
  unfold cellsFrom;split
  ·rw[fZ r (n+1) ((nm,n)::acc),fZ r (n+1) [(nm,n)],au];rfl
  ·exact fZ r n acc
theorem qT:∀(names:List (Str×NameKind)) (n:Nat) {x:Str}{c:Addr},(x,c)∈cellsFrom n names []->(x,NameKind.cell)∈names
 |[],_,_,_,h=>by cases h
 | (nm,k)::r,n,x,c,h=>by
  unfold cellsFrom at h;split at h
  ·rename_i hk;rw[fZ] at h;rcases List.mem_append.mp h with h | h
   ·exact ag _ (qT r _ h)
   ·have e:(x,c)=(nm,n):=by simpa using h
    cases e;rw[show k = .cell by simpa using hk];exact aq
  ·exact ag _ (qT r _ h)
theorem mQ:∀(names:List (Str×NameKind)) (n:Nat) {x:Str},(x,NameKind.cell)∈names->∃ c,(cellsFrom n names []).lookup x=some c
 | (nm,k)::r,n,x,h=>by
  unfold cellsFrom;rcases gc.mp h with e | h
  ·cases e;rw[if_pos (by decide),fZ,gi];cases (cellsFrom (n+1) r []).lookup nm with
   |some c=>exact⟨c,rfl⟩
   |none=>exact⟨n,by simp⟩
  ·split
   ·obtain⟨c,hc⟩:=mQ r (n+1) h;rw[fZ,gi,hc];exact⟨c,rfl⟩
   ·exact mQ r n h
theorem nfe {M:Model}{A:Around}{E:Value->Shared->Prop}{s:Shared}{scope:Scope}{globals:Addr}{cl:List (Str×Addr)}{qual:Str}{env:Env}{Q:Env->Shared->Prop}
  (h:Q { scope:=scope,locals:=s.heap.objs.size,globals:=globals,cells:=cellsFrom (s.heap.objs.size+1) scope.names cl,qual:=qual,func:=none,code:=env.code,frame:=env.frame,builtins:=env.builtins } { s with heap:=pushCells (s.heap.push { cls:=.type "dict",data:=.dict #[] }) scope.names }) :
  wpAny M A (newFunctionEnv scope globals cl [] qual none .none (some env)) Q E s:=by
 simp only[newFunctionEnv,Option.isSome_some,if_true];refine wpAny_bind (wpAny_alloc (wpAny_bind (wpAny_layCells _ (fun name kind cells=>by cases hkc:kind==NameKind.cell<;>simp[hkc]) _ _ _ _ ?_)));rw[show ({ s with heap:=s.heap.push { cls:=.type "dict",data:=.dict #[] } }:Shared).heap.objs.size=s.heap.objs.size+1 from Heap.size_push ..];exact wpAny_pure h
section
variable {X:Cx}{scope:Scope}{N':List Str}{pick:List (Option Nat)}{pins:List (Addr×Obj)}{σ:L2.St}{H:Hp}{s:Shared}
theorem nU (S:dJ X scope N' pick)(I:Inv X pins σ H s){fp:List Addr}(hf:∀ b∈fp,jJ X pins H b)(hl:∀ b∈fp,b<s.heap.objs.size) :
  Inv (inner X scope N' s.heap.objs.size s H fp) [] (eO σ pick) H { s with heap:=pushCells (s.heap.push { cls:=.type "dict",data:=.dict #[] }) scope.names }:=by
 have old:∀ x c,(fL X.env.cells scope.names []).lookup x=some c->X.env.cells.lookup x=some c:=fun x c h=>lH (acc:=[]) (fun y d q=>by simp at q) h
 have hk:∀ b o,s.heap.get? b=some o->(pushCells (s.heap.push { cls:=.type "dict",data:=.dict #[] }) scope.names).get? b=some o:=fun b o e=>pushCells_keeps _ _ b o (Heap.get?_push_of_some _ e)
 have hn:(pushCells (s.heap.push { cls:=.type "dict",data:=.dict #[] }) scope.names).Ns s.heap.objs.size (fun _=>none):=(Heap.Ns.new s.heap (.type "dict")).keeps (pushCells_keeps _ _);have ok:=cellsFrom_ok scope.names (s.heap.push { cls:=.type "dict",data:=.dict #[] }) (s.heap.objs.size+1) [] ⟨fun _ _ hm=>(nomatch hm),List.Pairwise.nil⟩ (by rw[Heap.size_push];exact aj _);rw[Heap.size_push] at ok;generalize hh:pushCells (s.heap.push { cls:=.type "dict",data:=.dict #[] }) scope.names=h' at *;have oldlt:∀ x c,X.env.cells.lookup x=some c->c<s.heap.objs.size:=fun x c h=>by
  obtain⟨v,hv⟩:=I.cell x c h;exact hv.lt
 have look:∀ x c,(cellsFrom (s.heap.objs.size+1) scope.names (fL X.env.cells scope.names [])).lookup x=some c->((x,c)∈cellsFrom (s.heap.objs.size+1) scope.names []/\s.heap.objs.size+1<=c)\/((x,NameKind.cell)∉scope.names/\X.env.cells.lookup x=some c):=fun x c h=>by
  rw[fZ,gi] at h;cases q:(cellsFrom (s.heap.objs.size+1) scope.names []).lookup x with
  |some c' =>
   rw[q] at h;cases h;have hm:=bt q;exact .inl ⟨hm,(ok.empty _ _ hm).2⟩
  |none =>
   rw[q] at h;refine .inr ⟨fun z=>?_,old x c h⟩;obtain⟨c',hc'⟩:=mQ scope.names (s.heap.objs.size+1) z;rw[q] at hc';cases hc'
 have sees:∀ x c,scope.names.lookup x=some .free->(fL X.env.cells scope.names []).lookup x=some c->(cellsFrom (s.heap.objs.size+1) scope.names (fL X.env.cells scope.names [])).lookup x=some c:=fun x c hx h=>by
  rw[fZ,gi];cases q:(cellsFrom (s.heap.objs.size+1) scope.names []).lookup x with
  |some c' =>
   have:=S.cells _ (qT _ _ (bt q)) rfl;rw[hx] at this;cases this
  |none=>rw[h];rfl
 refine⟨⟨I.ok.mod,S.kind,I.ok.glob,I.ok.blt,aj _,fun x y c h1 h2=>?inj,fun x hx=>?_,fun x c hx h=>?cab,I.ok.hd,I.ok.frames,.inl rfl,fun b hb=>?_,I.bs,dg I.ok.bsz I.sz,fun b o e hb=>?_,fun b hb hb'=>?_,I.stack,I.stkFree,I.base.frzs _ _ _ I.ok.jt⟩,
  rfl,I.bare,Un.kept hk,⟨_,hn,fun i x v h1 h2 h3=>?_⟩,fun x c h=>?_,I.hok.fresh (Nat.le_refl _),fun x c h=>?frc,fun p hp=>absurd (show p∈([]:List (Addr×Obj)) from hp) (by simp),I.hok.kept hk,?_⟩
 case inj =>
  rcases look x c h1 with ⟨m1,l1⟩ | ⟨_,o1⟩<;>rcases look y c h2 with ⟨m2,l2⟩ | ⟨_,o2⟩
  ·exact name_of_addr ok.apart m1 m2
  ·exact absurd (av (oldlt y c o2) (Nat.le_of_succ_le l1)) (dz _)
  ·exact absurd (av (oldlt x c o1) (Nat.le_of_succ_le l2)) (dz _)
  ·exact I.ok.inj x y c o1 o2
 case cab =>
  have hx:scope.names.lookup x=some .cell:=by simpa[inner] using hx
  rcases look x c h with ⟨_,l1⟩ | ⟨n1,_⟩
  ·exact dg (Nat.le_succ _) l1
  ·exact absurd (bt hx) n1
 case frc =>
  rcases look x c h with ⟨_,l1⟩ | ⟨_,o1⟩
  ·exact I.hok.fresh (dg (Nat.le_succ _) l1)
  ·exact I.freeC x c o1
 ·have hx:(relabel scope X.env).names.lookup x=some .cell\/(relabel scope X.env).names.lookup x=some .free:=hx;have hfree:scope.names.lookup x=some .free\/scope.names.lookup x=some .cell:=by
   rcases hx with hx | hx
   ·obtain⟨k0,h1,h2 | ⟨h2,_⟩⟩:=dZ hx
    ·subst h2;exact .inr h1
    ·rw[h2] at h1;exact .inl h1
   ·obtain⟨k0,h1,h2 | ⟨h2,h3⟩⟩:=dZ hx
    ·subst h2;exact .inl h1
    ·cases h3
  rcases hfree with hfree | hfree
  ·obtain⟨c,hc⟩:=I.ok.has x (S.outer x hfree);obtain⟨c',hc'⟩:=ka (acc:=[]) hc (bt hfree);exact⟨c',sees x c' hfree hc'⟩
  ·obtain⟨c,hc⟩:=mQ scope.names (s.heap.objs.size+1) (bt hfree);refine⟨c,?_⟩;show (cellsFrom (s.heap.objs.size+1) scope.names (fL X.env.cells scope.names [])).lookup x=some c;rw[fZ,gi,hc];rfl
 ·refine⟨bh (hl b hb),fun x c h=>?_⟩;rcases look x c h with ⟨_,l1⟩ | ⟨_,o1⟩
  ·exact fun e=>dz _ (av (hl b hb) (e ▸ Nat.le_of_succ_le l1))
  ·exact (hf b hb).2.2.2.2.1 x c o1
 ·obtain⟨f0,f1,f2,f3,f4,f5⟩:=hf b hb;rcases f3 with f3 | f3
  ·exact I.ok.noex b o e f3
  ·exact absurd (av (Heap.lt_size e) (dg I.ok.bsz f3)) (dz _)
 ·obtain⟨f0,f1,f2,f3,f4,f5⟩:=hf b hb;exact (gc.mp (I.stkSub b hb')).elim f1 f2
 ·
  have h2':(pick.map fun o=>o.bind fun j=>(σ[j]?).join)[i]? = some (some v):=h2;rw[List.getElem?_map] at h2';cases hp:pick[i]? with
  |none=>rw[hp] at h2';cases h2'
  |some o =>
   rw[hp] at h2';cases o with
   |none=>simp at h2'
   |some j =>
    simp only[Option.map_some,Option.bind_some,Option.some.injEq] at h2';have hj:σ[j]? = some (some v):=by
     cases q:σ[j]? with
     |none=>rw[q] at h2';cases h2'
     |some o=>rw[q] at h2';cases o with
      |none=>cases h2'
      |some w=>simp at h2';rw[h2']
    obtain⟨k1,k2⟩:=S.pick i j x hp h1;obtain⟨m0,hn0,hl0⟩:=I.loc;have vis:xJ X.env.scope x:=by
     rcases S.outer x k1 with q | q
     ·exact .inr (.inl q)
     ·exact .inr (.inr q)
    obtain⟨u,r,lk⟩:=hl0 j x v k2 hj vis;refine⟨u,r,?_⟩;rcases lk with ⟨z,_⟩ | ⟨_,c,hc,hcell⟩
    ·rcases S.outer x k1 with q | q<;>· rw[z] at q;cases q
    ·obtain⟨c',hc'⟩:=ka (names:=scope.names) (acc:=[]) hc (bt k1);have:=old x c' hc';rw[hc] at this;cases this;refine .inr ⟨eH k1,c,sees x c k1 hc',?_⟩;obtain⟨o,ho,hd⟩:=hcell;exact⟨o,hk c o ho,hd⟩
 ·rcases look x c h with ⟨m1,_⟩ | ⟨_,o1⟩
  ·exact⟨none,(ok.empty _ _ m1).1⟩
  ·obtain⟨v,o,ho,hd⟩:=I.cell x c o1;exact⟨v,o,hk c o ho,hd⟩
 ·show (pick.map _).length=N'.length;rw[ai,S.len]
end
noncomputable abbrev sP (ifs:List Expr)(env:Env):Sem Bool:=forIn ifs true fun c r=>if r=true then do let ok <- isTrue c env (eval c env);pure (ForInStep.yield ok) else pure (ForInStep.yield r)
noncomputable def C5 (X:Cx)(ifs:List Expr)(t:TT):Prop :=
 ∀(pins:List (Addr×Obj)) (s:Shared) (σ:L2.St) (H:Hp) (Q:Bool->Hp->Prop),Inv X pins σ H s->t σ H Q->wpAny (model X.prog X.w) X.A (sP ifs X.env) (TP X pins σ Q) X.xe s
theorem xU {X:Cx}:C5 X [] (fun _ H Q=>Q true H):=fun _ _ _ H Q I h=>wpAny_tests_nil ⟨H,I,h⟩
theorem zm {X:Cx}{c:Expr}{t:TT}(h:PT X c t):C5 X [c] t:=fun pins s σ H Q I q=>wpAny_tests_one (h pins s σ H Q I q)
section
variable {prog:Program}{w:World}{A:Around}{R:Result->Shared->Prop}{s:Shared}
theorem pG {elt target iter:Expr}{ifs:List Expr}{scope:Scope}{pos:Pos}{it acc:Value}{env:Env}(I:Nat->Shared->Prop)
  (turn:∀ n s,I n s->wpAny (model prog w) A (pyNext it) (fun r s₁=>match r with
   |none=>R (.ok .next) s₁
   |some v=>wpAny (model prog w) A (letOwnedTupleGo target it v) (fun _ s₀=>wpAny (model prog w) A (assign target env v) (fun _ s₂ =>
     wpAny (model prog w) A (sP ifs env) (fun ok s₃ =>
      if ok=true then wpAny (model prog w) A (eval elt env) (fun x s₄ =>
       wpAny (model prog w) A (call (.builtin "list.append") [acc,x]) (fun _ s₅=>∃ m,m<n/\I m s₅) (fun _ _=>False) s₄) (fun _ _=>False) s₃
      else ∃ m,m<n/\I m s₃) (fun _ _=>False) s₂) (fun _ _=>False) s₀) (fun _ _=>False) s₁) (fun _ _=>False) s)
  (n:Nat) (h:I n s):codeAny (model prog w) A (.compLoop (.ListComp elt [⟨target,iter,ifs,0⟩] scope pos) 0 it acc env) R s:=by
 refine codeAny_loop rfl I (fun n s hI=>?_) n h;show wpAny _ A ((compTurn (.ListComp elt [⟨target,iter,ifs,0⟩] scope pos) 0 it acc env).onRaise (fun x=>do noteFrame x env;theTreesLotGoes x)) _ _ s;refine wpAny_noted ?_;rw[compTurn_list];refine wpAny_bind (wpAny_standAt (wpAny_bind (wpAny_mono (turn n s hI) (fun r s₁ h₁=>?_) fun _ _ h'=>h'.elim)));cases r with
 |none=>exact wpAny_pure h₁
 |some v =>
  refine wpAny_bind (wpAny_mono h₁ (fun _ s₀ h₀=>?_) fun _ _ h'=>h'.elim);refine wpAny_bind (wpAny_mono h₀ (fun _ s₂ h₂=>wpAny_bind (wpAny_mono h₂ (fun ok s₃ h₃=>?_) fun _ _ h'=>h'.elim)) fun _ _ h'=>h'.elim);cases ok with
  |false=>exact wpAny_pure ⟨rfl,h₃⟩
  |true =>
   exact wpAny_bind (wpAny_bind (wpAny_mono h₃ (fun x s₄ h₄=>wpAny_bind (wpAny_mono h₄ (fun _ s₅ h₅=>wpAny_pure (wpAny_pure ⟨rfl,h₅⟩)) fun _ _ h'=>h'.elim)) fun _ _ h'=>h'.elim))
end
def xF (pick:List (Option Nat))(wi:TI)(g:TG)(tt:TT)(te:TE):TE:=fun σ H Q=>wi σ H fun J H1=>∀ l,H1 l=none->∃ W:Nat->Nat->Hp->Prop,(∃ m,W 0 m (upd H1 l (.lst [])))/\∀ i m H,W i m H ->
 (J.stop i H/\Q (.ref l) H)\/(J.go i H/\∃ N:Hp->Prop,(∀ H',N H'->∃ m',m'<m/\W (i+1) m' H')/\∀ x H',J.yld i H x H'->g x (eO σ pick) H' fun σ2 H2 =>
  tt σ2 H2 fun b H3=>if b=true then te σ2 H3 fun y H4=>∃ xs,H4 l=some (.lst xs)/\xs.length<sizeLine/\N (upd H4 l (.lst (xs ++ [y]))) else N H3)
section
variable {X:Cx}{scope:Scope}{N':List Str}{pick:List (Option Nat)}{tg iter elt:Expr}{ifs:List Expr}{pos:Pos}{wi:TI}{g:TG}{tt:TT}{te:TE}
theorem kE (S:dJ X scope N' pick)(hc:X.calm=true)(hin:∀ C s0 H0 ex,PG (inner X scope N' C s0 H0 ex) tg g/\C5 (inner X scope N' C s0 H0 ex) ifs tt/\PE (inner X scope N' C s0 H0 ex) elt te)
  (gk:∀(v:V) (σ:L2.St) (H:Hp) (Q:L2.St->Hp->Prop),g v σ H Q->g v σ H fun σ' H'=>Q σ' H'/\σ'.length=σ.length/\∀(i:Nat) u,pick[i]?≠some none->σ[i]? = some u->σ'[i]? = some u)
  {pins:List (Addr×Obj)}{σ:L2.St}{H:Hp}{s:Shared}{it:Addr}{fp:List Addr}{tn:Nat->Heap->Prop}{J:It}{E:Value->Shared->Prop}{RR:Value->Addr->Result->Shared->Prop}(I:Inv X pins σ H s) (T:Turn X.prog X.w X.K tg J fp it tn) (st:tn 0 s.heap) (hf:∀ b∈fp,jJ X pins H b)
  (Q:VK) (h:∀ l,H l=none->∃ W:Nat->Nat->Hp->Prop,(∃ m,W 0 m (upd H l (.lst [])))/\∀ i m H,W i m H ->
   (J.stop i H/\Q (.ref l) H)\/(J.go i H/\∃ N:Hp->Prop,(∀ H',N H'->∃ m',m'<m/\W (i+1) m' H')/\∀ x H',J.yld i H x H'->g x (eO σ pick) H' fun σ2 H2 =>
    tt σ2 H2 fun b H3=>if b=true then te σ2 H3 fun y H4=>∃ xs,H4 l=some (.lst xs)/\xs.length<sizeLine/\N (upd H4 l (.lst (xs ++ [y]))) else N H3))
  (hR:∀(l C:Addr) (s':Shared) (H':Hp) (m:Str->Option Value),s'.heap.Ns C m->jJ X pins H' C->Q (.ref l) H'->Inv X pins σ H' s'->RR (.ref l) C (.ok .next) s') :
  wpAny (model X.prog X.w) X.A (newList []) (fun acc s₃=>wpAny (model X.prog X.w) X.A (newFunctionEnv scope X.env.globals (fL X.env.cells scope.names []) [] X.env.qual none .none (some X.env)) (fun cenv s₄ =>
   codeAny (model X.prog X.w) X.A (.compStart (.ListComp elt [⟨tg,iter,ifs,0⟩] scope pos) 0 (.ref it) acc { cenv with scope:=relabel scope X.env }) (RR acc cenv.locals) s₄) E s₃) E s:=by
 have hltI:∀ b∈fp,b<s.heap.objs.size:=fun b hb=>let ⟨o,e,_⟩:=T.obj 0 _ st b hb;Heap.lt_size e
 refine wpAny_newObj_type (nfe ?_);dsimp only;have I3:Inv X pins σ (upd H s.heap.objs.size (.lst [])) { s with heap:=s.heap.push { cls:=.type "list",data:=.seq ([]:List Value).toArray } }:=I.lnew (ys:=[]) (its:=[]) (t':=s.toks) .nil (cq _);obtain⟨W,⟨m0,w0⟩,turn⟩:=h s.heap.objs.size I.fresh;have hC:(s.heap.push { cls:=.type "list",dict:=none,data:=.seq ([]:List Value).toArray }).objs.size=s.heap.objs.size+1:=Heap.size_push ..;have hf3:∀ b∈fp,jJ X pins (upd H s.heap.objs.size (.lst [])) b:=fun b hb=>⟨by rw[aF (bh (hltI b hb))];exact (hf b hb).1,(hf b hb).2⟩
 have keep3:∀ b o,(s.heap.push { cls:=.type "list",dict:=none,data:=.seq ([]:List Value).toArray }).get? b=some o->(pushCells ((s.heap.push { cls:=.type "list",dict:=none,data:=.seq ([]:List Value).toArray }).push { cls:=.type "dict",data:=.dict #[] }) scope.names).get? b=some o:=fun b o e=>pushCells_keeps _ _ b o (Heap.get?_push_of_some _ e)
 have I4:=nU (s:={ s with heap:=s.heap.push { cls:=.type "list",dict:=none,data:=.seq ([]:List Value).toArray } }) S I3 hf3 (fun b hb=>by show b<(s.heap.push _).objs.size;rw[hC];exact fu (hltI b hb));dsimp only at I4;generalize hh₁:pushCells ((s.heap.push { cls:=.type "list",dict:=none,data:=.seq ([]:List Value).toArray }).push { cls:=.type "dict",data:=.dict #[] }) scope.names=h₁ at *;have st4:tn 0 h₁:=T.keep 0 _ _ st fun b hb o e=>keep3 b o (Heap.get?_push_of_some _ e)
 generalize hY:inner X scope N' (s.heap.push { cls:=.type "list",dict:=none,data:=.seq ([]:List Value).toArray }).objs.size { s with heap:=s.heap.push { cls:=.type "list",dict:=none,data:=.seq ([]:List Value).toArray } } (upd H s.heap.objs.size (.lst [])) fp=Y at I4;have hYin:=hin (s.heap.push { cls:=.type "list",dict:=none,data:=.seq ([]:List Value).toArray }).objs.size { s with heap:=s.heap.push { cls:=.type "list",dict:=none,data:=.seq ([]:List Value).toArray } } (upd H s.heap.objs.size (.lst [])) fp;rw[hY] at hYin;obtain⟨yg,yt,ye⟩:=hYin;have yE:Y.env=compEnvC scope (cellsFrom ((s.heap.push { cls:=.type "list",dict:=none,data:=.seq ([]:List Value).toArray }).objs.size+1) scope.names (fL X.env.cells scope.names [])) (s.heap.push { cls:=.type "list",dict:=none,data:=.seq ([]:List Value).toArray }).objs.size X.env:=by rw[<-hY];rfl
 have hCL:(s.heap.push { cls:=.type "list",dict:=none,data:=.seq ([]:List Value).toArray }).objs.size≠X.env.locals:=by
  rw[hC];exact i4 (fu I.lt)
 have back:∀{H5:Hp}{s5:Shared},Inv Y [] (eO σ pick) H5 s5->Q (.ref s.heap.objs.size) H5->RR (.ref s.heap.objs.size) (s.heap.push { cls:=.type "list",dict:=none,data:=.seq ([]:List Value).toArray }).objs.size (.ok .next) s5:=fun {H5 s5} I5 q=>by
  subst hY;obtain⟨m,hn,_⟩:=I5.loc;have J5:Inv X pins σ H5 s5:=Inv.call' I3 I5.os I5.base I5.hok I5.bare fun b hb=>by
   obtain⟨f0,f1,f2,f3,f4,f5⟩:=hf b hb;exact⟨f3,f1,f4,f5⟩
  have lt3:∀{b:Addr}{o:Obj},s.heap.get? b=some o->b≠(s.heap.push { cls:=.type "list",dict:=none,data:=.seq ([]:List Value).toArray }).objs.size:=fun e=>by rw[hC];exact bh (fu (Heap.lt_size e))
  refine hR _ _ s5 H5 m hn ⟨I5.free,hCL,I.nofs (by rw[hC];exact Nat.le_succ _),.inr (by rw[hC];exact Nat.le_succ_of_le I.sz),fun x c e z=>?_,fun p hp z=>?_⟩ q J5
  ·obtain⟨v,o,ho,_⟩:=I.cell x c e;exact lt3 ho z
  ·exact lt3 (I.pin p hp).1 z
 have yP:Y.prog=X.prog:=by rw[<-hY];rfl
 have yw:Y.w=X.w:=by rw[<-hY];rfl
 have yK:Y.K=X.K:=by rw[<-hY];rfl
 have yA:Y.A=X.A:=by rw[<-hY];rfl
 have yc:Y.calm=true:=by rw[<-hY];exact hc
 have yx:Y.xe=fun _ _=>False:=by rw[<-hY];rfl
 have yp:Y.pn=[]:=by rw[<-hY];rfl
 have yex:Y.ex=fp:=by rw[<-hY];rfl
 have stat:∀{H':Hp},(∀ b∈fp,H' b=none)->∀ b∈fp,jJ Y [] H' b:=fun {H'} hn b hb=>by
  have hb':b∈Y.ex:=by rw[yex];exact hb
  obtain⟨x1,x2⟩:=I4.ok.exf b hb';exact⟨hn b hb,x1,I4.ok.exfs b hb',.inl hb',x2,fun p hp=>by rw[yp] at hp;cases hp⟩
 rw[<-yP,<-yw,<-yA];have loop:codeAny (model Y.prog Y.w) Y.A (.compLoop (.ListComp elt [⟨tg,iter,ifs,0⟩] scope pos) 0 (.ref it) (.ref s.heap.objs.size) Y.env) (RR (.ref s.heap.objs.size) (s.heap.push { cls:=.type "list",dict:=none,data:=.seq ([]:List Value).toArray }).objs.size) { s with heap:=h₁ }:=by
  refine pG (fun n s5=>∃ i H5,Inv Y [] (eO σ pick) H5 s5/\tn i s5.heap/\(∀ b∈fp,H5 b=none)/\W i n H5) ?_ m0 ⟨0,_,I4,st4,fun b hb=>(hf3 b hb).1,w0⟩;rintro n s5 ⟨i,H5,I5,st5,fr5,w5⟩;rcases turn i n H5 w5 with ⟨stop,qn⟩ | ⟨go,N,hN,step⟩
  ·have d:=T.done Y yP yw yK yc i [] s5 (eO σ pick) H5 (fun _ _=>False) I5 (stat fr5) st5 stop;rw[<-yP,<-yw] at d;refine cC d fun r s6 ⟨hr,I6⟩=>?_
   subst hr;exact back I6 qn
  ·have d:=T.item Y yP yw yK yc i [] s5 (eO σ pick) H5 (fun _ _=>False) I5 (stat fr5) st5 go;rw[<-yP,<-yw] at d;refine cC d fun r s6 ⟨u,hr,h6⟩=>?_
   subst hr;refine cC h6 fun _ s7 ⟨x,H7,I7,r7,y7,st7,fr7⟩=>?_
   have I7':=I7.pinned (stat fr7) (T.obj _ _ st7);have yg':=yg _ s7 (eO σ pick) H7 x u _ I7' r7 (gk _ _ _ _ (step x H7 y7));rw[yx] at yg';refine cC yg' fun _ s8 ⟨σ8,H8,I8,q8,l8,k8⟩=>?_
   have yt':=yt _ s8 σ8 H8 _ I8 q8;rw[yx] at yt';refine cC yt' fun b s9 ⟨H9,I9,q9⟩=>?_
   have again:∀{σ':L2.St}{H':Hp}{s':Shared},Inv Y ([]++kX fp s7.heap) σ' H' s'->σ'=σ8->N H'->∃ m,m<n/\∃ i H5,Inv Y [] (eO σ pick) H5 s'/\tn i s'.heap/\(∀ b∈fp,H5 b=none)/\W i m H5:=fun {σ' H' s'} J e nn=>by
    subst e;obtain⟨m',hm,w'⟩:=hN H' nn;refine⟨m',hm,i+1,H',(J.unpinned).weak (l8.symm) (fun j v e=>?_),T.keep _ _ _ st7 fun b hb o e=>(J.pin (b,o) (ao _ (ao _ (eE hb e)))).1,fun b hb=>?_,w'⟩
    ·refine k8 j _ (fun z=>?_) e;unfold eO at e;rw[List.getElem?_map,z] at e;simp at e
    ·obtain⟨o,e,_⟩:=T.obj _ _ st7 b hb;exact (J.pin (b,o) (ao _ (ao _ (eE hb e)))).2.1
   cases b with
   |false =>
    rw[if_neg cw];exact again I9 rfl q9
   |true =>
    rw[if_pos rfl];have q9:te σ8 H9 fun y H4=>∃ xs,H4 s.heap.objs.size=some (.lst xs)/\xs.length<sizeLine/\N (upd H4 s.heap.objs.size (.lst (xs ++ [y]))):=q9
    have ye':=ye _ s9 σ8 H9 _ I9 q9;rw[yx] at ye';refine cC ye' fun v s10 ⟨y,H10,I10,r10,xs,e10,z10,n10⟩=>?_
    have ap:=mI _ s10 σ8 H10 (.ref s.heap.objs.size) [y] (.ref s.heap.objs.size) [v] (fun _ H'=>N H') I10 rfl (.cons r10 .nil) ⟨s.heap.objs.size,xs,y,rfl,rfl,e10,z10,n10⟩;rw[yx] at ap;exact cC ap fun _ s11 ⟨_,H11,I11,_,n11⟩=>again I11 rfl n11
 show codeAny (model Y.prog Y.w) Y.A (.compStart (.ListComp elt [⟨tg,iter,ifs,0⟩] scope pos) 0 (.ref it) (.ref s.heap.objs.size) (compEnvC scope (cellsFrom ((s.heap.push { cls:=.type "list",dict:=none,data:=.seq ([]:List Value).toArray }).objs.size+1) scope.names (fL X.env.cells scope.names [])) (s.heap.push { cls:=.type "list",dict:=none,data:=.seq ([]:List Value).toArray }).objs.size X.env))
  (RR (.ref s.heap.objs.size) (s.heap.push { cls:=.type "list",dict:=none,data:=.seq ([]:List Value).toArray }).objs.size) { s with heap:=h₁ }
 rw[<-yE];refine codeAny_compStart_list loop ?_;have l2:=loop;rw[yP,yw] at l2 ⊢;exact T.self Y.A 0 _ _ _ st4 l2
theorem eS (S:dJ X scope N' pick)(hh:∀ x,(X.env.kindOf x=some .cell\/X.env.kindOf x=some .free)->∃ c,X.env.cells.lookup x=some c):closureFor scope X.env=pure (fL X.env.cells scope.names []) :=
 qW fun x hx=>hh x (S.outer x (S.free x hx))
theorem xV (S:dJ X scope N' pick)(hc:X.calm=true)(hi:PI X tg iter wi)(hin:∀ C s0 H0 ex,PG (inner X scope N' C s0 H0 ex) tg g/\C5 (inner X scope N' C s0 H0 ex) ifs tt/\PE (inner X scope N' C s0 H0 ex) elt te)
  (gk:∀(v:V) (σ:L2.St) (H:Hp) (Q:L2.St->Hp->Prop),g v σ H Q->g v σ H fun σ' H'=>Q σ' H'/\σ'.length=σ.length/\∀(i:Nat) u,pick[i]?≠some none->σ[i]? = some u->σ'[i]? = some u) (hs:∀ x,foldedSetIterable iter X.env x=pure x) :
  PE X (.ListComp elt [⟨tg,iter,ifs,0⟩] scope pos) (xF pick wi g tt te):=by
 intro pins s σ H Q I h;rw[eval_ListComp];refine wpAny_comprehension_free (use:=none) rfl hs (eS S I.ok.has) S.kind S.names (cC (hi pins s σ H _ I h) fun v s1 h1=>cC h1 fun itv s2 h2=>?_);obtain⟨it,fp,tn,J,H2,e,I2,T,st2,f2,q⟩:=h2;subst e;refine kE (RR:=fun acc C=>compPost (model X.prog X.w) X.A X.xe none (EP X pins σ Q) acc C) S hc hin gk I2 T st2 f2 Q q fun l C s' H' m hn fc hq J0=>?_
 obtain⟨f0,f1,f2,f3,f4,f5⟩:=fc;exact⟨m,hn,fun h' sb=>⟨.ref l,H',J0.turned (t':=s'.toks) (fun b o hb e=>sb.extBut b o hb e) f0 f1 f3 f4 f5,rfl,hq⟩⟩
theorem qe {i:Nat}{x:Str}{pos' spos:Pos}(S:dJ X scope N' pick)(hc:X.calm=true)(hi:PI X tg iter wi)(hin:∀ C s0 H0 ex,PG (inner X scope N' C s0 H0 ex) tg g/\C5 (inner X scope N' C s0 H0 ex) ifs tt/\PE (inner X scope N' C s0 H0 ex) elt te)
  (gk:∀(v:V) (σ:L2.St) (H:Hp) (Q:L2.St->Hp->Prop),g v σ H Q->g v σ H fun σ' H'=>Q σ' H'/\σ'.length=σ.length/\∀(i:Nat) u,pick[i]?≠some none->σ[i]? = some u->σ'[i]? = some u) (hs:∀ x,foldedSetIterable iter X.env x=pure x)
  (hN:X.N.Nodup) (hx:X.N[i]? = some x) (hl:Loc X.env.scope x) (hf:X.fn x=true\/X.env.scope.names.lookup x=some .local) (hsw:swapsWith (.ListComp elt [⟨tg,iter,ifs,0⟩] scope pos) (some (.Name x pos')) spos.line X.env=pure true) :
  PS X (.Assign [.Name x pos'] (.ListComp elt [⟨tg,iter,ifs,0⟩] scope pos) spos) (wg (xF pick wi g tt te) (j8 i)):=by
 intro pins s σ H D I h;rw[exec_Assign_Name_used _ _ _ _ hsw];refine wpAny_bind (wpAny_standAt (wpAny_bind ?_));show wpAny _ X.A (do let _ <- comprehension (.ListComp elt [⟨tg,iter,ifs,0⟩] scope pos) scope X.env _ (newList []) false (eval iter X.env) (some (assign (.Name x pos') X.env))) _ _ s;refine wpAny_bind (wpAny_mono (wpAny_comprehension_free (use:=some (assign (.Name x pos') X.env)) (Q:=fun _ s'=>SP X pins D .next s') rfl hs (eS S I.ok.has) S.kind S.names
  (cC (hi pins s σ H _ I h) fun v s1 h1=>cC h1 fun itv s2 h2=>?_)) (fun _ s' hq=>wpAny_pure (wpAny_pure hq)) fun _ _ e=>e)
 obtain⟨it,fp,tn,J,H2,e,I2,T,st2,f2,q⟩:=h2;subst e;refine kE (RR:=fun acc C=>compPost (model X.prog X.w) X.A X.xe (some (assign (.Name x pos') X.env)) (fun _ s'=>SP X pins D .next s') acc C) S hc hin gk I2 T st2 f2 (fun x H1=>j8 i x σ H1 D.nx) q fun l C s' H' m hn fc hq J0=>?_
 obtain⟨o,es,ep,ho,hd,hr⟩:=id hn;have J1:=J0.pinned (fp:=[C]) (fun b hb=>by rw[List.mem_singleton.mp hb];exact fc) fun b hb=>by rw[List.mem_singleton.mp hb];exact⟨o,ho,fun v z=>by rw[hd] at z;cases z⟩
 show wpAny (model X.prog X.w) X.A (assign (.Name x pos') X.env (.ref l)) _ _ s';refine wpAny_assign_Name (fM J1 hN hx hl (v:=.ref l) rfl (fun s2 I2=>?_) hf);have hC2:=(I2.pin (C,o) (List.mem_append_right _ (List.mem_append_right _ (eE (by simp) ho)))).1;obtain⟨f0,f1,f2,f3,f4,f5⟩:=fc;refine⟨m,⟨o,es,ep,hC2,hd,hr⟩,fun h' sb=>?_⟩;exact⟨_,H',I2.unpinned.turned (t':=s2.toks) (fun b o hb e=>sb.extBut b o hb e) f0 f1 f3 f4 f5,hq⟩
end
noncomputable def dQ (own:Nat)(pick:List Nat):List (Option Nat):=List.replicate own none++pick.map some
theorem mP (σ:L2.St)(pk:List (Option Nat)):(eO σ pk).length=pk.length:=by simp[eO]
theorem ls (env:En)(own:Nat)(pick:List Nat):(bX env own pick).length=own+pick.length:=by simp[bX]
noncomputable def lN (F:Nat->List Addr)(env:En)(own:Nat)(pick:List Nat):Nat->List Addr:=fun i=>match (bX env own pick)[i]? with
 | some (some _)=>match pick[i - own]? with
  |some j=>F j
  |none=>[]
 |_=>[]
theorem eJ {env:En}{own:Nat}{pick:List Nat}{i:Nat}{d:D}{t:Tg}(h:(bX env own pick)[i]? = some (some (d,t))):t = .sh []/\own<=i/\∃ j t0,pick[i - own]? = some j/\env[j]? = some (some (d,t0)):=by
 unfold bX at h;by_cases hi:i<own
 ·rw[List.getElem?_append_left (by simpa using hi),List.getElem?_replicate] at h;split at h<;>cases h
 ·have hi:own<=i:=iy hi;rw[List.getElem?_append_right (by simpa using hi),List.length_replicate,List.getElem?_map] at h;cases hp:pick[i - own]? with
  |none=>rw[hp] at h;cases h
  |some j =>
   rw[hp] at h;simp only[Option.map_some,Option.some.injEq] at h;split at h
   ·rename_i d0 t0 q;cases h;exact⟨rfl,hi,j,t0,rfl,q⟩
   ·cases h
section
variable {K:Frag}{P:Addr->Prop}{env:En}{σ:L2.St}{H:Hp}{F:Nat->List Addr}
theorem RE.picked (re:RE K P env σ H F)(own:Nat)(pick:List Nat):RE K (fun _=>False) (bX env own pick) (eO σ (dQ own pick)) H (lN F env own pick) where
 len:=by rw[ls,mP];simp[dQ]
 val:=fun i d t h=>by
  obtain⟨rfl,hi,j,t0,hp,he⟩:=eJ h;obtain⟨v,e,r⟩:=re.val j d t0 he;refine⟨v,?_,?_⟩
  ·unfold eO dQ;rw[List.getElem?_map,List.getElem?_append_right (by simpa using hi),List.length_replicate,List.getElem?_map,hp];simp[e]
  ·unfold lN;rw[h,hp];exact r
 emp:=fun i h=>by
  unfold lN;split
  ·rename_i p q;exact absurd q (h p.1 p.2)
  ·rfl
 one:=fun i d t h o=>by
  obtain⟨rfl,_⟩:=eJ h;cases o
 wr:=fun i d h=>by
  obtain⟨q,_⟩:=eJ h;cases q
 pl:=fun _ h=>h.elim
theorem tX {own:Nat}{pick:List Nat}{i:Nat}{a:Addr}(re:RE K P env σ H F)(h:a∈lN F env own pick i):∃ j∈pick,∃ d t,a∈F j/\env[j]? = some (some (d,t)):=by
 unfold lN at h;split at h
 ·rename_i p q;obtain⟨_,hi,j,t0,hp,he⟩:=eJ (d:=p.1) (t:=p.2) q;rw[hp] at h;exact⟨j,List.mem_of_getElem? hp,p.1,t0,h,he⟩
 ·cases h
end
noncomputable def Ck (K:Frag)(T:Tb):km->TT
 |.none=>fun _ H Q=>Q true H
 |.some c=>mU K T c
section
variable {X:Cx}{T:Tb}{scope:Scope}{N':List Str}{own:Nat}{pick:List Nat}{t:jL}{it:qa}{c:km}{e:Ex}
theorem Cv {σ:L2.St}{H:Hp}{Q:Bool->Hp->Prop}{P:Addr->Prop}{env:En}{F:Nat->List Addr}{k:Bool}(re:RE X.K P env σ H F)(hk:lD T c env = .ok k)(q:∀ H',aE H H'->Q k H'):Ck X.K T c σ H Q:=by
 cases c with
 |none =>
  unfold lD at hk;cases hk;exact q H (aE.refl _)
 |some c =>
  unfold lD at hk;obtain⟨p,h1,h2⟩:=Rs.bind_ok hk;exact⟨P,env,F,re,p,k,h1,cL h2,q⟩
theorem lK {σ:L2.St}{H:Hp}{Q:VK}(h:tE X.K T (.comp own pick t it c e) σ H Q):xF (dQ own pick) (tI X.K T it) (qq X.K t) (Ck X.K T c) (tE X.K T e) σ H Q:=by
 obtain⟨P,env,F,re,p0,hev,k⟩:=h;unfold ev at hev;obtain⟨p,h1,hev⟩:=Rs.bind_ok hev;obtain⟨tot,h2,hev⟩:=Rs.bind_ok hev;have hlim:p.1.length<=lim:=Decidable.byContradiction fun hn=>by rw[if_neg hn] at hev;cases hev
 rw[if_pos hlim] at hev;cases hev;refine⟨P,env,F,re,p,h1,fun J H1 Gs s1 rt nn wk l hl=>?_⟩;have re1:=re.same s1;have wk:=wk (fun a=>a∈Gs) fun a ha=>ha
 let S0:Addr->Prop:=fun a=>a∈Gs\/∃ j∈pick,∃ d t,a∈F j/\env[j]? = some (some (d,t))
 have S0n:∀ a,S0 a->H1 a≠none:=fun a ha=>by
  rcases ha with ha | ⟨j,_,d,t,m,ej⟩
  ·exact nn a ha
  ·exact re1.nn ej m
 have lS:¬ S0 l:=fun z=>S0n l z hl
 refine⟨fun i m H2=>m=p.1.length - i/\i<=p.1.length/\∃(acc rest:List (D×Rt)) (vs:List V) (G:List Addr),dI (fun d=>bH (aV [] t d (bX env own pick)) (lD T c) (ev T e)) (p.1.drop i) = .ok rest/\tot=acc++rest/\acc.length<=i/\H2 l=some (.lst vs)/\aG X.K H2 (acc.map (·.1)) vs G/\aE H1 H2/\l∉G /\
  (∀ a∈G,H1 a=none\/S0 a)/\(acc.all (fun q=>q.1.flat || dE q.2)=true->G.Nodup/\∀ a∈G,H1 a=none/\∃ ws:ML,H2 a=some ws.o),?_,?_⟩
 ·refine⟨p.1.length,by simp,Nat.zero_le _,[],tot,[],[],by simpa using h2,rfl,Nat.le_refl _,aK,.nil,aE.new hl,by simp,fun _ h=>(nomatch h),fun _=>⟨List.nodup_nil,fun _ h=>(nomatch h)⟩⟩
 ·rintro i m H2 ⟨rfl,hi,acc,rest,vs,G,hgo,htot,hacc,hl2,rs,s2,hlG,hG,hfr⟩;obtain⟨w1,w2⟩:=wk H2 (jx.of_same (fun a ha=>nn a ha) s2);by_cases hlt:i<p.1.length
  ·right;have hd:p.1[i]? = some p.1[i]:=by simp[hlt]
   obtain⟨g1,g2⟩:=w1 i _ hd;refine⟨g1,fun H3=>i+1<=p.1.length/\∃(acc rest:List (D×Rt)) (vs:List V) (G:List Addr),dI (fun d=>bH (aV [] t d (bX env own pick)) (lD T c) (ev T e)) (p.1.drop (i+1)) = .ok rest/\tot=acc++rest/\acc.length<=i+1/\H3 l=some (.lst vs)/\aG X.K H3 (acc.map (·.1)) vs G/\aE H1 H3/\l∉G /\
    (∀ a∈G,H1 a=none\/S0 a)/\(acc.all (fun q=>q.1.flat || dE q.2)=true->G.Nodup/\∀ a∈G,H1 a=none/\∃ ws:ML,H3 a=some ws.o),fun H3 q=>⟨p.1.length - (i+1),by omega,rfl,q⟩,fun x H3 y=>?_⟩
   obtain⟨s3,G3,rp3,sub3⟩:=g2 x H3 y;rw[ey hlt] at hgo;unfold dI at hgo;obtain⟨o,hstep,hgo⟩:=Rs.bind_ok hgo;obtain⟨rest',hrest,hgo⟩:=Rs.bind_ok hgo;cases hb:aV [] t p.1[i] (bX env own pick) with
   |none=>rw[hb] at hstep;cases hstep
   |some env4 =>
    rw[hb] at hstep;unfold bH at hstep;obtain⟨kc,hkc,hstep⟩:=Rs.bind_ok hstep;have rep:=(re1.same (s2.trans s3)).picked own pick;let Z:Addr->Prop:=fun a=>S0 a
    have zF:∀ i,∀ a∈lN F env own pick i,Z a:=fun i a ha=>by
     obtain⟨j,hj,d,t,m,ej⟩:=tX (re1.same (s2.trans s3)) ha;exact .inr ⟨j,hj,d,t,m,ej⟩
    refine ph (Z:=Z) rep zF rp3 (fun a ha=>.inl (sub3 a ha)) (fun a ha j d' t' ej o m=>?_) hb fun σ4 F4 re4 z4 _=>?_
    ·obtain⟨rfl,_⟩:=eJ ej;cases o
    ·refine Cv re4 hkc fun H5 s5=>?_
     have base5:=s2.trans (s3.trans s5);have l5:H5 l=some (.lst vs):=s5 _ _ (s3 _ _ hl2);cases kc with
     |false =>
      show if false=true then _ else _
      rw[if_neg cw];simp only[Bool.false_eq_true,if_false] at hstep;cases hstep;cases hgo;refine⟨hlt,acc,rest',vs,G,hrest,htot,Nat.le_succ_of_le hacc,l5,rs.same (s3.trans s5),base5,hlG,hG,fun f=>?_⟩;obtain⟨n1,n2⟩:=hfr f;exact⟨n1,fun a ha=>⟨(n2 a ha).1,let ⟨ws,q⟩:=(n2 a ha).2;⟨ws,s5 _ _ (s3 _ _ q)⟩⟩⟩
     |true =>
      show if true=true then _ else _
      rw[if_pos rfl];simp only[if_true] at hstep;obtain⟨q,hq,hstep⟩:=Rs.bind_ok hstep;cases hstep;cases hgo;refine⟨_,env4,F4,re4.same s5,q,hq,fun yv H6 Gy s6 rpy rty=>?_⟩;have l6:H6 l=some (.lst vs):=s6 _ _ l5;have base6:=base5.trans s6;have old6:=s3.trans (s5.trans s6);have yS:∀ a∈Gy,H5 a=none\/S0 a:=fun a ha=>(rty.cont a ha).imp id fun ⟨i,d,t,m,_⟩=>z4 i a m
      have ly:l∉Gy:=fun z=>by
       rcases yS l z with q | q
       ·rw[l5] at q;cases q
       ·exact lS q
      have len6:vs.length=acc.length:=by have:=rs.len;rw[ai] at this;exact this.symm
      refine⟨vs,l6,Nat.lt_of_le_of_lt (Nat.le_trans (Nat.le_of_eq len6) (Nat.le_trans hacc (Nat.le_of_lt (Nat.lt_of_lt_of_le hlt hlim)))) (by decide),hlt,acc ++ [q],rest',vs ++ [yv],G++(Gy ++ []),hrest,by rw[htot];simp,by simp;exact hacc,aK,?_,?_,?_,?_,?_⟩
      ·rw[i8];exact (aG.append (rs.same old6) (.cons rpy .nil)).upd l6 (by simp;exact⟨hlG,ly⟩)
      ·intro b o e;rw[aF (fun z=>by subst z;rw[hl] at e;cases e)];exact base6 _ _ e
      ·simp;exact⟨hlG,ly⟩
      ·intro a ha;rw[bc] at ha;rcases List.mem_append.mp ha with ha | ha
       ·exact hG a ha
       ·exact (yS a ha).imp (aE.no base5) id
      ·intro f;rw[List.all_append,ah] at f;obtain⟨n1,n2⟩:=hfr f.1;have fy:Gy.Nodup/\∀ a∈Gy,H5 a=none/\∃ ws:ML,H6 a=some ws.o:=by
        have f2:q.1.flat=true\/dE q.2=true:=by simpa using f.2
        rcases f2 with f2 | f2
        ·rw[rpy.flat f2];exact⟨cy,fun _ h=>(nomatch h)⟩
        ·have:q.2 = .mv []:=by
          cases hr:q.2 with
          |sh R=>rw[hr] at f2;cases f2
          |mv R=>cases R with
           |nil=>rfl
           |cons a b=>rw[hr] at f2;cases f2
         obtain⟨m1,m2,m3⟩:=rty.mv [] this;refine⟨m1,fun a ha=>⟨?_,m2 a ha⟩⟩;rcases m3 a ha with z | ⟨_,_,_,z,_⟩
         ·exact z
         ·cases z
       rw[bc];refine⟨fb.mpr ⟨n1,fy.1,fun a ha b hb z=>?_⟩,fun a ha=>?_⟩
       ·subst z;obtain⟨_,ws,w⟩:=n2 a ha;have:=s5 _ _ (s3 _ _ w);rw[(fy.2 a hb).1] at this;cases this
       ·have ne:a≠l:=fun z=>by
         subst z;rcases List.mem_append.mp ha with ha | ha
         ·exact hlG ha
         ·exact ly ha
        rcases List.mem_append.mp ha with ha | ha
        ·obtain⟨u1,ws,w⟩:=n2 a ha;exact⟨u1,ws,by rw[aF ne];exact old6 _ _ w⟩
        ·obtain⟨u1,ws,w⟩:=fy.2 a ha;exact⟨aE.no base5 u1,ws,by rw[aF ne];exact w⟩
  ·left;have ei:i=p.1.length:=by omega
   subst ei;refine⟨w2,?_⟩;rw[List.drop_length] at hgo;unfold dI at hgo;cases hgo;rw[bc] at htot;subst htot;refine k _ H2 (l::G) (s1.trans s2) (.lst (.inl hl2) rs) ?_;have hl0:=aE.no s1 hl;cases hf:tot.all (fun q=>q.1.flat || dE q.2) with
   |true =>
    obtain⟨n1,n2⟩:=hfr hf;have new:∀ a∈l::G,H a=none:=fun a ha=>by
     rcases gc.mp ha with rfl | ha
     ·exact hl0
     ·exact aE.no s1 (n2 a ha).1
    refine⟨fun a ha=>.inl (new a ha),fun R e=>⟨List.nodup_cons.mpr ⟨hlG,n1⟩,fun a ha=>?_,fun a ha=>.inl (new a ha)⟩⟩;rcases gc.mp ha with rfl | ha
    ·exact⟨.l _,hl2⟩
    ·exact (n2 a ha).2
   |false =>
    refine⟨fun a ha=>?_,fun R e=>by cases e⟩;rcases gc.mp ha with rfl | ha
    ·exact .inl hl0
    ·rcases hG a ha with q | q | ⟨j,hj,d,t,m,ej⟩
     ·exact .inl (aE.no s1 q)
     ·exact (rt.cont a q).imp id fun ⟨i,d,t,x,y,z⟩=>⟨i,d,t,x,y,fun r hr=>ay _ (z r hr)⟩
     ·refine .inr ⟨j,d,t,m,ej,fun r hr=>ao _ ?_⟩;unfold md;rw[List.mem_flatten];exact⟨aY j t,gr.mpr ⟨j,hj,by rw[ej]⟩,hr⟩
theorem lX {K:Frag}{t:jL}{pk:List (Option Nat)}(ht:∀ i,(t = .nm i\/∃ is,t = .tp is/\i∈is)->pk[i]? = some none)(v:V)(σ:L2.St)(H:Hp)(Q:L2.St->Hp->Prop)(h:qq K t v σ H Q) :
  qq K t v σ H fun σ' H'=>Q σ' H'/\σ'.length=σ.length/\∀(i:Nat) u,pk[i]?≠some none->σ[i]? = some u->σ'[i]? = some u:=by
 cases t with
 |nm i=>exact⟨h,by simp,fun j u hj e=>by rw[List.getElem?_set_ne];exact e;rintro rfl;exact hj (ht i (.inl rfl))⟩
 |tp is =>
  obtain⟨a,xs,e1,e2,e3,h⟩:=h;refine⟨a,xs,e1,e2,e3,?_⟩;have gen:∀(is:List Nat) (xs:List V) (σ1:L2.St),(∀ i∈is,pk[i]? = some none)->σ1.length=σ.length->(∀(i:Nat) u,pk[i]?≠some none->σ[i]? = some u->σ1[i]? = some u)->fU is xs σ1 H Q->fU is xs σ1 H fun σ' H'=>Q σ' H'/\σ'.length=σ.length/\∀(i:Nat) u,pk[i]?≠some none->σ[i]? = some u->σ'[i]? = some u:=by
   intro is
   induction is with
   |nil=>intro xs σ1 _ hl hk h;exact⟨h.1,h.2,hl,hk⟩
   |cons j js ih =>
    intro xs σ1 hi hl hk h;obtain⟨v,r,e,h⟩:=h;refine⟨v,r,e,ih r (σ1.set j (some v)) (fun i hm=>hi i (List.mem_cons_of_mem _ hm)) (by simp[hl]) (fun i u hi' e'=>?_) h⟩;rw[List.getElem?_set_ne];exact hk i u hi' e';rintro rfl;exact hi' (hi j aq)
  exact gen is xs σ (fun i hm=>ht i (.inr ⟨is,rfl,hm⟩)) rfl (fun _ _ _ e=>e) h
end
def mh (K:Frag)(T:Tb)(x:Nat)(path:km):TE:=fun σ H Q=>∃ P env F po v p,RE K P env σ H F/\jb T path env = .ok po/\σ[x]? = some (some v)/\PV K H v po p/\∀ H',aE H H'->Q (.ref p) H'
section
variable {X:Cx}{T:Tb}{pos:Pos}{i:Nat}{x:Str}
theorem Be (hN:X.N[i]? = some x)(hv:xJ X.env.scope x)(hd:(x==("__debug__" : Str))=false) (hcd:(x==("__classdict__" : Str))=false):PE X (.Name x pos) (mh X.K T i .none):=by
 refine bJ (kT hN hv hd hcd) fun σ H Q ⟨P,env,F,po,v,p,re,hpo,hv,pv,k⟩=>?_
 unfold jb at hpo;cases hpo;cases pv;exact⟨_,hv,k H (aE.refl _)⟩
theorem ze {e:Expr}{c:Ex}{pos':Pos}(hN:X.N[i]? = some x)(hv:xJ X.env.scope x)(hd:(x==("__debug__" : Str))=false) (hcd:(x==("__classdict__" : Str))=false) (he:PE X e (tE X.K T c)) (hs:jW e):PE X (.Subscript (.Name x pos') e pos) (mh X.K T i (.some c)):=by
 refine bJ (z0 (sW.or wu) (kT hN hv hd hcd) he hs) fun σ H Q ⟨P,env,F,po,v,p,re,hpo,hv,pv,k⟩=>?_
 unfold jb at hpo;obtain⟨q,h1,hpo⟩:=Rs.bind_ok hpo;cases hq:q.1 with
 |int j =>
  rw[hq] at hpo;cases hpo;refine⟨v,hv,P,env,F,re,q,h1,fun w H1 G s rpi rti=>?_⟩;rw[hq] at rpi;obtain⟨rfl,_⟩:=rpi.int_inv;cases pv with
  |item h hj e =>
   rename_i r ws n;have hat:AM ws j=some (.ref p):=by
    unfold AM;rw[<-vz,hj];exact e
   rcases h with h | h
   ·exact .inl ⟨r,ws,j,.ref p,rfl,rfl,.inl (aE.rd s h),hat,k H1 s⟩
   ·exact .inr ⟨r,ws,j,.ref p,rfl,rfl,aE.sqT s h,hat,k H1 s⟩
 |_=>rw[hq] at hpo;cases hpo
end
def xI (K:Frag)(m:nk):V->List V->Hp->VK->Prop:=fun x vs H Q=>∃ l ws xs ds Gx G ys,x = .ref l/\H l=some (.lst ws)/\aG K H xs ws Gx/\aG K H ds vs G/\ug m xs ds=some ys/\ys.length<=lim/\l∉Gx/\l∉G/\Gx.Nodup /\
 ∀ us Gy v,aG K (upd H l (.lst us)) ys us Gy->(∀ a∈Gy,a∈Gx\/(m.copies=false/\a∈G))->((∀ a∈Gx,a∉G)->G.Nodup\/m.copies=true->Gy.Nodup)->Q v (upd H l (.lst us))
section
variable {X:Cx}
theorem qd:MtM X "list.append" (xI X.K .append):=by
 intro pins s σ H x vs v us Q I rx rv h;obtain⟨l,ws,xs,ds,Gx,G,ys,rfl,hl,r1,r2,hm,hlen,n1,n2,nd,k⟩:=h
 match ds,hm with
 |[d],hm =>
  cases hm;obtain⟨y,rfl,rp⟩:=r2.of1;refine mI pins s σ H _ _ v us Q I rx rv ⟨l,ws,y,rfl,rfl,hl,?_,k (ws ++ [y]) (Gx++(G ++ [])) _ ?_ (fun a ha=>?_) fun dj o=>?_⟩
  ·rw[<-r1.len];simp only[List.length_append,List.length_singleton] at hlen;exact av (av (gx _) hlen) qA
  ·exact (r1.append (.cons rp .nil)).upd hl (by simp;exact⟨n1,n2⟩)
  ·simp at ha;exact ha.imp id fun z=>⟨rfl,z⟩
  ·rcases o with o | o
   ·rw[bc];exact fb.mpr ⟨nd,o,fun a ha b hb z=>by subst z;exact dj a ha hb⟩
   ·cases o
theorem aG.rev {K:Frag}{H:Hp}:∀{xs:List D}{ws:List V}{G:List Addr},aG K H xs ws G->∃ A,aG K H xs.reverse ws.reverse A/\List.Perm A G
 |_,_,_,.nil=>⟨[],.nil,.refl _⟩
 | _,_,_,.cons (G:=G) (G':=G') h r=>by
  obtain⟨A,p1,p2⟩:=aG.rev r;refine⟨A++(G ++ []),?_,?_⟩
  ·rw[ik,ik];exact p1.append (.cons h .nil)
  ·rw[bc];exact (i5 G p2).trans fq
theorem k9 {T:Tb}{i:Nat}{path:km}{m:nk}{cs:jM}{D:Ends}{σ:L2.St}{H:Hp}(h:tS X.K T (.mut i path m cs) D σ H):wR (tBM X.K "list" (xI X.K m) (mh X.K T i path) (sY X.K T cs)) D σ H:=by
 obtain⟨P,Z,env,F,re,hz,zp,h⟩:=h;unfold aT at h;cases hx:ownAt env i with
 |none=>rw[hx] at h;exact h.elim
 |some d =>
  rw[hx] at h;obtain⟨po,hpo,h⟩:=cP h;cases hat:d.at1 po with
  |none=>rw[hat] at h;exact h.elim
  |some xs =>
   rw[hat] at h;obtain⟨l,hl,h⟩:=cP h;cases hm:ug m xs (l.map (·.1)) with
   |none=>rw[hm] at h;exact h.elim
   |some ys =>
    rw[hm] at h;have hx':=fY hx;obtain⟨v,hv,_⟩:=re.val i d .own hx';obtain⟨p,pv,f⟩:=mo re hx hv hat;refine⟨P,env,F,po,v,p,re,hpo,hv,pv,fun H1 s1=>?_⟩;obtain⟨ws1,g1,e1,_⟩:=f H1 s1;refine⟨.inl ⟨rfl,ws1,.inl (.inl e1)⟩,P,env,F,re.same s1,l,hl,fun vs H2 G ar=>?_⟩;have s2:=s1.trans ar.same;obtain⟨ws,Gx,a1,a2,a3,a4,a5,a6,fs⟩:=f H2 s2;by_cases hroot:(aU (l.map (·.2))).contains i=true
    ·simp only[hroot,if_true] at h;exact h.elim
    simp only[hroot,if_false] at h;have disj:∀ a∈F i,a∉G:=fun a ha hg=>by
     rcases ar.cont a hg with q | ⟨j,d2,t2,m2,e2,sr⟩
     ·exact (re.same s1).nn hx' ha q
     ·exact hroot (by simpa using sr i ((re.one i d .own hx' rfl).2.2 a ha j d2 t2 e2 m2))
    have nG:=disj p a3;refine⟨p,ws,xs,l.map (·.1),Gx,G,ys,rfl,a1,a2,ar.reps,hm,uM h,a6,nG,a5,fun us Gy w rs sub nd=>?_⟩;refine oW (N:=if m.copies then [] else G) re hz zp s2 hx hv a3 (fun R hR ndR=>?_) (fun hN hNd=>?_) h
    ·cases hc:m.copies with
     |true=>exact⟨cy,fun _ h=>(nomatch h),fun _ h=>(nomatch h)⟩
     |false =>
      rw[hc] at hR;obtain⟨n1,n2,n3⟩:=Args.mv (re.same s1) ar hR ndR;exact⟨n1,n2,fun a ha=>(n3 a ha).imp (aE.no s1) id⟩
    ·have ngy:Gy.Nodup:=nd (fun a ha=>disj a (a4 a ha)) (by
      cases hc:m.copies with
      |true=>exact .inr rfl
      |false=>rw[hc] at hNd;exact .inl hNd)
     obtain⟨G',b1,b2,b3⟩:=fs ys us Gy rs ngy (fun z=>(sub p z).elim a6 fun q=>nG q.2) fun a ha=>(sub a ha).imp id fun q z=>disj a z q.2
     refine⟨G',b1,b2,fun a ha=>?_⟩;rcases b3 a ha with q | q
     ·exact .inl q
     ·rcases sub a q with z | ⟨z1,z2⟩
      ·exact .inl (a4 a z)
      ·rw[z1];exact .inr z2
theorem uK {T:Tb}{i:Nat}{path:km}{m:nk}{D:Ends}{σ:L2.St}{H:Hp}(h:tS X.K T (.mut i path m .nil) D σ H):wR (Ei X.K "list" (xI X.K m) (mh X.K T i path)) D σ H:=by
 obtain⟨P,env,F,po,v,p,re,hpo,hv,pv,k⟩:=k9 h;refine⟨P,env,F,po,v,p,re,hpo,hv,pv,fun H' s=>?_⟩;obtain⟨ty,P',env',F',re',l,hl,f⟩:=k H' s;unfold bN at hl;cases hl;exact⟨ty,f [] H' [] (.nil (aE.refl _))⟩
theorem uY {T:Tb}{i:Nat}{path:km}{c e:Ex}{D:Ends}{σ:L2.St}{H:Hp}(h:tS X.K T (.setix i path c e) D σ H):wg (tE X.K T e) (DR (mh X.K T i path) (tE X.K T c) Ac) D σ H:=by
 obtain⟨P,Z,env,F,re,hz,zp,h⟩:=h;unfold aT at h;cases hx:ownAt env i with
 |none=>rw[hx] at h;exact h.elim
 |some d =>
  rw[hx] at h;obtain⟨q,hq,h⟩:=cP h;obtain⟨po,hpo,h⟩:=cP h;cases hat:d.at1 po with
  |none=>rw[hat] at h;exact h.elim
  |some xs =>
   rw[hat] at h;obtain⟨qi,hqi,h⟩:=cP h;cases hqq:qi.1 with
   |int n =>
    rw[hqq] at h;cases hj:fE xs.length n with
    |none=>simp only[hj] at h;exact h.elim
    |some j =>
     simp only[hj] at h;have hx':=fY hx;obtain⟨v,hv,_⟩:=re.val i d .own hx';refine⟨P,env,F,re,q,hq,fun w H1 G s1 rp rt=>?_⟩;have re1:=re.same s1;obtain⟨p,pv,f⟩:=mo re1 hx hv hat;refine⟨P,env,F,po,v,p,re1,hpo,hv,pv,fun H2 s2=>⟨P,env,F,re1.same s2,qi,hqi,fun wi H3 Gi s3 rpi rti=>?_⟩⟩;rw[hqq] at rpi;obtain⟨rfl,_⟩:=rpi.int_inv;obtain⟨ws,Gx,a1,a2,a3,a4,a5,a6,fs⟩:=f H3 (s2.trans s3);have jl:=CI hj;refine⟨p,ws,n,j,rfl,rfl,a1,by rw[<-a2.len];exact hj,?_⟩;have hroots:∀ R,q.2 = .mv R->i∉R->∀ a∈F i,a∉G:=fun R hr hiR a ha hg=>by
      rcases rt.cont a hg with z | ⟨k,d2,t2,m2,e2,sr⟩
      ·exact re.nn hx' ha z
      ·have:=sr i ((re.one i d .own hx' rfl).2.2 a ha k d2 t2 e2 m2);rw[hr] at this;exact hiR this
     have s13:=s2.trans s3;refine oW (N:=G) re hz zp (s1.trans s13) hx hv a3 (fun R hR ndR=>?_) (fun hN hNd=>?_) h
     ·have hr:q.2 = .mv R:=by
       cases hr:q.2 with
       |sh Q=>rw[hr] at hR;cases hR
       |mv Q=>rw[hr] at hR;simp[cU] at hR;rw[hR]
      obtain⟨n1,n2,n3⟩:=rt.mv R hr;exact⟨n1,fun a ha=>let ⟨ws,z⟩:=n2 a ha;⟨ws,s13 _ _ z⟩,n3⟩
     ·obtain⟨u,A,B,C,e1,e2,r1,g⟩:=a2.split (i:=j) (d:=xs[j]) (List.getElem?_eq_getElem jl);subst e2;have hpG:p∉G:=fun z=>hN p z a3
      have pAC:∀ b∈A++C,b≠p:=fun b hb z=>by
       rw[z] at hb;refine a6 ?_;rcases List.mem_append.mp hb with hb | hb
       ·exact ay _ hb
       ·exact ao _ (ao _ hb)
      have rs:=g (upd H3 p (.lst (ws.set j w))) q.1 w G (fun _ _=>ja a1) (ji (ws:=.l _) a1) (fun b hb _ h=>(aF (pAC b hb)).trans h) ((rp.same s13).upd a1 hpG);have gsub:∀ a∈A++(G++C),a∈A++(B++C)\/a∈G:=fun a ha=>by
       simp only[List.mem_append] at ha ⊢;rcases ha with ha | ha | ha
       ·exact .inl (.inl ha)
       ·exact .inr ha
       ·exact .inl (.inr (.inr ha))
      have ng:(A++(G++C)).Nodup:=by
       rw[fb] at a5;obtain⟨nA,nB,nAB⟩:=a5;rw[fb] at nB;obtain⟨_,nC,_⟩:=nB;rw[fb];refine⟨nA,fb.mpr ⟨hNd,nC,fun a ha b hb z=>?_⟩,fun a ha b hb z=>?_⟩
       ·subst z;exact hN a ha (a4 a (by simp[hb]))
       ·subst z;rcases List.mem_append.mp hb with hb | hb
        ·exact hN a hb (a4 a (by simp[ha]))
        ·exact nAB a ha a (by simp[hb]) rfl
      obtain⟨G',b1,b2,b3⟩:=fs (xs.set j q.1) (ws.set j w) _ rs ng (fun z=>(gsub p z).elim a6 hpG) fun a ha=>(gsub a ha).imp id fun z y=>hN a z y
      refine⟨G',b1,b2,fun a ha=>?_⟩;rcases b3 a ha with z | z
      ·exact .inl z
      ·exact (gsub a z).imp (a4 a) id
   |_=>rw[hqq] at h;exact h.elim
end
section
variable {X:Cx}
noncomputable def gX:List String:=["int","bool","tuple"]
theorem ty_type {T:String}(h:T∈gX):typeOf (.type T)=pure (.type "type"):=by
 simp only[gX,List.mem_cons,List.not_mem_nil,or_false] at h;rcases h with rfl | rfl | rfl<;>kernel_rfl
def Dv (K:Frag):List V->Hp->VK->Prop:=fun xs H Q=>∃ x T d G,xs=[x,.ty T]/\T∈gX/\((∀ kvs,d≠.dct kvs)/\(∀ ks,d≠.mpi ks)/\(∀ ks,d≠.mpt ks)/\∀ ks,d≠.mpz ks)/\Rep K H d x G/\Q (.bl (xa T d)) H
theorem t9:eL X (.builtin "isinstance") (Dv X.K):=by
 intro pins s σ H xs us Q I r h;obtain⟨x,T,d,G,rfl,hT,hnd,rp,q⟩:=h;obtain⟨u,w,rfl,rx,rt⟩:=r.two;obtain rfl:w=Value.type T:=rt;have hty:=ty_type hT;have yes:∀{Tx:String},s.TypeIs u Tx->isSubtype (.type Tx) (.type T)=pure true->xa T d=true->wpAny (model X.prog X.w) X.A (call (.builtin "isinstance") [u,.type T]) (EP X pins σ Q) X.xe s:=fun h1 h2 h3 =>
  call_isinstance (isinstance_true hty h2) ⟨h1,⟨.bl true,H,I,rfl,by rw[h3] at q;exact q⟩⟩
 have no:xa T d=false->EP X pins σ Q (.bool false) { s with toks:=s.toks+1 }:=fun h=>⟨.bl false,H,I.tok _,rfl,by rw[h] at q;exact q⟩
 simp only[gX,List.mem_cons,List.not_mem_nil,or_false] at hT;cases d with
 |dct kvs=>exact absurd rfl (hnd.1 kvs)
 |mpi ks=>exact absurd rfl (hnd.2.1 ks)
 |mpt ks=>exact absurd rfl (hnd.2.2.1 ks)
 |mpz ks=>exact absurd rfl (hnd.2.2.2 ks)
 |non =>
  obtain⟨rfl,_⟩:=rp.non_inv;cases rx;rcases hT with rfl | rfl | rfl
  ·exact call_isinstance (isinstance_false_none (by decide) hty F.sub_NoneType_int) (no rfl)
  ·exact call_isinstance (isinstance_false_none (by decide) hty F.sub_NoneType_bool) (no rfl)
  ·exact call_isinstance (isinstance_false_none (by decide) hty F.sub_NoneType_tuple) (no rfl)
 |bl b =>
  obtain⟨rfl,_⟩:=rp.bl_inv;cases rx;rcases hT with rfl | rfl | rfl
  ·exact yes (PySem.typeIs_bool s b) F.sub_bool_int rfl
  ·exact yes (PySem.typeIs_bool s b) F.sub_bool_bool rfl
  ·exact call_isinstance (isinstance_false_bool (by decide) hty F.sub_bool_tuple) (no rfl)
 |int i =>
  obtain⟨rfl,_⟩:=rp.int_inv;obtain⟨t,rfl⟩:=rx;rcases hT with rfl | rfl | rfl
  ·exact yes (typeIs_int s i t) F.sub_int_int rfl
  ·exact call_isinstance (isinstance_false_int (by decide) hty F.sub_int_bool) (no rfl)
  ·exact call_isinstance (isinstance_false_int (by decide) hty F.sub_int_tuple) (no rfl)
 |str z =>
  obtain⟨rfl,_⟩:=rp.str_inv;obtain⟨t,rfl⟩:=rx;rcases hT with rfl | rfl | rfl
  ·exact call_isinstance (isinstance_false_str (by decide) hty F.sub_str_int) (no rfl)
  ·exact call_isinstance (isinstance_false_str (by decide) hty F.sub_str_bool) (no rfl)
  ·exact call_isinstance (isinstance_false_str (by decide) hty F.sub_str_tuple) (no rfl)
 |lst ds =>
  obtain⟨p,vs,g,rfl,_,a1,_⟩:=rp.lst_inv;cases rx;obtain⟨its,_,pl,_⟩:=I.list (.inl a1);obtain⟨o,ho,hc,_⟩:=pl.isList;rcases hT with rfl | rfl | rfl
  ·exact call_isinstance (isinstance_false_list (by decide) hty F.sub_list_int) ⟨⟨o,ho,hc⟩,no rfl⟩
  ·exact call_isinstance (isinstance_false_list (by decide) hty F.sub_list_bool) ⟨⟨o,ho,hc⟩,no rfl⟩
  ·exact call_isinstance (isinstance_false_list (by decide) hty F.sub_list_tuple) ⟨⟨o,ho,hc⟩,no rfl⟩
 |tup ds =>
  obtain⟨p,vs,rfl,a1,_⟩:=rp.tup_inv;cases rx;obtain⟨its,_,pl,_⟩:=I.tuple a1;obtain⟨o,ho,hc,_⟩:=pl;rcases hT with rfl | rfl | rfl
  ·exact call_isinstance (isinstance_false_tuple (by decide) hty F.sub_tuple_int) ⟨⟨o,ho,hc⟩,no rfl⟩
  ·exact call_isinstance (isinstance_false_tuple (by decide) hty F.sub_tuple_bool) ⟨⟨o,ho,hc⟩,no rfl⟩
  ·exact yes ⟨o,ho,hc⟩ F.sub_tuple_tuple rfl
theorem wB {T:Tb}{b:String}{c:Ex}{σ:L2.St}{H:Hp}{Q:VK}(hb:b∈gX)(h:tE X.K T (.blt (.isi b) (.cons c .nil)) σ H Q):AZ (Dv X.K) (dF (tE X.K T c) (dF (tC (.ty b)) pW)) σ H Q:=by
 obtain⟨P,env,F,re,p,hev,k⟩:=h;unfold ev bN bN at hev;obtain⟨l,h1,hev⟩:=Rs.bind_ok hev;obtain⟨q,h2,h1⟩:=Rs.bind_ok h1;cases h1;obtain⟨d',h3,hev⟩:=Rs.bind_ok hev;have h3:iL (.isi b) [q.1]=some d':=cL h3;have hnd:(∀ kvs,q.1≠.dct kvs)/\(∀ ks,q.1≠.mpi ks)/\(∀ ks,q.1≠.mpt ks)/\∀ ks,q.1≠.mpz ks:=⟨fun kvs e=>(by rw[e] at h3;cases h3),fun kvs e=>(by rw[e] at h3;cases h3),fun kvs e=>(by rw[e] at h3;cases h3),fun kvs e=>(by rw[e] at h3;cases h3)⟩;have hd:d' = .bl (xa b q.1):=by
  cases hq:q.1 with
  |dct kvs=>exact absurd hq (hnd.1 kvs)
  |mpi ks=>exact absurd hq (hnd.2.1 ks)
  |mpt ks=>exact absurd hq (hnd.2.2.1 ks)
  |mpz ks=>exact absurd hq (hnd.2.2.2 ks)
  |_=>rw[hq] at h3;cases h3;rfl
 subst hd;cases hev;exact⟨P,env,F,re,q,h2,fun v H1 G s rp rt=>⟨v,b,q.1,G,rfl,hb,hnd,rp,k _ H1 [] s (.bl _) bP.nil⟩⟩
theorem lM:∀{ds:List D}{a r:Int},qx a ds=some r->∃ ns:List Int,ds=ns.map D.int/\r=a+ns.sum
 |[],a,r,h=>by cases h;exact⟨[],rfl,by simp⟩
 | .int i::ds,a,r,h=>by
  obtain⟨ns,rfl,rfl⟩:=lM (ds:=ds) (a:=a+i) h;exact⟨i::ns,rfl,by rw[List.sum_cons];omega⟩
 |.non::_,_,_,h=>by cases h
 |.bl _::_,_,_,h=>by cases h
 |.str _::_,_,_,h=>by cases h
 |.lst _::_,_,_,h=>by cases h
 |.tup _::_,_,_,h=>by cases h
theorem j7 {K:Frag}{H:Hp}:∀{ns:List Int}{vs:List V}{G:List Addr}{us:List Value},aG K H (ns.map D.int) vs G->aL vs us->us.length=ns.length/\∀ i u,us[i]? = some u->∃ t,u=Value.int (ns.getD i 0) t
 |[],_,_,_,.nil,.nil=>⟨rfl,fun i u h=>by simp at h⟩
 | n::ns,_,_,_,.cons h r,.cons x y=>by
  obtain⟨rfl,_⟩:=h.int_inv;obtain⟨t,rfl⟩:=x;obtain⟨a,b⟩:=j7 r y;refine⟨by simp[a],fun i u h=>?_⟩;cases i with
  |zero=>simp at h;exact⟨t,by simp[<-h]⟩
  |succ i =>
   obtain⟨t',e⟩:=b i u (by simpa using h);exact⟨t',by simpa using e⟩
theorem uy (hc:X.calm=true):eL X (.builtin "sum") (pC X.K .sum):=by
 intro pins s σ H xs us Q I r h;obtain⟨ds,d,G,rs,hd,k⟩:=h
 match ds,hd with
 |[.lst ys],hd =>
  simp only[iL,zV] at hd;rw[aa] at hd;obtain⟨b,hb',rfl⟩:=hd;obtain⟨ns,rfl,rfl⟩:=lM hb';obtain⟨x,rfl,rp⟩:=rs.of1;obtain⟨p,vs,g,rfl,rfl,a1,a2⟩:=rp.lst_inv;obtain⟨u,rfl,ru⟩:=r.one;cases ru;obtain⟨its,rv,pl,_⟩:=I.list (.inl a1);obtain⟨hl,hv⟩:=j7 a2 rv;have hlt:p<s.heap.objs.size:=by
   obtain⟨o,ho,_⟩:=pl.isList;exact Heap.lt_size ho
  refine call_sum_walkG (wpAny_pyIter_list pl.isList ⟨s.heap.objs.size,[s.heap.objs.size,p],[s.heap.objs.size],its.toArray.size,_,_,fun i=>ns.getD i 0,rfl,Walks.list (A:=X.A.in1) (show X.A.in1.handled=none from I.ok.hd hc) s.heap.objs.size p (bh hlt) its.toArray,⟨⟨_,Heap.get?_push_size _ rfl,rfl,rfl⟩,pl.isList.at fun o e=>Heap.get?_push_of_some _ e⟩,fun b hb=>?_,fun i v hP=>?_,fun h' tk t' hk=>?_⟩)
  ·simp only[List.mem_cons,List.not_mem_nil,or_false] at hb;rw[Heap.size_push];rcases hb with rfl | rfl
   ·exact gx _
   ·exact fu hlt
  ·have hP:its.toArray[i]? = some v:=hP;rw[List.getElem?_toArray] at hP;exact hv i v hP
  ·rw[preSum_getD,ak,hl,List.take_length];refine⟨.int ns.sum,H,?_,⟨_,rfl⟩,by have:=k (.int (0+ns.sum)) H [] (.int _) gS.nil;rwa [Int.zero_add] at this⟩;have I1:Inv X pins σ H { s with heap:=s.heap.push { cls:=.type "list_iterator",data:=.fields #[.ref p,.int 0 0] } }:=I.kept (t':=s.toks) fun b o e=>Heap.get?_push_of_some _ e
   obtain⟨f0,f1,f2,f3,f4,f5⟩:=I.fpOk (b:=s.heap.objs.size) (aj _) (I.hok.fresh (aj _));exact I1.turned (t':=tk) (fun b o hb e=>hk b o (by simpa using hb) e) f0 f1 f3 f4 f5
end
section
variable {X:Cx}{T:Tb}
theorem jE.map {K:Frag}{H:Hp}(k:Int){m:MV}{v:V}(hm:uP K H m v):∀{q:List (Int×MV)}{x:List (Key×V)},jE K H q x->jE K H (q.map fun z=>if z.1=k then (z.1,m) else z) (x.map fun z=>if z.1=Sum.inl k then (z.1,v) else z)
 |[],[],_=>trivial
 | (j,n)::q,p::x,⟨a,b,c⟩=>by
  refine⟨?_,?_,c.map k hm⟩
  ·show (if p.1=Sum.inl k then (p.1,v) else p).1=Sum.inl (if j=k then (j,m) else (j,n)).1;rw[show (if p.1=Sum.inl k then (p.1,v) else p).1=p.1 by split<;>rfl,show (if j=k then (j,m) else (j,n)).1=j by split<;>rfl];exact a
  ·show uP K H (if j=k then (j,m) else (j,n)).2 (if p.1=Sum.inl k then (p.1,v) else p).2;by_cases e:j=k
   ·rw[if_pos e,if_pos (by rw[a,<-e])];exact hm
   ·rw[if_neg e,if_neg (by rw[a];exact fun z=>e (by injection z))];exact b
 |[],_::_,h=>h.elim
 |_::_,[],h=>h.elim
theorem jE.snoc {K:Frag}{H:Hp}(k:Int){m:MV}{v:V}(hm:uP K H m v):∀{q:List (Int×MV)}{x:List (Key×V)},jE K H q x->jE K H (q ++ [(k,m)]) (x ++ [(.inl k,v)])
 |[],[],_=>⟨rfl,hm,trivial⟩
 |_::_,_::_,⟨a,b,c⟩=>⟨a,b,c.snoc k hm⟩
 |[],_::_,h=>h.elim
 |_::_,[],h=>h.elim
theorem jE.put {K:Frag}{H:Hp}(k:Int){m:MV}{v:V}(hm:uP K H m v){q:List (Int×MV)}{x:List (Key×V)}(h:jE K H q x):jE K H (yF q k m) (putK x (.inl k) v):=by
 unfold yF putK;rw[h.any k];split
 ·exact h.map k hm
 ·exact h.snoc k hm
theorem mf {K:Frag}{H:Hp}:∀ ks:List (Int×MV),aG K H (ks.map fun q=>D.int q.1) (ks.map fun q=>V.int q.1) []
 |[]=>.nil
 |k::ks=>.cons (G:=[]) (G':=[]) (.int k.1) (mf ks)
theorem mn {P:Program}{w:World}{K:Frag}{H:Hp}:∀{ks:List (Int×MV)}{xs:List (Key×V)}{vs:List (Key×Value)}{us:List Value},jE K H ks xs->KV xs vs->us.length=vs.length->(∀(j:Nat) u,us[j]? = some u->∃ k x,vs[j]? = some (k,x)/\(cJ P w).is k u=true)->aL (ks.map fun q=>V.int q.1) us
 | [],[],_,us,_,r,hl,_=>by
  cases r;rw[List.length_eq_zero_iff.mp hl];exact .nil
 |[],_::_,_,_,h,_,_,_=>h.elim
 |_::_,[],_,_,h,_,_,_=>h.elim
 | (k,m)::ks,x::xs,_,us,⟨hk0,_,kr⟩,r,hl,h=>by
  have r:Paired _ (x::xs) _:=r;cases r with
  |@cons _ q _ qs h1 t =>
   cases us with
   |nil=>cases hl
   |cons u us =>
    obtain⟨k',y,e,hk⟩:=h 0 u rfl;have e:some q=some (k',y):=e;cases e;have h1:x.1=k':=h1.1;rw[hk0] at h1;have h1:(Sum.inl k:Key)=k':=h1;subst h1;obtain⟨i,t',e1,e2⟩ | ⟨x',t',e1,_⟩:=bM (show kQ (.inl k) u=true from hk)
    ·cases e1;exact .cons ⟨t',e2⟩ (mn kr t (Nat.succ.inj hl) fun j u hu=>h (j+1) u hu)
    ·cases e1
theorem qp (hc:X.calm=true):eL X (.type "list") (pC X.K .list):=by
 intro pins s σ H xs us Q I r h;obtain⟨ds,d,G,rs,hd,k⟩:=h;by_cases hm:∃ ks,ds=[.mpi ks]
 ·obtain⟨ks,rfl⟩:=hm;have hd:(if ks.length<=lim then some (D.lst (ks.map fun q=>D.int q.1)) else none)=some d:=hd;by_cases hl:ks.length<=lim
  ·rw[if_pos hl] at hd;cases hd;obtain⟨x,rfl,rp⟩:=rs.of1;obtain⟨u,rfl,rx⟩:=r.one;cases rp with
   |@mpi p _ xs hr kr =>
    obtain rfl:u = .ref p:=rx;obtain⟨z,lo,vs,rel,dd⟩:=Au I.hok (.inl hr);obtain⟨ep,hat⟩:=dd.dictAt;have hlen:vs.length=ks.length:=by rw[<-rel.length,kr.len]
    refine PySem.W.kdl_call (PySem.W.kdl_dict (knd:=cJ X.prog X.w) (kvs:=vs) (ep:=ep) lo) (I.ok.hd hc) hat (by rw[hlen,sizeLine_eq];unfold lim at hl;omega) fun h' tk acc c hk hD hacc=>?_
    have hv:aL (ks.map fun q=>V.int q.1) acc.toList:=mn kr rel (by rw[bp];exact hacc.1) fun j u hu=>hacc.2 j u (by rw[<-Array.getElem?_toList];exact hu)
    refine⟨.ref s.heap.objs.size,upd H s.heap.objs.size (.lst (ks.map fun q=>V.int q.1)),I.laid hk (aj _) ⟨by rw[ai,sizeLine_eq];unfold lim at hl;omega,acc.toList,c,hv,by rw[hD,ie]⟩,rfl,?_⟩;obtain⟨n1,n2⟩:=gF (G0:=[p]) (mf (K:=X.K) (H:=H) ks) (fun a ha=>nomatch ha) I.fresh;exact k _ _ _ n1 n2
  ·rw[if_neg hl] at hd;cases hd
 ·exact oU I r rs hd k fun ks e=>hm ⟨ks,e⟩
end
theorem bU.live' {P:Program}{w:World}{H:Hp}{h:Heap}{a:Addr}{o:HO}(x:bU P w H h a o):∃ ob,h.get? a=some ob:=by
 cases o with
 |lst xs=>obtain⟨_,_,_,_,e⟩:=x;exact⟨_,e⟩
 |tup xs=>obtain⟨_,_,_,ob,e,_⟩:=x;exact⟨_,e⟩
 |dK kvs=>obtain⟨_,_,_,_,o,_,_,e,_⟩:=x;exact⟨_,e⟩
 |dT kvs=>obtain⟨_,_,_,_,o,_,_,e,_⟩:=x;exact⟨_,e⟩
 |set S n=>obtain⟨o,_,_,_,e,_⟩:=x;exact⟨_,e⟩
 |ins C dx fs=>obtain⟨_,_,_,e,_⟩:=x;exact⟨_,e⟩
 |own y=>obtain⟨_,e⟩:=x;exact⟨_,e⟩
 |xd fs=>obtain⟨_,⟨_,_,_,e,_⟩,_⟩:=x;exact⟨_,e⟩
 |rng lo hi=>obtain⟨_,_,_,e⟩:=x;exact⟨_,e⟩
 |frz ob u=>obtain⟨e,q⟩:=x;cases u with
  |tbl ps=>obtain⟨_,e,_⟩:=q;exact⟨_,e⟩
  |_=>exact⟨ob,e⟩
 |tbl ps=>obtain⟨_,e,_⟩:=x;exact⟨_,e⟩
 |met f y=>exact⟨_,(show h.get? a=some _ from x)⟩
 |ext φ=>obtain⟨_,⟨_,e⟩,_⟩:=x;exact⟨_,e⟩
theorem pI {X:Cx}{pins:List (Addr×Obj)}{σ:L2.St}{H:Hp}{s:Shared}{h':Heap}{m:Str->Option Value}{B:Addr}{o:HO}{t':Nat}(I:Inv X pins σ H s)(hn:s.heap.Ns X.env.locals m)(hn':h'.Ns X.env.locals m)
  (k:∀ b o,b≠X.env.locals->s.heap.get? b=some o->h'.get? b=some o) (hB:∀ b o,s.heap.get? b=some o->b≠B) (new:bU X.prog X.w (upd H B o) h' B o):Inv X pins σ (upd H B o) { s with heap:=h',toks:=t' }:=by
 have hnB:H B=none:=by
  cases e:H B with
  |none=>rfl
  |some u =>
   obtain⟨ob,q⟩:=bU.live' (I.hok B u e);exact absurd rfl (hB B ob q)
 have nL:∀ b u,H b=some u->b≠X.env.locals:=fun b u e z=>by rw[z,I.free] at e;cases e
 refine I.step (g':=s.gens) (d':=s.drawn) (ch:=[]) (fun b hb=>nomatch hb) (fun b o' hL _ _ e _=>k b o' hL e) (fun b o' hL _ _ e _=>⟨o'.slots,k b o' hL e⟩) (fun b o' _ e n=>by rw[aF (hB b o' e)];exact n) (fun b o' _ e=>?_)
  (fun b xs e=>by rw[aF (aS e hnB)];exact e) (fun b ob u e=>by rw[aF (aS e hnB)];exact e) (fun b ps e=>⟨#[],by rw[aF (aS e hnB),e];simp⟩) (fun m' hm=>?_) (fun b u e=>?_) I.bare
 ·by_cases hL:b=X.env.locals
  ·subst hL;obtain⟨o2,_,_,q,_⟩:=hn';exact⟨o2,q⟩
  ·exact⟨o',k b o' hL e⟩
 ·obtain⟨o1,es,ep,e1,e2,e3,e4⟩:=hn;obtain⟨o2,es',ep',f1,f2,f3,f4⟩:=hm;rw[e1] at f1;cases f1;rw[e2] at f2;cases f2;have:m'=m:=funext fun x=>by rw[<-f4 x,e4 x]
  rw[this];exact hn'
 ·by_cases hb:b=B
  ·subst hb;rw[aK] at e;cases e;exact new
  ·rw[aF hb] at e;refine (I.hok b u e).stay (fun c v hc q=>k c v ?_ q) (fun c q=>?_) fun c xs q=>?_
   ·rcases hc with z | z
    ·rw[z];exact nL b u e
    ·exact nL c _ z
   ·rw[aF (aS q hnB)];exact q
   ·rw[aF (aS q hnB)];exact q
section
variable {prog:Program}{w:World}{A:Around}
end
section
variable {X:Cx}{pins:List (Addr×Obj)}{σ:L2.St}{H:Hp}{s:Shared}
end
theorem insI_perm (a:Int):∀ l:List Int,(insI a l).Perm (a::l)
 |[]=>.refl _
 | b::l=>by
  unfold insI;split
  ·exact .refl _
  ·exact ((insI_perm a l).cons b).trans (.swap a b l)
theorem bQ:∀ l:List Int,(bZ l).Perm l
 |[]=>.refl _
 |a::l=>(insI_perm a _).trans ((bQ l).cons a)
theorem oP (a:Int):∀{l:List Int},l.Pairwise (·<=·)->(insI a l).Pairwise (·<=·)
 |[],_=>List.pairwise_singleton _ _
 | b::l,h=>by
  have h':=List.pairwise_cons.mp h;unfold insI;split
  ·rename_i e;refine List.pairwise_cons.mpr ⟨fun x hx=>?_,h⟩;rcases gc.mp hx with rfl | hx
   ·exact e
   ·exact ij e (h'.1 x hx)
  ·rename_i e;refine List.pairwise_cons.mpr ⟨fun x hx=>?_,oP a h'.2⟩;rcases gc.mp ((insI_perm a l).mem_iff.mp hx) with rfl | hx
   ·omega
   ·exact h'.1 x hx
theorem hU:∀ l:List Int,(bZ l).Pairwise (·<=·)
 |[]=>.nil
 |a::l=>oP a (hU l)
theorem fG:∀{ns:List Int}{us:List Value},aL (ns.map V.int) us->IntsAre us ns
 |[],us,h=>by cases h;exact .nil
 | n::ns,us,h=>by
  cases h with
  |cons a b =>
   obtain⟨t,rfl⟩:=a;exact .cons _ t (fG b)
theorem jk:∀{ns:List Int}{us:List Value},IntsAre us ns->aL (ns.map V.int) us
 |[],us,h=>by cases h;exact .nil
 | n::ns,us,h=>by
  cases h with
  |cons _ t b=>exact .cons ⟨t,rfl⟩ (jk b)
section
variable {X:Cx}
end
end Pc
end
section
end
section
namespace Pc
open PySem PySem.Spec PyProof.Rows L2
structure StrIt (ty:String):Prop where
 item:∀{prog:Program}{w:World}{A:Around}{E:Value->Shared->Prop}{s:Shared}{it:Addr}{x:Str}{t:Tok}{i c:Nat}{Q:Value->Shared->Prop},s.heap.IsStrIter it ty x t i->x.cps[i]? = some c ->
  (∀ h',h'.IsStrIter it ty x t (i+1)->Heap.SameBut it s.heap h'->Q (.str ⟨#[c]⟩ s.toks) { s with heap:=h',toks:=s.toks+1 })->wpAny (model prog w) A (Builtin.SmallTypes.nextOf (.ref it)) Q E s
 done:∀{prog:Program}{w:World}{A:Around}{E:Value->Shared->Prop}{s:Shared}{it:Addr}{x:Str}{t:Tok}{i:Nat}{Q:Value->Shared->Prop},A.handled=none->s.heap.IsStrIter it ty x t i->x.cps[i]? = none ->
  (∀ h' e,Heap.ExtBut it s.heap h'->(∃ o,h'.get? e=some o/\o.cls = .type "StopIteration")->E (.ref e) { s with heap:=h' })->wpAny (model prog w) A (Builtin.SmallTypes.nextOf (.ref it)) Q E s
 n1:ty≠"list"
section
variable {prog:Program}{w:World}{A:Around}{E:Value->Shared->Prop}{s:Shared}{z TI TO i1 i2 l1:Addr}{k1 k2:Nat}{xs:Array Value}{x a b:Value}{y:Str}{t:Tok}{c:Nat}{ty:String}
end
section
variable {prog:Program}{w:World}{A:Around}{E:Value->Shared->Prop}{s:Shared}
end
section
variable {X:Cx}{T:Tb}
end
section
variable {X:Cx}{T:Tb}
end
theorem zv:typeLookup (.type "list_reverseiterator") "__len__" = pure none:=by rw[typeLookup_type,builtinLookup_eq_fast];kernel_rfl
theorem xj:typeLookup (.type "list_reverseiterator") "__length_hint__" = pure (some (.builtin "list_reverseiterator.__length_hint__")):=by rw[typeLookup_type,builtinLookup_eq_fast];kernel_rfl
section
variable {prog:Program}{w:World}{A:Around}{E:Value->Shared->Prop}{s:Shared}
theorem uU {I:Addr}{Q:Bool->Shared->Prop}(hT:s.TypeIs (.ref I) "list_reverseiterator") (h:Q false s):wpAny (model prog w) A (Builtin.List.listLengthHint (.ref I)) Q E s:=by
 unfold Builtin.List.listLengthHint;refine wpAny_bind (wpAny_specialOf hT zv ?_)
 wp_delta
 refine wpAny_bind (wpAny_specialOf hT xj ?_);generalize hid:("list_reverseiterator.__length_hint__" : String)=id0
 wp_delta
 rw[show splitId id0=some ("list_reverseiterator","__length_hint__") from by subst hid;decide +kernel];subst hid;refine wpAny_bind (wpAny_isInstance (T:="list_reverseiterator") (b:=true) hT (by rw[isSubtype_type];kernel_rfl) ?_);refine wpAny_ite_split (fun hab=>absurd hab (by decide)) (fun _=>?_);refine wpAny_ite_split (fun _=>?_) (fun hab=>absurd (by decide +kernel) hab);refine wpAny_ite_split (fun hab=>absurd hab (by decide +kernel)) (fun _=>wpAny_pure h)
theorem qH {R:Result->Shared->Prop}{l I S:Addr}{items:Array Value}(hh:A.handled=none)(hit:s.heap.IsRevIter I l ((items.size:Int) - 1))(hl:s.heap.IsList l items)(hn:items.size<=sizeLine)(res:Value)(c₀:Nat)(hS:s.heap.get? S=some { cls:=.type "list",data:=.seq #[] c₀ }) (hSl:S≠l)
  (hR:∀ h' tk acc' c',(∀ b o,b≠S->b≠I->s.heap.get? b=some o->h'.get? b=some o)->h'.get? S=some { cls:=.type "list",dict:=none,data:=.seq acc' c',slots:=#[] } ->
   ItemsOf (fun i v=>items[items.size - 1 - i]? = some v) acc' items.size->R (.ok (.ret res)) { s with heap:=h',toks:=tk }) :
  wpAny (model prog w) A.in1 (Builtin.List.listExtendWith (.ref S) (.ref I) res)
   (fun fin s'=>match fin with | .done f=>R (.ok f) s' | .again c'=>c'.quiet=true/\codeAny (model prog w) A c' R s') (fun e s'=>R (.error e) s') s:=by
 have hSI:S≠I:=by
  obtain⟨o,ho,hc,_⟩:=hit;exact qm hS ho (by rw[hc];simp)
 have hlI:l≠I:=by
  obtain⟨o,ho,hc,_⟩:=hit;obtain⟨o',ho',hc',_⟩:=hl;exact qm ho' ho (by rw[hc,hc'];simp)
 have hSf:S∉[I,l]:=by simp[hSI,hSl]
 unfold Builtin.List.listExtendWith;refine wpAny_bind (wpAny_typeOf (T:="list_reverseiterator") hit.typeIs ?_);have h1:Builtin.List.listSameRef (.ref S) (.ref I)=false:=by simp[Builtin.List.listSameRef,hSI]
 have h2:(Value.type "list_reverseiterator" == Value.type "list")=false:=by decide
 have h3:(Value.type "list_reverseiterator" == Value.type "tuple")=false:=by decide
 simp only[h1,h2,h3,Bool.or_false,Bool.false_eq_true,if_false];refine wpAny_bind (wpAny_pyIter_revIter hit ?_);refine wpAny_bind (wpAny_holding (uU hit.typeIs ?_));rw[if_neg (by decide +kernel)];have hst:(fun (i:Nat) (h:Heap)=>i<=items.size/\h.IsRevIter I l ((items.size:Int) - 1 - (i:Int))/\h.IsList l items) 0 s.heap:=⟨cq _,by
  have e:(items.size:Int) - 1 - ((0:Nat):Int)=(items.size:Int) - 1:=by omega
  rw[e];exact hit,hl⟩
 refine wpAny_pure ⟨plainId_quiet F.plain_extend_loop _,codeAny_extend_loopS (Walks.listRev (prog:=prog) (w:=w) (A:=A.in1) hh I l hlI items).toS hn _ hSf _ items.size 0 _ _ _ rfl (cq _) hst hS (ItemsOf.nil _) fun s' acc' c' hm hS' hacc=>?_⟩;rw[Moved.eq_with hm];refine hR s'.heap s'.toks acc' c' (fun b ob hb hbI e=>hm.heap b ob (fun hmem=>?_) e) hS' hacc;rcases gc.mp hmem with e' | hmem
 ·exact hb e'
 ·exact hbI (List.mem_singleton.mp hmem)
theorem wC {R:Result->Shared->Prop}{l I S:Addr}{items:Array Value}(hh:A.handled=none)(hit:s.heap.IsRevIter I l ((items.size:Int) - 1))(hl:s.heap.IsList l items)(hn:items.size<=sizeLine)(hS:s.heap.get? S=some { cls:=.type "list",data:=.seq #[] }) (hSl:S≠l)
  (hR:∀ h' tk acc' c',(∀ b o,b≠S->b≠I->s.heap.get? b=some o->h'.get? b=some o)->h'.get? S=some { cls:=.type "list",dict:=none,data:=.seq acc' c',slots:=#[] } ->
   ItemsOf (fun i v=>items[items.size - 1 - i]? = some v) acc' items.size->R (.ok (.ret .none)) { s with heap:=h',toks:=tk }) :
  wpAny (model prog w) A.in1 (Builtin.«list.__init__» ⟨[.ref S,.ref I],[]⟩)
   (fun fin s'=>match fin with | .done f=>R (.ok f) s' | .again c'=>c'.quiet=true/\codeAny (model prog w) A c' R s') (fun e s'=>R (.error e) s') s:=by
 have hSI:S≠I:=by
  obtain⟨o,ho,hc,_⟩:=hit;exact qm hS ho (by rw[hc];simp)
 show wpAny _ _ (do let old <- Builtin.List.listItems (.ref S);Builtin.List.listUpdate (.ref S) (fun _=>#[]);letGo old.toList.reverse;Builtin.List.listExtendWith (.ref S) (.ref I) .none) _ _ s;refine wpAny_bind ?_;unfold Builtin.List.listItems;refine wpAny_bind (wpAny_seqItems hS rfl (wpAny_pure ?_));show wpAny _ _ (updateSeq S (fun _=>#[]) >>= fun _=>letGo (#[]:Array Value).toList.reverse >>= fun _=>Builtin.List.listExtendWith (.ref S) (.ref I) .none) _ _ s;refine wpAny_bind (wpAny_updateSeq hS rfl ?_);have hS₂:=Heap.get?_update_self (Obj.mapSeq (fun _=>(#[]:Array Value))) hS rfl;have oth:∀ b o,b≠S->s.heap.get? b=some o->(s.heap.update S (Obj.mapSeq (fun _=>(#[]:Array Value)))).get? b=some o :=
  fun b o hb e=>(Heap.get?_update_other _ _ (eg hb)).trans e
 refine wpAny_bind (wpAny_letGo ?_);refine qH hh (hit.at fun o e=>oth I o (eg hSI) e) (hl.at fun o e=>oth l o (eg hSl) e) hn .none _ hS₂ hSl fun h' tk acc' c' hk hS' hacc=>?_
 exact hR h' tk acc' c' (fun b o hb hbI e=>hk b o hb hbI (oth b o hb e)) hS' hacc
theorem pV {Q:Value->Shared->Prop}{l I:Addr}{items:Array Value}(hh:A.handled=none)(hit:s.heap.IsRevIter I l ((items.size:Int) - 1))(hl:s.heap.IsList l items)(hn:items.size<=sizeLine)
  (hQ:∀ h' tk acc' c',(∀ b o,b≠I->s.heap.get? b=some o->h'.get? b=some o) ->
   h'.get? s.heap.objs.size=some { cls:=.type "list",dict:=none,data:=.seq acc' c',slots:=#[] }->ItemsOf (fun i v=>items[items.size - 1 - i]? = some v) acc' items.size->Q (.ref s.heap.objs.size) { s with heap:=h',toks:=tk }) :
  wpAny (model prog w) A (call (.type "list") [.ref I]) Q E s:=by
 have hlt:l<s.heap.objs.size:=by
  obtain⟨o,ho,_⟩:=hl;exact Heap.lt_size ho
 refine callType_codes (Q₁:=fun obj s₁=>obj = .ref s.heap.objs.size/\s₁={ s with heap:=s.heap.push { cls:=.type "list",data:=.seq #[] } }) F.called_list (F.typeCall_list_1 _) F.entry_list_init
  (code_list_new _ ⟨rfl,rfl⟩) fun obj s₁ h₁=>?_
 obtain⟨rfl,rfl⟩:=h₁;have hS:(s.heap.push { cls:=.type "list",data:=.seq #[] }).get? s.heap.objs.size=some { cls:=.type "list",data:=.seq #[] }:=Heap.get?_push_size _ rfl;refine⟨⟨_,hS,rfl⟩,F.args_list_init_2 _ _,wC (A:=A.in1) hh (hit.at fun o e=>Heap.get?_push_of_some _ e) (hl.at fun o e=>Heap.get?_push_of_some _ e) hn hS (i4 hlt) fun h' tk acc' c' hk hS' hacc=>?_⟩;exact⟨rfl,hQ h' tk acc' c' (fun b o hbI e=>hk b o (bh (Heap.lt_size e)) hbI (Heap.get?_push_of_some _ e)) hS' hacc⟩
end
theorem uG {items acc:Array Value}(h:ItemsOf (fun i v=>items[items.size - 1 - i]? = some v) acc items.size):acc=items.toList.reverse.toArray:=by
 obtain⟨h1,h2⟩:=h;apply Array.ext
 ·simp[h1]
 ·intro i hi hi';have:=h2 i acc[i] (by simp[hi]);have hlt:items.size - 1 - i<items.size:=by omega
  have this:items[items.size - 1 - i]? = some acc[i]:=this;rw[Array.getElem?_eq_getElem hlt] at this;have e:=br this;rw[<-e];simp
section
variable {X:Cx}{T:Tb}
theorem yQ {e:Expr}{c:Ex}{p q pos pos':Pos}(hc:X.calm=true)(hg:Gl X "list") (hm:X.mg "list" = none) (hg':Gl X "reversed") (hm':X.mg "reversed" = none) (ha:PA X [e] (sY X.K T (.cons c .nil))) (hs:starEach [e] X.env=(false,eval e X.env)::starEach [] X.env) :
  PE X (.Call (.Name "list" p) [.Call (.Name "reversed" q) [e] [] pos'] [] pos) (tE X.K T (.blt .lrev (.cons c .nil))):=by
 intro pins s σ H Q I h;obtain⟨P,env,F,re,r,hev,k⟩:=h;unfold ev at hev;obtain⟨l,h1,hev⟩:=Rs.bind_ok hev;obtain⟨d,h2,hev⟩:=Rs.bind_ok hev;have h2:=cL h2;cases hev;have hl:∃ r ys,l=[r]/\r.1 = .lst ys/\d = .lst ys.reverse:=by
  unfold bN at h1;obtain⟨r,e1,h1⟩:=Rs.bind_ok h1;obtain⟨l',e2,h1⟩:=Rs.bind_ok h1;unfold bN at e2;cases e2;cases h1;cases hr:r.1<;>simp[iL,vw,hr] at h2
  exact⟨r,_,rfl,hr,h2.symm⟩
 obtain⟨r,ys,rfl,hr,rfl⟩:=hl;refine Call_ (eI I hg hm boot_list (bz ?_ rfl rfl));show wpAny _ _ (spliced ((false,eval (.Call (.Name "reversed" q) [e] [] pos') X.env) :: [])) _ _ s;refine Calls.spliced_cons ?_;refine Call_ (eI I hg' hm' boot_reversed (bz (cC (ha pos' pins s σ H (fun vs H'=>∃ G,Args X.K env F H H' [r] vs G) I ⟨P,env,F,re,[r],h1,fun vs H' G ar=>⟨G,ar⟩⟩) fun us s1 ⟨vs,H1,I1,r1,G,ar⟩=>?_) hs rfl));have rs:aG X.K H1 [r.1] vs G:=ar.reps;obtain⟨x,rfl,rp⟩:=rs.of1;rw[hr] at rp;obtain⟨a,vs,g,rfl,rfl,a1,a2⟩:=rp.lst_inv;obtain⟨u,rfl,ru⟩:=r1.one;cases ru;obtain⟨its,rv,pl,hz⟩:=I1.list (.inl a1);have hlen:=rv.length;have hnew:(s1.heap.push (revObj a ((its.toArray.size:Int) - 1))).IsRevIter s1.heap.objs.size a ((its.toArray.size:Int) - 1):=⟨_,Heap.get?_push_size _ rfl,rfl,rfl⟩;have hli:(s1.heap.push (revObj a ((its.toArray.size:Int) - 1))).IsList a its.toArray:=pl.isList.at fun o e=>Heap.get?_push_of_some _ e
 have hsz:(s1.heap.push (revObj a ((its.toArray.size:Int) - 1))).objs.size=s1.heap.objs.size+1:=Heap.size_push ..;refine call_reversed_list pl.isList (Calls.spliced_nil (pV (s:={ s1 with heap:=s1.heap.push (revObj a ((its.toArray.size:Int) - 1)) }) (I1.ok.hd hc) hnew hli (by rw[ak,<-hlen];exact hz) fun h' tk acc' c' hk hS hacc=>?_));have hacc:=uG hacc;subst hacc;rw[show its.toArray.toList=its from rfl] at hS;have I2:Inv X pins σ H1 { s1 with heap:=s1.heap.push (revObj a ((its.toArray.size:Int) - 1)) }:=I1.kept (t':=s1.toks) fun b o e=>Heap.get?_push_of_some _ e
 have hS0:H1 (s1.heap.push (revObj a ((its.toArray.size:Int) - 1))).objs.size=none:=I2.fresh;have I3:=I2.laid (a:=(s1.heap.push (revObj a ((its.toArray.size:Int) - 1))).objs.size) (o:=.lst vs.reverse) (t':=tk) (h':=(s1.heap.push (revObj a ((its.toArray.size:Int) - 1))).push { cls:=.type "list",data:=.seq its.reverse.toArray c' }) (fun _ _ q=>Heap.get?_push_of_some _ q) (aj _) ⟨by rw[gb];exact hz,its.reverse,c',rv.reverse,Heap.get?_push_size _ rfl⟩;have I4:Inv X pins σ (upd H1 (s1.heap.push (revObj a ((its.toArray.size:Int) - 1))).objs.size (.lst vs.reverse)) { s1 with heap:=h',toks:=tk }:=by
  refine nO (s:={ s1 with heap:=(s1.heap.push (revObj a ((its.toArray.size:Int) - 1))).push { cls:=.type "list",data:=.seq its.reverse.toArray c' },toks:=tk }) (t':=tk) (ch:=[s1.heap.objs.size]) I3 (fun b o hb e=>?_) fun b hb=>?_
  ·have hb:b≠s1.heap.objs.size:=fun z=>hb (by simp[z])
   rcases vf e with ⟨rfl,rfl⟩ | e
   ·exact hS
   ·exact hk b o hb e
  ·have e:b=s1.heap.objs.size:=by simpa using hb
   subst e;refine I1.fpOk (aj _) ?_;rw[aF (by rw[hsz];exact bh (gx _))];exact I1.fresh
 obtain⟨A,p1,p2⟩:=aG.rev a2;obtain⟨n1,n2⟩:=gF (G0:=a::g) p1 (fun z hz=>ag _ (p2.subset hz)) hS0;exact⟨.ref (s1.heap.push (revObj a ((its.toArray.size:Int) - 1))).objs.size,_,I4,rfl,k _ _ _ (ar.same.trans n2.same) n1 (bP.new ar n2 fun _ z=>z)⟩
end
theorem rF:∀(xs:List V) (us:List Value),xs.length=us.length->(∀(i:Nat) (x:V),xs[i]? = some x->∃ u,us[i]? = some u/\RelV x u)->aL xs us
 |[],[],_,_=>.nil
 |[],_::_,h,_=>by simp at h
 |_::_,[],h,_=>by simp at h
 | x::xs,u::us,h,f=>by
  obtain⟨u',e,r⟩:=f 0 x rfl;cases e;exact .cons r (rF xs us (by simpa using h) fun i y hy=>by simpa using f (i+1) y (by simpa using hy))
theorem qR {a c:Int}{acc:Array Value}{n:Nat}(h:ItemsOf (fun i v=>∃ t,v = .int (a+i*c) t) acc n):aL (cY a c n) acc.toList:=by
 obtain⟨h1,h2⟩:=h;refine rF _ _ (by simp[cY,h1]) fun i x hx=>?_
 unfold cY at hx;rw[List.getElem?_map,aa] at hx;obtain⟨k,hk,rfl⟩:=hx;obtain⟨hk1,hk2⟩:=List.getElem?_eq_some_iff.mp hk;have hk1':i<n:=by simpa using hk1
 have hik:k=i:=by rw[<-hk2];simp
 subst hik;have hlt:k<acc.toList.length:=by simp[h1];exact hk1'
 refine⟨acc.toList[k],List.getElem?_eq_getElem hlt,?_⟩;obtain⟨t,ht⟩:=h2 k acc[k] (by simp[h1,hk1']);have:acc.toList[k]=acc[k]'(by simpa using hlt):=by simp
 rw[this,ht];exact⟨t,rfl⟩
section
variable {X:Cx}{T:Tb}
theorem mE {pins:List (Addr×Obj)}{σ:L2.St}{H:Hp}{s:Shared}{E:Value->Shared->Prop}{lo hi:Int}{t u v:Tok}{tk:Nat}{Q:VK}(hc:X.calm=true)(I:Inv X pins σ H s)(h1 : -(2 ^ 62)<=lo)(h2:lo<2 ^ 62)(h3 : -(2 ^ 62)<=hi)(h4:hi<2 ^ 62)(h5:hi - lo<=1000000)
  (q:∀ l,H l=none->Q (.ref l) (upd H l (.lst (cY lo 1 (hi - lo).toNat)))):wpAny (model X.prog X.w) X.A (call (.type "list") [.ref s.heap.objs.size]) (EP X pins σ Q) E { s with heap:=s.heap.push { cls:=.type "range",data:=.fields #[.int lo t,.int hi u,.int 1 v] },toks:=tk }:=by
 have I1:Inv X pins σ H { s with heap:=s.heap.push { cls:=.type "range",data:=.fields #[.int lo t,.int hi u,.int 1 v] },toks:=tk }:=I.kept fun b o e=>Heap.get?_push_of_some _ e
 refine call_list_range (n:=(hi - lo).toNat) (I1.ok.hd hc) (IsRange.new ..) (small_one h1 h2 h3 h4) (by rw[rangeSize_one];split<;>omega) (by omega) fun h' tk' acc' c' hk hS hacc=>?_
 have hv:=qR hacc;have h0:H (s.heap.push { cls:=.type "range",data:=.fields #[.int lo t,.int hi u,.int 1 v] }).objs.size=none:=I1.fresh;have I2:=I1.laid (a:=(s.heap.push { cls:=.type "range",data:=.fields #[.int lo t,.int hi u,.int 1 v] }).objs.size) (o:=.lst (cY lo 1 (hi - lo).toNat)) (t':=tk') (h':=h') hk (aj _) ⟨by rw[iE];have:=qA;have:lim=1000000:=rfl;omega,acc'.toList,c',hv,hS⟩;exact⟨.ref _,_,I2,rfl,q _ h0⟩
theorem rJ {es:List Expr}{cs:jM}{p q pos pos':Pos}(hc:X.calm=true)(hg:Gl X "list") (hm:X.mg "list" = none) (hg':Gl X "range") (hm':X.mg "range" = none) (ha:PA X es (sY X.K T cs)) (hs:∃ e r,es=e::r/\starEach es X.env=(false,eval e X.env)::starEach r X.env/\((backTo pos' (starEach r X.env)).any fun x=>x.1)=false) :
  PE X (.Call (.Name "list" p) [.Call (.Name "range" q) es [] pos'] [] pos) (tE X.K T (.blt .lrng cs)):=by
 intro pins s σ H Q I h;obtain⟨P,env,F,re,r,hev,k⟩:=h;unfold ev at hev;obtain⟨l,h1,hev⟩:=Rs.bind_ok hev;obtain⟨d,h2,hev⟩:=Rs.bind_ok hev;have h2:=cL h2;cases hev;obtain⟨e,rs,rfl,hs1,hs2⟩:=hs;refine Call_ (eI I hg hm boot_list (bz ?_ rfl rfl));show wpAny _ _ (spliced ((false,eval (.Call (.Name "range" q) (e::rs) [] pos') X.env) :: [])) _ _ s;refine Calls.spliced_cons ?_;refine Call_ (eI I hg' hm' boot_range (bz (cC (ha pos' pins s σ H (fun vs H'=>∃ G,Args X.K env F H H' l vs G) I ⟨P,env,F,re,l,h1,fun vs H' G ar=>⟨G,ar⟩⟩) fun us s1 ⟨vs,H1,I1,r1,G,ar⟩=>?_) hs1 hs2));have rps:aG X.K H1 (l.map (·.1)) vs G:=ar.reps;generalize hl:l.map (·.1)=ds at h2 rps
 match ds,h2 with
 |[.int n],h2 =>
  simp only[iL,qS] at h2;by_cases hk:eZ n=true/\n<=1000000
  ·rw[if_pos hk] at h2;cases h2;obtain⟨x,rfl,rp⟩:=rps.of1;obtain⟨rfl,rfl⟩:=rp.int_inv;obtain⟨u,rfl,t,rfl⟩:=r1.one;unfold eZ at hk;simp only[decide_eq_true_eq] at hk;refine call_range_1 (Calls.spliced_nil (mE hc I1 (by omega) (by omega) hk.1.1 hk.1.2 (by omega) fun a h0=>?_));obtain⟨n1,n2⟩:=gF (G0:=[]) (fV (K:=X.K) (H:=H1) 1 (n - 0).toNat 0) (fun z hz=>hz) h0;rw[Int.sub_zero] at n1 n2 ⊢;exact k _ _ _ (ar.same.trans n2.same) n1 (bP.new ar n2 fun _ z=>z)
  ·rw[if_neg hk] at h2;cases h2
 |[.int a,.int b],h2 =>
  simp only[iL,qS] at h2;by_cases hk:eZ a=true/\eZ b=true/\b - a<=1000000
  ·rw[if_pos hk] at h2;cases h2;cases rps with
   |cons ra rps =>
    obtain⟨rfl,rfl⟩:=ra.int_inv;obtain⟨x,rfl,rp⟩:=rps.of1;obtain⟨rfl,rfl⟩:=rp.int_inv;obtain⟨u,w,rfl,⟨t,rfl⟩,⟨t',rfl⟩⟩:=r1.two;unfold eZ at hk;simp only[decide_eq_true_eq] at hk;refine call_range_2 (Calls.spliced_nil (mE hc I1 hk.1.1 hk.1.2 hk.2.1.1 hk.2.1.2 hk.2.2 fun c h0=>?_));obtain⟨n1,n2⟩:=gF (G0:=[]) (fV (K:=X.K) (H:=H1) 1 (b - a).toNat a) (fun z hz=>hz) h0;exact k _ _ _ (ar.same.trans n2.same) n1 (bP.new ar n2 fun _ z=>z)
  ·rw[if_neg hk] at h2;cases h2
end
section
variable {prog:Program}{w:World}{A:Around}{R:Result->Shared->Prop}{it:Addr}{fp wr:List Addr}{n:Nat}{P:Nat->Value->Prop}{Sta:Nat->Heap->Prop}{dv:Value}{bx:Addr}
end
section
variable {X:Cx}{T:Tb}
end
section
variable {prog:Program}{w:World}{A:Around}{R:Result->Shared->Prop}{it:Addr}{fp wr:List Addr}{n:Nat}{P:Nat->Value->Prop}{Sta:Nat->Heap->Prop}{bx:Addr}{val:Nat->Value}{lt:Nat->Nat->Bool}{h0:Heap}
def Kp (wr:List Addr)(bx:Addr)(h0 h:Heap):Prop:=∀ b o,b∉wr->b≠bx->h0.get? b=some o->h.get? b=some o
end
section
variable {X:Cx}{pins:List (Addr×Obj)}{σ:L2.St}{H:Hp}{s:Shared}
end
section
variable {prog:Program}{w:World}{A:Around}{E:Value->Shared->Prop}{s:Shared}
theorem ud (a b c d:Value):argsOk "min" ⟨[a,b,c,d],[]⟩:=by unfold argsOk;kernel_rfl
theorem kh {q:Array (Int×Tok)}:∀ n,numAt q (argBest (fun i j=>decide (numAt q i<numAt q j)) (n+1))=As (numAt q (argBest (fun i j=>decide (numAt q i<numAt q j)) n)) (numAt q (n+1)):=fun n=>by
 unfold As;by_cases h:numAt q (n+1)<numAt q (argBest (fun i j=>decide (numAt q i<numAt q j)) n)
 ·rw[if_pos h];show numAt q (if decide _=true then n+1 else _)=_;rw[if_pos (du h)]
 ·rw[if_neg h];show numAt q (if decide _=true then n+1 else _)=_;rw[if_neg (by simpa using h)]
theorem wN {a b c d:Int}{t u x y:Tok}{Q:Value->Shared->Prop}(hh:A.handled=none)
  (h:∀ h' tk t',(∀ d o,s.heap.get? d=some o->h'.get? d=some o)->Q (.int (As (As (As a b) c) d) t') { s with heap:=h',toks:=tk }) :
  wpAny (model prog w) A (call (.builtin "min") [.int a t,.int b u,.int c x,.int d y]) Q E s:=by
 have hname:(toString "min" ++ toString ".loop" : String) = "min.loop":=by decide
 have hT:(s.heap.push { cls:=.type "tuple",data:=.seq #[.int a t,.int b u,.int c x,.int d y] }).IsTuple s.heap.objs.size (intItems #[(a,t),(b,u),(c,x),(d,y)]):=⟨_,Heap.get?_push_size _ rfl,rfl,0,by simp[intItems]⟩;have hsz:(s.heap.push { cls:=.type "tuple",data:=.seq #[.int a t,.int b u,.int c x,.int d y] }).objs.size=s.heap.objs.size+1:=Heap.size_push ..;refine call_function_tree F.kind_min F.plain_min F.entry_min (ud _ _ _ _) ?_;show wpAny _ A.in1 (Builtin.Builtins.bindParams "min" ["key","default"] 0 ⟨[],[]⟩ >>= _) _ _ s;refine wpAny_bind (wpAny_of_eq (show Builtin.Builtins.bindParams "min" ["key","default"] 0 ⟨[],[]⟩=pure [none,none] from rfl) ?_);show wpAny _ A.in1 (newTuple [.int a t,.int b u,.int c x,.int d y] >>= _) _ _ s;refine wpAny_bind (wpAny_newObj_type (wpAny_bind (wpAny_pyIter_tuple hT (wpAny_bind (wpAny_newObj_type ?_)))));have W:=Walks.tuple (prog:=prog) (w:=w) (A:=A.in1) hh (s.heap.push { cls:=.type "tuple",data:=.seq #[.int a t,.int b u,.int c x,.int d y] }).objs.size s.heap.objs.size (by rw[hsz];exact bh (gx _)) (intItems #[(a,t),(b,u),(c,x),(d,y)]);rw[hname];refine wpAny_pure ⟨plainId_quiet F.plain_min_loop _,codeAny_min_loop_first W _ (CmpOf.ints_lt (numAt #[(a,t),(b,u),(c,x),(d,y)]) (fun _ _=>intItems_at)) _ ?_ (by simp[intItems]) (W.frame _ _ _ ⟨⟨_,Heap.get?_push_size _ rfl,rfl,rfl⟩,hT.push _⟩ fun b _ o e=>Heap.get?_push_of_some _ e) (Heap.get?_push_size _ rfl) fun v h' tk hP hk=>?_⟩
 ·intro hm;have e2:=Heap.size_push (s.heap.push { cls:=.type "tuple",data:=.seq #[.int a t,.int b u,.int c x,.int d y] }) { cls:=.type "tuple_iterator",data:=.fields #[.ref s.heap.objs.size,.int 0 0] };rcases gc.mp hm with e | hm
  ·exact absurd (e2.symm.trans e) (Nat.succ_ne_self _)
  ·rcases gc.mp hm with e | hm
   ·exact absurd (e2.symm.trans e) (by rw[hsz];exact i4 (fu (gx _)))
   ·cases hm
 ·have hP':(intItems #[(a,t),(b,u),(c,x),(d,y)])[argBest (fun i j=>decide (numAt #[(a,t),(b,u),(c,x),(d,y)] i<numAt #[(a,t),(b,u),(c,x),(d,y)] j)) 3]? = some v:=by
   have hsz2:(intItems #[(a,t),(b,u),(c,x),(d,y)]).size - 1=3:=by simp[intItems]
   rw[<-hsz2];exact hP
  obtain⟨t',rfl⟩:=intItems_at hP';rw[kh,kh,kh];refine h h' tk t' fun z o e=>hk z o (fun hm=>?_) (fun hm=>?_) (Heap.get?_push_of_some _ (Heap.get?_push_of_some _ (Heap.get?_push_of_some _ e)))
  ·have hz:=Heap.lt_size e;rcases gc.mp hm with e1 | hm
   ·rw[e1,hsz] at hz;exact dz _ (Nat.lt_of_succ_lt hz)
   ·cases hm
  ·have hz:=Heap.lt_size e;have e2:=Heap.size_push (s.heap.push { cls:=.type "tuple",data:=.seq #[.int a t,.int b u,.int c x,.int d y] }) { cls:=.type "tuple_iterator",data:=.fields #[.ref s.heap.objs.size,.int 0 0] };have e3:z=(s.heap.push { cls:=.type "tuple",data:=.seq #[.int a t,.int b u,.int c x,.int d y] }).objs.size+1:=hm.trans e2;rw[e3,hsz] at hz;exact dz _ (Nat.lt_of_succ_lt (Nat.lt_of_succ_lt hz))
end
section
variable {X:Cx}
theorem qP (hc:X.calm=true)(hu:X.A.units+40<cLine):eL X (.builtin "min") (pC X.K .min2):=by
 intro pins s σ H xs us Q I r h;obtain⟨ds,d,G,rs,hd,k⟩:=h
 match ds,hd with
 |[.int i,.int j],hd =>
  cases hd;obtain⟨x,y,G1,G2,rfl,rp,rp'⟩:=rs.of2;obtain⟨rfl,rfl⟩:=rp.int_inv;obtain⟨rfl,rfl⟩:=rp'.int_inv;exact uq hc pins s σ H _ us Q I r ⟨i,j,rfl,k _ H [] (.int _) gS.nil⟩
 |[.int i,.int j,.int m,.int l],hd =>
  cases hd;cases rs with
  |cons r1 rs=>cases rs with
   |cons r2 rs=>cases rs with
    |cons r3 rs=>cases rs with
     |cons r4 rs =>
      cases rs;obtain⟨rfl,rfl⟩:=r1.int_inv;obtain⟨rfl,rfl⟩:=r2.int_inv;obtain⟨rfl,rfl⟩:=r3.int_inv;obtain⟨rfl,rfl⟩:=r4.int_inv;cases r with
      |cons q1 r=>cases r with
       |cons q2 r=>cases r with
        |cons q3 r=>cases r with
         |cons q4 r =>
          cases r;obtain⟨t1,rfl⟩:=q1;obtain⟨t2,rfl⟩:=q2;obtain⟨t3,rfl⟩:=q3;obtain⟨t4,rfl⟩:=q4;exact wN (I.ok.hd hc) fun h' tk t' kp=>⟨.int _,H,I.kept kp,⟨t',rfl⟩,k _ H [] (.int _) gS.nil⟩
end
section
variable {X:Cx}
theorem ua:eL X (.type "int") (pC X.K .int):=by
 intro pins s σ H xs us Q I r h;obtain⟨ds,d,G,rs,hd,k⟩:=h
 match ds,hd with
 |[.str z],hd =>
  obtain⟨x,rfl,rp⟩:=rs.of1;obtain⟨rfl,rfl⟩:=rp.str_inv;obtain⟨u,rfl,⟨t,rfl⟩⟩:=r.one;have hd:(if z.length<=640 then (PySem.intText? z).map D.int else none)=some d:=hd;by_cases hz:z.length<=640
  ·rw[if_pos hz,aa] at hd;obtain⟨n,hn,rfl⟩:=hd;exact PySem.W.KIN.call_text hn hz ⟨.int n,H,I.tok _,⟨_,rfl⟩,k _ H [] (.int n) gS.nil⟩
  ·rw[if_neg hz] at hd;cases hd
 |[.int i],hd =>
  cases hd;obtain⟨x,rfl,rp⟩:=rs.of1;obtain⟨rfl,rfl⟩:=rp.int_inv;obtain⟨u,rfl,⟨t,rfl⟩⟩:=r.one;exact call_int_int ⟨.int i,H,I,⟨_,rfl⟩,k _ H [] (.int i) gS.nil⟩
 |[.bl b],hd =>
  cases hd;obtain⟨x,rfl,rp⟩:=rs.of1;obtain⟨rfl,rfl⟩:=rp.bl_inv;obtain⟨u,rfl,ru⟩:=r.one;cases ru;exact call_int_bool ⟨.int _,H,I.tok _,⟨_,rfl⟩,k _ H [] (.int _) gS.nil⟩
end
section
variable {X:Cx}
end
structure Sc where
 N:List Str
 sc:Scope
 fns:List Str
 qB:List Str
 dS:List Str
noncomputable def idxOf:List Str->Str->Option Nat
 |[],_=>none
 |y::r,x=>if y=x then some 0 else (idxOf r x).map (· + 1)
theorem bS:∀{l:List Str}{x:Str}{i:Nat},idxOf l x=some i->l[i]? = some x
 | y::r,x,i,h=>by
  simp only[idxOf] at h;by_cases e:y=x
  ·rw[if_pos e] at h;cases h;rw[e];rfl
  ·rw[if_neg e,aa] at h;obtain⟨j,hj,rfl⟩:=h;simpa using bS hj
noncomputable def cR (sc:Scope)(x:Str):Option NameKind:=sc.names.lookup x
noncomputable def lu (sc:Scope)(x:Str):Bool:=match cR sc x with
 |some .local=>true
 |some .cell=>true
 |some .free=>true
 |_=>false
noncomputable def jg (sc:Scope)(x:Str):Bool:=match cR sc x with
 |some .local=>true
 |some .cell=>true
 |_=>false
noncomputable def nQ (sc:Scope)(x:Str):Bool:=match cR sc x with
 |some .globalImplicit=>true
 |_=>false
noncomputable def cG (x:Str):Bool:=!(x==("__debug__" : Str)) && !(x==("__classdict__" : Str)) && !(x==("__name__" : Str))
noncomputable def notStar:Expr->Bool
 |.Starred _ _=>false
 |_=>true
noncomputable def gE:Expr->Bool
 |.Set _ _ _=>false
 |_=>true
noncomputable def gL:Expr->Bool
 |.Slice _ _ _ _=>false
 |_=>true
noncomputable def eW:Expr->Bool
 |.ListComp _ _ _ _=>true
 |.SetComp _ _ _ _=>true
 |.DictComp _ _ _ _ _=>true
 |_=>false
noncomputable def cQ (f:Expr->Option Ex):List Expr->Option jM
 |[]=>some .nil
 |e::es=>if notStar e then (f e).bind fun c=>(cQ f es).map fun cs=>.cons c cs else none
noncomputable def E9 (f:Expr->Option Ex)(op:BoolOp):List Expr->Option Ex
 |[]=>none
 |[a]=>f a
 |a::r=>(f a).bind fun c=>(E9 f op r).map fun d=>match op with
  |.And=>.and c d
  |.Or=>.or c d
noncomputable def kx (S:Sc):List Expr->Option (List Nat)
 |[]=>some []
 |.Name x _::r=>if jg S.sc x then (idxOf S.N x).bind fun i=>(kx S r).map fun is=>i::is else none
 |_::_=>none
noncomputable def uh (S:Sc):Expr->Option jL
 |.Name x _=>if jg S.sc x then (idxOf S.N x).map .nm else none
 |.Tuple es _ _=>(kx S es).map .tp
 |_=>none
noncomputable def uV (f:Expr->Option Ex):Option Expr->Option km
 |none=>some .none
 |some e=>(f e).map .some
noncomputable def jI (S:Sc)(x:Str):Bool:=nQ S.sc x&&S.dS.contains x
noncomputable def isTup:Expr->Bool
 |.Tuple _ _ _=>true
 |_=>false
noncomputable def C6 (S:Sc)(f:Expr->Option Ex)(tp:Bool):Expr->Option qa
 | .Call (.Name x p) es [] pos=>if x = "range" then (if jI S "range" then (match cQ f es with
   | some (.cons a .nil)=>some (.rng1 a)
   | some (.cons a (.cons b .nil))=>some (.rng2 a b)
   | some (.cons a (.cons b (.cons c .nil)))=>some (.rng3 a b c)
   |_=>none) else none) else if x = "enumerate" then none else if x = "reversed" then (if jI S "reversed" then (match es with
   |[e]=>if notStar e then (f e).map .rev else none
   |_=>none) else none) else if x = "zip" then none else (f (.Call (.Name x p) es [] pos)).map .seq
 |e=>if gE e then (f e).map .seq else none
noncomputable def bC (sc:Scope):List Str:=(sc.names.filter fun p=>(p.2 == .local || p.2 == .cell)&&p.1 != (".0" : Str)).map (·.1)
noncomputable def bI (sc:Scope):List Str:=(sc.names.filter fun p=>p.2 == .free).map (·.1)
noncomputable def iQ:List (Option Nat)->Option (List Nat)
 |[]=>some []
 |some i::r=>(iQ r).map (i :: ·)
 |none::_=>none
noncomputable def jd (S:Sc)(sc:Scope):Bool :=
 sc.kind == .function&&sc.names.all (fun p=>p.2 != .cell || cR sc p.1==some .cell)&&sc.names.all (fun p=>p.2 != .local || cR sc p.1==some .local)&&sc.names.all (fun p=>p.2 != .free || (cR sc p.1==some .free&&(cR S.sc p.1==some .cell || cR S.sc p.1==some .free))) &&
 decide (bC sc++bI sc).Nodup
noncomputable def tN (own:Nat):jL->Bool
 |.nm i=>decide (i<own)
 |.tp is=>is.all fun i=>decide (i<own)
noncomputable def D4 (x:Str):Option A3:=if x = "len" then some .len else if x = "list" then some .list else if x = "min" then some .min2 else if x = "int" then some .int else if x = "sum" then some .sum else none
noncomputable def CY (t:Str):Option String:=if t = "int" then some "int" else if t = "bool" then some "bool" else if t = "tuple" then some "tuple" else none
noncomputable def Ea (S:Sc)(f:Expr->Option Ex):List Expr->Option Ex
 |[a,.Name t _]=>if nQ S.sc t&&S.dS.contains t&&cG t&&notStar a then (CY t).bind fun u=>(f a).map fun ca=>.blt (.isi u) (.cons ca .nil) else none
 |_=>none
noncomputable def mw:List Expr->Bool
 | [.Call (.Name r _) [_] [] _]=>r==("reversed" : Str)
 |_=>false
noncomputable def AL (S:Sc)(f:Expr->Option Ex):List Expr->Option Ex
 | [.Call (.Name r _) [e] [] _]=>if r = "reversed" then (if jI S "reversed" && notStar e then (f e).map fun c=>.blt .lrev (.cons c .nil) else none) else none
 |_=>none
noncomputable def lJ:List Expr->Bool
 | [.Call (.Name r _) _ [] _]=>r==("range" : Str)
 |_=>false
noncomputable def zZ (S:Sc)(f:Expr->Option Ex):List Expr->Option Ex
 | [.Call (.Name r _) es [] _]=>if r = "range" then (if jI S "range" then (match es with
  |[a]=>(cQ f [a]).map fun cs=>.blt .lrng cs
  |[a,b]=>(cQ f [a,b]).map fun cs=>.blt .lrng cs
  |_=>none) else none) else none
 |_=>none
noncomputable def rA (S:Sc)(f:Expr->Option Ex)(x:Str)(es:List Expr):Option Ex :=
 if cG x&&nQ S.sc x then (match idxOf S.fns x with
  |some i=>(cQ f es).map fun cs=>.call i cs
  |none=>if S.dS.contains x then (if x = "isinstance" then Ea S f es else if x = "list"/\mw es=true then AL S f es else if x = "list"/\lJ es=true then zZ S f es else match es with
    |[]=>none
    |e::r=>(D4 x).bind fun b=>(cQ f (e::r)).map fun cs=>.blt b cs) else none) else none
noncomputable def vV (S:Sc)(f:Expr->Option Ex)(x:Str)(a d:Expr)(k:Str):Option Ex :=
 none
noncomputable def CO (f:Expr->Option Ex)(o:Expr)(name:Str)(es:List Expr)(apos cpos:Pos):Option Ex:=none
noncomputable def Dk (f:Expr->Option Ex):List Expr->Option km
 |[]=>some .none
 |[c]=>(f c).map .some
 |_=>none
noncomputable def pf (S:Sc)(f:Sc->Expr->Option Ex)(elt tg iter:Expr)(ifs:List Expr)(sc:Scope):Option Ex :=
 if jd S sc&&gE iter then
  (C6 S (f S) (isTup tg) iter).bind fun it=>(iQ ((bI sc).map (idxOf S.N))).bind fun pick =>
   (uh { S with N:=bC sc++bI sc,sc:=sc } tg).bind fun t=>if tN (bC sc).length t then
    (Dk (f { S with N:=bC sc++bI sc,sc:=sc }) ifs).bind fun c=>(f { S with N:=bC sc++bI sc,sc:=sc } elt).map fun ce=>.comp (bC sc).length pick t it c ce
   else none
 else none
noncomputable def xv (S:Sc)(x:Str):Option Ex:=if cG x then (if lu S.sc x then (idxOf S.N x).map .var else if nQ S.sc x then (idxOf S.qB x).map .glb else none) else none
noncomputable def DF:Const->Option Ex
 |.int i=>some (.cst (.int i))
 |.bool b=>some (.cst (.bl b))
 |.none=>some (.cst .non)
 |.str s=>some (.cst (.str s))
 |_=>none
noncomputable def cUn (op:UnaryOp)(o:Option Ex):Option Ex:=match op with
 |.USub=>o.map .neg
 |.Not=>o.map .not
 |_=>none
noncomputable def w6 (f:Expr->Option Ex)(a:Expr)(op:CmpOp)(b:Expr):Option Ex:=if behindInMarks op b then none else (f a).bind fun ca=>(f b).map fun cb=>.cmp op ca cb
noncomputable def Aw (f:Expr->Option Ex)(a:Expr)(op op':CmpOp)(b c:Expr):Option Ex:=none
noncomputable def DC (f:Expr->Option Ex)(a:Expr):List CmpOp->List Expr->Option Ex
 |[],_=>none
 |[op],bs=>(match bs with
  |[]=>none
  |[b]=>w6 f a op b
  |_::_::_=>none)
 |op::op'::ops,bs=>(match ops with
  |[]=>(match bs with
   |[]=>none
   |[_]=>none
   |b::c::r=>(match r with
    |[]=>Aw f a op op' b c
    |_::_=>none))
  |_::_=>none)
noncomputable def AF (f:Expr->Option Ex)(a b:Expr):Option Ex:=match b with
 |.Slice lo hi st _=>(match st with
  |none=>(f a).bind fun ca=>(uV f lo).bind fun l=>(uV f hi).map fun h=>.sl ca l h
  |some _=>none)
 |b=>if gL b then (f a).bind fun ca=>(f b).map fun cb=>.ix ca cb else none
noncomputable def vy (S:Sc)(f:Expr->Option Ex)(x:Str)(es:List Expr):List Keyword->Option Ex
 |[]=>rA S f x es
 |[⟨k,d,_⟩]=>(match k with
  |none=>none
  |some k=>(match es with
   |[]=>none
   |[a]=>vV S f x a d k
   |_::_::_=>none))
 |_::_::_=>none
noncomputable def xA (S:Sc)(f:Expr->Option Ex)(g:Expr)(es:List Expr)(ks:List Keyword)(cpos:Pos):Option Ex:=match g with
 |.Name x _=>vy S f x es ks
 |.Attribute o name apos=>(match ks with
  |[]=>CO f o name es apos cpos
  |_::_=>none)
 |_=>none
noncomputable def cLC (S:Sc)(f:Sc->Expr->Option Ex)(elt:Expr)(sc:Scope):List Comprehension->Option Ex
 |[]=>none
 |[⟨tg,iter,ifs,as⟩]=>if as=0 then pf S f elt tg iter ifs sc else none
 |_::_::_=>none
noncomputable def BX:Expr->Bool
 |.List [] _=>true
 |_=>false
noncomputable def sL:Expr->Option Expr
 |.List [e] _=>(match e with
  |.Tuple es k p=>if es.any BX then some (.Tuple es k p) else none
  |_=>none)
 |_=>none
noncomputable def isAdd:Operator->Bool
 |.Add=>true
 |_=>false
noncomputable def Bl (f:Expr->Option Ex)(a:Expr)(op:Operator)(b:Expr):Option Ex:=match sL b with
 |some e=>if isAdd op then (f a).bind fun ca=>(f e).map fun ce=>.snoc ca ce else none
 |none=>(f a).bind fun ca=>(f b).map fun cb=>.bin op ca cb
noncomputable def wo:Option Expr->Option Str
 | some (.Name x _)=>some x
 |_=>none
noncomputable def Cp:Expr->Option Int
 | .Constant (.int v) _ _=>some v
 |_=>none
noncomputable def wZ (S:Sc):List (Option Expr)->List Expr->Option (List (Nat×Int))
 |[],[]=>some []
 |k::ks,e::vs=>(wo k).bind fun x=>(Cp e).bind fun v=>if cG x&&nQ S.sc x then (idxOf S.qB x).bind fun i=>(wZ S ks vs).map fun l=>(i,v)::l else none
 |_,_=>none
noncomputable def Cj (S:Sc):List (Option Expr)->List Expr->Option Ex
 |[],[]=>none
 |k::ks,vs=>if (k::ks).length<=15 then (wZ S (k::ks) vs).map .ddsp else none
 |_,_=>none
noncomputable def cE:Nat->Sc->Expr->Option Ex
 |0,_,_=>none
 |n+1,S,e=>match e with
  |.Name x _=>xv S x
  |.Constant c _ _=>DF c
  |.BinOp a op b _=>Bl (cE n S) a op b
  |.UnaryOp op a _=>cUn op (cE n S a)
  |.BoolOp op es _=>E9 (cE n S) op es
  |.Compare a ops bs _=>DC (cE n S) a ops bs
  |.IfExp c a b _=>(cE n S c).bind fun cc=>(cE n S a).bind fun ca=>(cE n S b).map fun cb=>.ite cc ca cb
  |.List es _=>(cQ (cE n S) es).map .lst
  |.Tuple es _ _=>(cQ (cE n S) es).map .tup
  |.Subscript a b _=>AF (cE n S) a b
  |.Call g es ks pos=>xA S (cE n S) g es ks pos
  |.ListComp elt gens sc _=>cLC S (cE n) elt sc gens
  |.Dict ks vs _=>Cj S ks vs
  |_=>none
structure Ctx (X:Cx)(S:Sc)(T:Tb):Prop where
 N:X.N=S.N
 nd:S.N.Nodup
 vis:∀ x,lu S.sc x=true->xJ X.env.scope x
 loc:∀ x,jg S.sc x=true->Loc X.env.scope x/\(X.fn x=true\/X.env.scope.names.lookup x=some .local)
 gl:∀ x,nQ S.sc x=true->Gl X x
 cel:∀ x,(cR S.sc x=some .cell\/cR S.sc x=some .free)->(X.env.kindOf x=some .cell\/X.env.kindOf x=some .free)
 units:X.A.units+40<cLine/\xM X.w X.K
 calm:X.calm=true
 fns:∀ i x,idxOf S.fns x=some i->∃ f fd ps k,iP X.prog X.w X.K X.mg X.base uw k f fd ps (zH X.K ps.length (T.cl i))/\eM k X.A/\X.mg x=some (.ref f)/\PySem.W.keepIn X.K (.ref f)=true/\Binds X.K fd ps []/\∀ ds r,T.cl i ds = .ok r->ds.length=ps.length
 qB:∀ i x,idxOf S.qB x=some i->∃ v u,X.mg x=some u/\RelV v u/\∀ H,Rep X.K H (T.gl i) v []
 dS:∀ x,S.dS.contains x=true->X.mg x=none
theorem bB {e:Expr}{es:List Expr}{env:Env}(h:notStar e=true):starEach (e::es) env=(false,eval e env)::starEach es env:=by
 cases e<;>first | rfl | (cases h)
theorem rf {e:Expr}{env:Env}(h:gE e=true)(x:Value):foldedSetIterable e env x=pure x:=by
 cases e<;>first | rfl | (cases h)
theorem o9 {e:Expr}(h:gL e=true):jW e:=by
 intro o i;cases e<;>first | rfl | (cases h)
theorem bE {f:Expr->Option Ex}{e:Expr}{es:List Expr}{cs:jM}(h:cQ f (e::es)=some cs):notStar e=true/\∃ c d,f e=some c/\cQ f es=some d/\cs = .cons c d:=by
 unfold cQ at h;by_cases hs:notStar e=true
 ·rw[if_pos hs] at h;rw[ae] at h;obtain⟨c,h1,h2⟩:=h;rw[aa] at h2;obtain⟨d,h2,rfl⟩:=h2;exact⟨hs,c,d,h1,h2,rfl⟩
 ·rw[if_neg hs] at h;cases h
theorem dM {f:Expr->Option Ex}{env:Env}{pos:Pos}:∀{es:List Expr}{cs:jM},cQ f es=some cs->(backTo pos (starEach es env)).any (·.1)=false
 |[],cs,_=>rfl
 | e::es,cs,h=>by
  obtain⟨hs,c,d,_,h2,_⟩:=bE h;rw[bB hs];show (false || (backTo pos (starEach es env)).any (·.1))=false;rw[dM h2];rfl
theorem cD {x:Str}(h:cG x=true):(x==("__debug__" : Str))=false/\(x==("__classdict__" : Str))=false/\x≠"__name__":=by
 unfold cG at h;rw[ah,ah] at h;obtain⟨⟨h1,h2⟩,h3⟩:=h;refine⟨by simpa using h1,by simpa using h2,fun e=>?_⟩;subst e;simp at h3
theorem BA {X:Cx}{T:Tb}{c a b:Expr}{cc ca cb:Ex}{pos:Pos}(hc:PT X c (mU X.K T cc))(ha:PT X a (mU X.K T ca))(hb:PT X b (mU X.K T cb)):PT X (.IfExp c a b pos) (mU X.K T (.ite cc ca cb)):=by
 intro pins s σ H Q I h;obtain⟨P,env,F,re,p,bb,hev,ht,k⟩:=h;unfold ev at hev;obtain⟨q,h1,hev⟩:=Rs.bind_ok hev;obtain⟨kb,h2,hev⟩:=Rs.bind_ok hev;refine isTrue_IfExp (cC (hc pins s σ H (fun d H'=>d=kb/\aE H H') I ⟨P,env,F,re,q,kb,h1,cL h2,fun H' s=>⟨rfl,s⟩⟩) fun d s1 ⟨H1,I1,e,s⟩=>?_);subst e;cases d with
 |true=>exact ha pins s1 σ H1 Q I1 ⟨P,env,F,re.same s,p,bb,hev,ht,fun H' s'=>k H' (s.trans s')⟩
 |false=>exact hb pins s1 σ H1 Q I1 ⟨P,env,F,re.same s,p,bb,hev,ht,fun H' s'=>k H' (s.trans s')⟩
theorem xg {T:Tb}{a:Ex}{env:En}{p}(hev:eA T (.rng1 a) env = .ok p):p.2=[]/\∃ l,bN T (.cons a .nil) env = .ok l/\((∃ j,l.map (·.1)=[.int j]/\eZ j=true/\p.1=aQ 0 1 j.toNat)\/(∃ i j,l.map (·.1)=[.int i,.int j]/\eZ i=true/\eZ j=true/\p.1=aQ i 1 (j - i).toNat) \/
   ∃ i j k,l.map (·.1)=[.int i,.int j,.int k]/\eZ i=true/\eZ j=true/\k≠0/\k.natAbs<1073741824/\p.1=aQ i k (Builtin.Range.rangeSize i j k).toNat):=by
 unfold eA at hev;obtain⟨q,h1,hev⟩:=Rs.bind_ok hev;split at hev
 ·rename_i j hj;split at hev
  ·rename_i ho;cases hev;exact⟨rfl,[q],by unfold bN;rw[h1];unfold bN;rfl,.inl ⟨j,by simp[hj],ho,rfl⟩⟩
  ·cases hev
 ·cases hev
theorem vc {T:Tb}{a b:Ex}{env:En}{p}(hev:eA T (.rng2 a b) env = .ok p):p.2=[]/\∃ l,bN T (.cons a (.cons b .nil)) env = .ok l/\((∃ j,l.map (·.1)=[.int j]/\eZ j=true/\p.1=aQ 0 1 j.toNat)\/(∃ i j,l.map (·.1)=[.int i,.int j]/\eZ i=true/\eZ j=true/\p.1=aQ i 1 (j - i).toNat) \/
   ∃ i j k,l.map (·.1)=[.int i,.int j,.int k]/\eZ i=true/\eZ j=true/\k≠0/\k.natAbs<1073741824/\p.1=aQ i k (Builtin.Range.rangeSize i j k).toNat):=by
 unfold eA at hev;obtain⟨q,h1,hev⟩:=Rs.bind_ok hev;obtain⟨r,h2,hev⟩:=Rs.bind_ok hev;split at hev
 ·rename_i i j hi hj;split at hev
  ·rename_i ho;cases hev;rw[ah] at ho;exact⟨rfl,[q,r],by unfold bN;rw[h1];unfold bN;rw[h2];unfold bN;rfl,.inr (.inl ⟨i,j,by simp[hi,hj],ho.1,ho.2,rfl⟩)⟩
  ·cases hev
 ·cases hev
theorem vb {T:Tb}{a b c:Ex}{env:En}{p}(hev:eA T (.rng3 a b c) env = .ok p):p.2=[]/\∃ l,bN T (.cons a (.cons b (.cons c .nil))) env = .ok l/\((∃ j,l.map (·.1)=[.int j]/\eZ j=true/\p.1=aQ 0 1 j.toNat)\/(∃ i j,l.map (·.1)=[.int i,.int j]/\eZ i=true/\eZ j=true/\p.1=aQ i 1 (j - i).toNat) \/
   ∃ i j k,l.map (·.1)=[.int i,.int j,.int k]/\eZ i=true/\eZ j=true/\k≠0/\k.natAbs<1073741824/\p.1=aQ i k (Builtin.Range.rangeSize i j k).toNat):=by
 unfold eA at hev;obtain⟨q,h1,hev⟩:=Rs.bind_ok hev;obtain⟨r,h2,hev⟩:=Rs.bind_ok hev;obtain⟨t,h3,hev⟩:=Rs.bind_ok hev;split at hev
 ·rename_i i j k hi hj hk;split at hev
  ·rename_i ho;cases hev;simp only[Bool.and_eq_true,bne_iff_ne,decide_eq_true_eq] at ho;exact⟨rfl,[q,r,t],by unfold bN;rw[h1];unfold bN;rw[h2];unfold bN;rw[h3];unfold bN;rfl,.inr (.inr ⟨i,j,k,by simp[hi,hj,hk],ho.1.1.1,ho.1.1.2,ho.1.2,ho.2,rfl⟩)⟩
  ·cases hev
 ·cases hev
def SE (X:Cx)(T:Tb)(e:Expr)(c:Ex):Prop:=PE X e (tE X.K T c)/\PT X e (mU X.K T c)
section
variable {X:Cx}{S:Sc}{T:Tb}
theorem cX {f:Expr->Option Ex}(hf:∀ e c,f e=some c->SE X T e c):∀{es:List Expr}{cs:jM},cQ f es=some cs->PA X es (sY X.K T cs)
 |[],cs,h=>by cases h;exact qg
 | e::es,cs,h=>by
  obtain⟨hs,c,d,h1,h2,rfl⟩:=bE h;exact mT (hf e c h1).1 (cX hf h2) (bB hs)
theorem Ap {f:Expr->Option Ex}{op:BoolOp}{pos:Pos}(hf:∀ e c,f e=some c->SE X T e c):∀{es:List Expr}{c:Ex},E9 f op es=some c->PE X (.BoolOp op es pos) (tE X.K T c)/\PW X (.BoolOp op es pos) (mU X.K T c)
 |[],c,h=>by cases h
 | [a],c,h=>by
  have h:f a=some c:=h;have ⟨h1,h2⟩:=hf a c h;refine⟨B7 h1,?_⟩;cases op with
  |And=>exact yj h2
  |Or=>exact wV h2
 | a::b::r,c,h=>by
  unfold E9 at h;rw[ae] at h;obtain⟨ca,h1,h2⟩:=h;rw[aa] at h2;obtain⟨cb,h2,h3⟩:=h2;subst h3;have ⟨ia,ta⟩:=hf a ca h1;have ⟨ib,tb⟩:=Ap (pos:=pos) hf h2;cases op with
  |And=>exact⟨Cf ia ib,CC ta tb⟩
  |Or=>exact⟨Ed ia ib,Dx ta tb⟩
theorem oH (C:Ctx X S T):∀{es:List Expr}{is:List Nat},kx S es=some is->DM X es (fU is)/\(assignEach es X.env).length=is.length/\(assignEach es X.env).findIdx? (·.1)=none:=by
 intro es
 induction es with
 |nil=>intro is h;cases h;exact⟨xW,rfl,rfl⟩
 |cons e es ih =>
  intro is h;cases e with
  |Name x p =>
   unfold kx at h;by_cases hl:jg S.sc x=true
   ·rw[if_pos hl,ae] at h;obtain⟨i,h1,h2⟩:=h;rw[aa] at h2;obtain⟨js,h2,rfl⟩:=h2;obtain⟨a,b,c⟩:=ih h2;have hN:=C.nd;rw[<-C.N] at hN;have hi:=bS h1;rw[<-C.N] at hi;refine⟨wW (rP hN hi (C.loc x hl).1 (C.loc x hl).2) a,?_,?_⟩
    ·show (assignEach es X.env).length+1=js.length+1;rw[b]
    ·show List.findIdx? (·.1) ((false,_)::assignEach es X.env)=none;rw[List.findIdx?_cons];simp[c]
   ·rw[if_neg hl] at h;cases h
  |_=>cases h
theorem vn (C:Ctx X S T){e:Expr}{t:jL}(h:uh S e=some t):PG X e (qq X.K t):=by
 cases e with
 |Name x p =>
  unfold uh at h;dsimp only at h;by_cases hl:jg S.sc x=true
  ·rw[if_pos hl,aa] at h;obtain⟨i,h1,rfl⟩:=h;have hN:=C.nd;rw[<-C.N] at hN;have hi:=bS h1;rw[<-C.N] at hi;exact rP hN hi (C.loc x hl).1 (C.loc x hl).2
  ·rw[if_neg hl] at h;cases h
 |Tuple es a b =>
  unfold uh at h;rw[aa] at h;obtain⟨is,h1,rfl⟩:=h;obtain⟨a,b,c⟩:=oH C h1;exact uR C.calm a b c
 |_=>cases h
theorem AD (C:Ctx X S T){f:Expr->Option Ex}(hf:∀ e c,f e=some c->SE X T e c){tg e:Expr}{it:qa}(h:C6 S f (isTup tg) e=some it):PI X tg e (tI X.K T it):=by
 unfold C6 at h;split at h
 ·rename_i x p es pos;by_cases hx:x = "range"
  ·subst hx;rw[if_pos rfl] at h;by_cases hg:jI S "range" = true
   ·rw[if_pos hg] at h;have hg2:nQ S.sc "range" = true/\S.dS.contains "range" = true:=by
     unfold jI at hg
     rwa [ah] at hg
    cases hc:cQ f es with
    |none=>rw[hc] at h;cases h
    |some cs =>
     rw[hc] at h;cases es with
     |nil=>cases hc;cases h
     |cons e0 rest =>
      obtain⟨hs,c0,d0,_,hd,rfl⟩:=bE hc;refine AV rfl (C.gl _ hg2.1) (C.dS _ hg2.2) (cX hf hc) (bB hs) (dM hd) ?_;intro env p hev;cases d0 with
      |nil =>
       cases h;exact xg hev
      |cons c1 d1 =>
       cases d1 with
       |nil =>
        cases h;exact vc hev
       |cons c2 d2 =>
        cases d2 with
        |nil =>
         cases h;exact vb hev
        |cons c3 d3=>cases h
   ·rw[if_neg hg] at h;cases h
  rw[if_neg hx] at h;by_cases hx:x = "enumerate"
  ·subst hx;rw[if_pos rfl] at h;cases h
  rw[if_neg hx] at h;by_cases hx:x = "reversed"
  ·subst hx;rw[if_pos rfl] at h;by_cases hg:jI S "reversed" = true
   ·rw[if_pos hg] at h;have hg2:nQ S.sc "reversed" = true/\S.dS.contains "reversed" = true:=by
     unfold jI at hg
     rwa [ah] at hg
    split at h
    ·rename_i e0;by_cases hs:notStar e0=true
     ·rw[if_pos hs,aa] at h;obtain⟨c,h1,rfl⟩:=h;exact A0 (C.gl _ hg2.1) (C.dS _ hg2.2) (mT (hf _ _ h1).1 qg (bB hs)) (bB hs)
     ·rw[if_neg hs] at h;cases h
    ·cases h
   ·rw[if_neg hg] at h;cases h
  rw[if_neg hx] at h;by_cases hx:x = "zip"
  ·subst hx;rw[if_pos rfl] at h;cases h
  ·rw[if_neg hx,aa] at h;obtain⟨c,h1,rfl⟩:=h;exact wb (hf _ _ h1).1
 ·by_cases hn:gE e=true
  ·rw[if_pos hn,aa] at h;obtain⟨c,h1,rfl⟩:=h;exact wb (hf _ _ h1).1
  ·rw[if_neg hn] at h;cases h
end
theorem fS {env:Env}:∀{names:List (Str×NameKind)}{x:Str}{k:NameKind},names.lookup x=some k->k≠.free ->
  (names.map fun (n,k)=>if (k==NameKind.free&&env.scope.kind == .function&&env.kindOf n==some .cell) then (n,NameKind.cell) else (n,k)).lookup x=some k
 |[],_,_,h,_=>by simp at h
 | (n,k0)::r,x,k,h,hk=>by
  rw[ba];by_cases hc:(k0==NameKind.free&&env.scope.kind == .function&&env.kindOf n==some .cell)=true
  ·simp only[hc,if_true,List.lookup_cons] at h ⊢;cases hx:x==n with
   |true =>
    rw[hx] at h;cases h;rw[ah,ah] at hc;exact absurd (by simpa using hc.1.1) hk
   |false=>rw[hx] at h;exact fS h hk
  ·have hc:(k0==NameKind.free&&env.scope.kind == .function&&env.kindOf n==some .cell)=false:=by simpa using hc
   simp only[hc,Bool.false_eq_true,if_false,List.lookup_cons] at h ⊢;cases hx:x==n with
   |true=>rw[hx] at h;exact h
   |false=>rw[hx] at h;exact fS h hk
theorem jA:∀{l:List (Option Nat)}{p:List Nat},iQ l=some p->l=p.map some
 |[],p,h=>by cases h;rfl
 | some i::r,p,h=>by
  simp only[iQ,Option.map_eq_some_iff] at h;obtain⟨q,h1,rfl⟩:=h;rw[jA h1];rfl
 |none::r,p,h=>by cases h
theorem kI {S:Sc}{sc:Scope}(h:jd S sc=true):sc.kind = .function/\(∀ y∈sc.names,y.2 = .cell->sc.names.lookup y.1=some .cell)/\(∀ y∈sc.names,y.2 = .local->sc.names.lookup y.1=some .local) /\
  (∀ y∈sc.names,y.2 = .free->sc.names.lookup y.1=some .free/\(cR S.sc y.1=some .cell\/cR S.sc y.1=some .free))/\(bC sc++bI sc).Nodup:=by
 unfold jd at h;simp only[Bool.and_eq_true,List.all_eq_true,Bool.or_eq_true,beq_iff_eq,bne_iff_ne,decide_eq_true_eq,cR] at h;obtain⟨⟨⟨⟨h1,h2⟩,h3⟩,h4⟩,h5⟩:=h;refine⟨h1,fun y hy e=>?_,fun y hy e=>?_,fun y hy e=>?_,h5⟩
 ·rcases h2 y hy with h | h
  ·exact absurd e h
  ·exact h
 ·rcases h3 y hy with h | h
  ·exact absurd e h
  ·exact h
 ·rcases h4 y hy with h | h
  ·exact absurd e h
  ·exact h
section
variable {X:Cx}{S:Sc}{T:Tb}{sc:Scope}{pick:List Nat}
theorem qw (C:Ctx X S T)(h:jd S sc=true)(hp:iQ ((bI sc).map (idxOf S.N))=some pick):dJ X sc (bC sc++bI sc) (dQ (bC sc).length pick):=by
 obtain⟨h1,h2,h3,h4,h5⟩:=kI h;have hp:=jA hp;have hlen:(bI sc).length=pick.length:=by simpa using congrArg List.length hp
 refine⟨h1,h2,h3,by simp[dQ,hlen],fun x hx=>C.cel x (h4 _ (PySem.mem_of_lookup hx) rfl).2,fun x hx=>(h4 _ hx rfl).1,fun i j x hi hx=>?_⟩;unfold dQ at hi;by_cases hlt:i<(bC sc).length
 ·rw[List.getElem?_append_left (by simpa using hlt),List.getElem?_replicate] at hi;split at hi<;>cases hi
 ·have hle:=iy hlt;rw[List.getElem?_append_right (by simpa using hle),List.length_replicate,<-hp,List.getElem?_map] at hi;rw[List.getElem?_append_right hle] at hx;rw[hx] at hi;simp only[Option.map_some,Option.some.injEq] at hi;have hm:=List.mem_of_getElem? hx;unfold bI at hm;rw[gr] at hm;obtain⟨p,hp1,rfl⟩:=hm;rw[List.mem_filter] at hp1;have hf:p.2 = .free:=by simpa using hp1.2
  refine⟨(h4 p hp1.1 hf).1,?_⟩;rw[C.N];exact bS hi
theorem tK (C:Ctx X S T)(h:jd S sc=true)(Ca:Addr)(s0:Shared)(H0:Hp)(ex:List Addr):Ctx (inner X sc (bC sc++bI sc) Ca s0 H0 ex) { S with N:=bC sc++bI sc,sc:=sc } T:=by
 obtain⟨h1,h2,h3,h4,h5⟩:=kI h;have keep:∀ x k,sc.names.lookup x=some k->k≠.free->(relabel sc X.env).names.lookup x=some k:=fun x k e hk=>fS e hk
 refine⟨rfl,h5,fun x hx=>?_,fun x hx=>?_,fun x hx=>?_,fun x hx=>?_,C.units,C.calm,C.fns,C.qB,C.dS⟩
 ·unfold lu cR at hx;dsimp only at hx;split at hx
  ·rename_i e;exact .inl (keep _ _ e (by simp))
  ·rename_i e;exact .inr (.inl (keep _ _ e (by simp)))
  ·rename_i e;exact .inr (eH e)
  ·cases hx
 ·unfold jg cR at hx;dsimp only at hx;split at hx
  ·rename_i e;exact⟨.inl (keep _ _ e (by simp)),.inr (keep _ _ e (by simp))⟩
  ·rename_i e;exact⟨.inr (keep _ _ e (by simp)),.inl (by show (sc.names.lookup x==some NameKind.cell)=true;rw[e];rfl)⟩
  ·cases hx
 ·unfold nQ cR at hx;dsimp only at hx;split at hx
  ·rename_i e;exact keep _ _ e (by simp)
  ·cases hx
 ·unfold cR at hx;rcases hx with hx | hx
  ·exact .inl (keep _ _ hx (by simp))
  ·exact eH hx
end
theorem vd (n d:Nat)(o:Option Int):iH n d o=HT.iH n d o:=by cases o<;>rfl
section
variable {X:Cx}{T:Tb}{a:Expr}{ca:Ex}{lo hi:Option Expr}{cl ch:km}{pos p2:Pos}
noncomputable def tO (K:Frag)(T:Tb)(c:km):TO:=fun σ H Q=>∃ P env F,RE K P env σ H F/\∃ o,jb T c env = .ok o/\∀ H',aE H H'->Q o H'
theorem vD {X:Cx}{e:Option Expr}{t t':TO}(h:PO X e t)(k:∀ σ H Q,t' σ H Q->t σ H Q):PO X e t':=fun pins s σ H Q I q=>h pins s σ H Q I (k σ H Q q)
theorem yn:PO X none (tO X.K T .none):=vD sA fun σ H Q ⟨P,env,F,re,o,h,k⟩=>by
 unfold jb at h;cases h;exact k H (aE.refl _)
theorem zO (h:PE X a (tE X.K T ca)):PO X (some a) (tO X.K T (.some ca)):=vD (sU h) fun σ H Q ⟨P,env,F,re,o,h,k⟩=>by
 unfold jb at h;obtain⟨p,h1,h2⟩:=Rs.bind_ok h;refine⟨P,env,F,re,p,h1,fun v H' G s rp rt=>?_⟩;split at h2
 ·rename_i i hi;cases h2;rw[hi] at rp;obtain⟨rfl,rfl⟩:=rp.int_inv;exact⟨i,rfl,k H' s⟩
 ·cases h2
theorem D7 (ha:PE X a (tE X.K T ca))(hl:PO X lo (tO X.K T cl))(hh:PO X hi (tO X.K T ch)):PE X (.Subscript a (.Slice lo hi none p2) pos) (tE X.K T (.sl ca cl ch)):=by
 refine bJ (ou rL ha hl hh) fun σ H Q ⟨P,env,F,re,p,hev,k⟩=>?_
 unfold ev at hev;obtain⟨q,h1,hev⟩:=Rs.bind_ok hev;obtain⟨ol,h2,hev⟩:=Rs.bind_ok hev;obtain⟨oh,h3,hev⟩:=Rs.bind_ok hev;obtain⟨d,h4,hev⟩:=Rs.bind_ok hev;have h4:=cL h4;cases hev;refine⟨P,env,F,re,q,h1,fun v H1 G s rp rt=>⟨P,env,F,re.same s,ol,h2,fun H2 s2=>⟨P,env,F,re.same (s.trans s2),oh,h3,fun H3 s3=>?_⟩⟩⟩;have s23:=s2.trans s3;cases hq:q.1 with
 |lst xs =>
  rw[hq] at rp h4;cases h4;obtain⟨pa,vs,G',rfl,rfl,hr,rs⟩:=Rep.lst_inv (rp.same s23);refine⟨pa,vs,rfl,.inl hr,fun pn hn=>?_⟩;obtain⟨G1,r1,u1⟩:=rs.drop (iH xs.length 0 ol);obtain⟨G2,r2,u2⟩:=r1.take (iH xs.length xs.length oh - iH xs.length 0 ol);have hc:lz vs ol oh=(vs.drop (iH xs.length 0 ol)).take (iH xs.length xs.length oh - iH xs.length 0 ol):=by
   unfold lz;rw[rs.len,vd,vd]
  rw[hc];have sub:∀ a∈G2,a∈pa::G':=fun a ha=>ag _ (u1.mem (u2.mem ha))
  obtain⟨rp',nv⟩:=gF (G0:=pa::G') r2 sub hn;have ar:Args X.K env F H H3 [q] [.ref pa] ((pa::G') ++ []):=.cons s (by rw[hq];exact rp) rt (.nil s23);rw[bc] at ar;exact k _ _ _ ((s.trans s23).trans nv.same) rp' (bP.new ar nv (by simp[aU]))
 |_=>rw[hq] at h4;cases h4
end
section
variable {X:Cx}{S:Sc}{T:Tb}
theorem vj {f:Expr->Option Ex}(hf:∀ e c,f e=some c->SE X T e c){o:Option Expr}{c:km}(h:uV f o=some c):PO X o (tO X.K T c):=by
 cases o with
 |none=>cases h;exact yn
 |some e =>
  have h:(f e).map km.some=some c:=h;rw[aa] at h;obtain⟨d,h1,rfl⟩:=h;exact zO (hf e d h1).1
theorem CF {x id:String}{b:A3}{f:Expr->Option Ex}(hf:∀ e c,f e=some c->SE X T e c){e:Expr}{r:List Expr}{cs:jM}{p pos:Pos}(hr:eL X (.builtin id) (pC X.K b))(hv:bootBuiltins x=some (.builtin id))(hg:Gl X x)(hm:X.mg x=none)(hn:cG x=true)(ha:cQ f (e::r)=some cs) :
  PE X (.Call (.Name x p) (e::r) [] pos) (tE X.K T (.blt b cs)):=by
 obtain⟨hs,_,_,_,h2,_⟩:=bE ha;obtain⟨n1,n2,n3⟩:=cD hn;exact bJ (fH hr hg hm hv (cX hf ha) n3 n1 (bB hs) (dM h2)) fun σ H Q h=>oz h
theorem EI {x id:String}{b:A3}{f:Expr->Option Ex}(hf:∀ e c,f e=some c->SE X T e c){e:Expr}{r:List Expr}{cs:jM}{p pos:Pos}(hr:eL X (.type id) (pC X.K b))(hv:bootBuiltins x=some (.type id))(hg:Gl X x)(hm:X.mg x=none)(hn:cG x=true)(ha:cQ f (e::r)=some cs) :
  PE X (.Call (.Name x p) (e::r) [] pos) (tE X.K T (.blt b cs)):=by
 obtain⟨hs,_,_,_,h2,_⟩:=bE ha;obtain⟨n1,n2,n3⟩:=cD hn;exact bJ (tJ hr hg hm hv (cX hf ha) n3 n1 (bB hs) (dM h2)) fun σ H Q h=>oz h
theorem xp {t:Str}{u:String}(h:CY t=some u):u∈gX/\bootBuiltins t=some (.type u):=by
 unfold CY at h;split at h
 ·rename_i e;cases h;subst e;exact⟨by decide,boot_int⟩
 split at h
 ·rename_i e;cases h;subst e;exact⟨by decide,boot_bool⟩
 split at h
 ·rename_i e;cases h;subst e;exact⟨by decide,boot_tuple⟩
 cases h
theorem yo (C:Ctx X S T){f:Expr->Option Ex}(hf:∀ e c,f e=some c->SE X T e c){x:Str}{es:List Expr}{c:Ex}{p pos:Pos}(h:rA S f x es=some c):PE X (.Call (.Name x p) es [] pos) (tE X.K T c):=by
 unfold rA at h;by_cases hk:(cG x&&nQ S.sc x)=true
 ·rw[if_pos hk] at h;rw[ah] at hk;obtain⟨hn,hg⟩:=hk;have hg:=C.gl x hg;obtain⟨n1,n2,n3⟩:=cD hn;cases hi:idxOf S.fns x with
  |some i =>
   rw[hi] at h;dsimp only at h;rw[aa] at h;obtain⟨cs,h1,rfl⟩:=h;obtain⟨fa,fd,ps,k,FO,hr,hm,hkp,hb,hl⟩:=C.fns i x hi;cases es with
   |nil =>
    cases h1;refine bJ (v9 FO hr hg hm hkp hb .nil AG n1) fun σ H Q h=>?_
    have:=me hl h;obtain⟨P,env,F,re,l,hev,k⟩:=this;unfold bN at hev;cases hev;exact k [] H [] (.nil (aE.refl _))
   |cons e r =>
    obtain⟨hs,_,_,_,h2,_⟩:=bE h1;exact bJ (y4 FO hr hg hm hkp hb .nil AG (cX hf h1) n1 (bB hs) (dM h2)) fun σ H Q h=>me hl h
  |none =>
   rw[hi] at h;dsimp only at h;by_cases hb:S.dS.contains x=true
   ·rw[if_pos hb] at h;have hm:=C.dS x hb;by_cases hx:x = "isinstance"
    ·rw[if_pos hx] at h;subst hx;unfold Ea at h;split at h
     ·rename_i a t pt;by_cases hc:(nQ S.sc t&&S.dS.contains t&&cG t&&notStar a)=true
      ·rw[if_pos hc] at h;simp only[Bool.and_eq_true] at hc;obtain⟨⟨⟨c1,c2⟩,c3⟩,c4⟩:=hc;rw[ae] at h;obtain⟨u,h1,h2⟩:=h;rw[aa] at h2;obtain⟨ca,h2,rfl⟩:=h2;obtain⟨hu,hbt⟩:=xp h1;obtain⟨m1,m2,m3⟩:=cD c3;refine bJ (fH t9 hg hm boot_isinstance (aX (hf a ca h2).1 (aX (rD (v:=.ty u) (C.gl t c1) (C.dS t c2) hbt rfl m3 m1) eK rfl) (bB c4)) n3 n1 (bB c4) rfl) fun σ H Q h=>wB hu h
      ·rw[if_neg hc] at h;cases h
     ·cases h
    ·rw[if_neg hx] at h;by_cases hlr:x = "list"/\mw es=true
     ·rw[if_pos hlr] at h;obtain⟨rfl,_⟩:=hlr;unfold AL at h;split at h
      ·rename_i r pr e0 pp zz;by_cases hrr:r = "reversed"
       ·rw[if_pos hrr] at h;subst hrr;by_cases hgr:(jI S "reversed" && notStar e0)=true
        ·rw[if_pos hgr,aa] at h;obtain⟨c0,h1,rfl⟩:=h;rw[ah] at hgr;have hg2:nQ S.sc "reversed" = true/\S.dS.contains "reversed" = true:=by
          have:=hgr.1;unfold jI at this
          rwa [ah] at this
         exact yQ C.calm hg hm (C.gl _ hg2.1) (C.dS _ hg2.2) (mT (hf _ _ h1).1 qg (bB hgr.2)) (bB hgr.2)
        ·rw[if_neg hgr] at h;cases h
       ·rw[if_neg hrr] at h;cases h
      ·cases h
     rw[if_neg hlr] at h;by_cases hlg:x = "list"/\lJ es=true
     ·rw[if_pos hlg] at h;obtain⟨rfl,_⟩:=hlg;unfold zZ at h;split at h
      ·rename_i r pr es' pp zz;by_cases hrr:r = "range"
       ·rw[if_pos hrr] at h;subst hrr;by_cases hgr:jI S "range" = true
        ·rw[if_pos hgr] at h;have hg2:nQ S.sc "range" = true/\S.dS.contains "range" = true:=by
          have:=hgr;unfold jI at this
          rwa [ah] at this
         split at h
         ·rename_i a;rw[aa] at h;obtain⟨cs,ha,rfl⟩:=h;obtain⟨n1,c1,d1,_,hd,_⟩:=bE ha;exact rJ C.calm hg hm (C.gl _ hg2.1) (C.dS _ hg2.2) (cX hf ha) ⟨_,_,rfl,bB n1,rfl⟩
         ·rename_i a b;rw[aa] at h;obtain⟨cs,ha,rfl⟩:=h;obtain⟨n1,c1,d1,_,hd,_⟩:=bE ha;obtain⟨n2,_,_,_,_,_⟩:=bE hd;exact rJ C.calm hg hm (C.gl _ hg2.1) (C.dS _ hg2.2) (cX hf ha) ⟨_,_,rfl,bB n1,by rw[bB n2];rfl⟩
         ·cases h
        ·rw[if_neg hgr] at h;cases h
       ·rw[if_neg hrr] at h;cases h
      ·cases h
     rw[if_neg hlg] at h;cases es with
     |nil=>cases h
     |cons e r =>
      dsimp only at h;rw[ae] at h;obtain⟨b,h1,h2⟩:=h;rw[aa] at h2;obtain⟨cs,h2,rfl⟩:=h2;unfold D4 at h1;split at h1
      ·rename_i e;cases h1;subst e;exact CF hf t7 boot_len hg hm hn h2
      split at h1
      ·rename_i e;cases h1;subst e;exact EI hf (qp C.calm) boot_list hg hm hn h2
      split at h1
      ·rename_i e;cases h1;subst e;exact CF hf (qP C.calm C.units.1) boot_min hg hm hn h2
      split at h1
      ·rename_i e;cases h1;subst e;exact EI hf ua boot_int hg hm hn h2
      split at h1
      ·rename_i e;cases h1;subst e;exact CF hf (uy C.calm) boot_sum hg hm hn h2
      cases h1
   ·rw[if_neg hb] at h;cases h
 ·rw[if_neg hk] at h;cases h
theorem CM {f:Expr->Option Ex}(hf:∀ e c,f e=some c->SE X T e c){o:Expr}{name:Str}{es:List Expr}{c:Ex}{apos cpos:Pos}(h:CO f o name es apos cpos=some c):PE X (.Call (.Attribute o name apos) es [] cpos) (tE X.K T c):=by
 cases h
theorem rR {own:Nat}{pick:List Nat}{t:jL}(h:tN own t=true)(i:Nat)(hi:t = .nm i\/∃ is,t = .tp is/\i∈is):(dQ own pick)[i]? = some none:=by
 have:i<own:=by
  rcases hi with rfl | ⟨is,rfl,hm⟩
  ·simpa[tN] using h
  ·simp only[tN,List.all_eq_true,decide_eq_true_eq] at h;exact h i hm
 unfold dQ;rw[List.getElem?_append_left (by simpa using this),List.getElem?_replicate,if_pos this]
structure l7 (X:Cx)(S:Sc)(T:Tb)(elt tg iter:Expr)(ifs:List Expr)(sc:Scope)(c:Ex):Prop where
 ex:∃ pick t it ci ce,c = .comp (bC sc).length pick t it ci ce/\dJ X sc (bC sc++bI sc) (dQ (bC sc).length pick)/\PI X tg iter (tI X.K T it) /\
  (∀ C s0 H0 ex,PG (inner X sc (bC sc++bI sc) C s0 H0 ex) tg (qq X.K t)/\C5 (inner X sc (bC sc++bI sc) C s0 H0 ex) ifs (Ck X.K T ci)/\PE (inner X sc (bC sc++bI sc) C s0 H0 ex) elt (tE X.K T ce)) /\
  tN (bC sc).length t=true/\gE iter=true
theorem k4 (C:Ctx X S T){f:Sc->Expr->Option Ex}(hf:∀{X:Cx}{S:Sc},Ctx X S T->∀ e c,f S e=some c->SE X T e c){elt tg iter:Expr}{ifs:List Expr}{sc:Scope}{c:Ex}(h:pf S f elt tg iter ifs sc=some c):l7 X S T elt tg iter ifs sc c:=by
 unfold pf at h;by_cases hk:(jd S sc&&gE iter)=true
 ·rw[if_pos hk] at h;rw[ah] at hk;rw[ae] at h;obtain⟨it,h1,h⟩:=h;rw[ae] at h;obtain⟨pick,h2,h⟩:=h;rw[ae] at h;obtain⟨t,h3,h⟩:=h;by_cases ho:tN (bC sc).length t=true
  ·rw[if_pos ho] at h;rw[ae] at h;obtain⟨ci,h4,h⟩:=h;rw[aa] at h;obtain⟨ce,h5,rfl⟩:=h;refine⟨pick,t,it,ci,ce,rfl,qw C hk.1 h2,AD C (hf C) h1,fun Ca s0 H0 ex=>?_,ho,hk.2⟩;have C':=tK C hk.1 Ca s0 H0 ex;refine⟨vn C' h3,?_,(hf C' elt ce h5).1⟩;unfold Dk at h4;split at h4
   ·cases h4;exact xU
   ·rw[aa] at h4;obtain⟨cc,h4,rfl⟩:=h4;exact zm (hf C' _ cc h4).2
   ·cases h4
  ·rw[if_neg ho] at h;cases h
 ·rw[if_neg hk] at h;cases h
theorem x5 (C:Ctx X S T){elt tg iter:Expr}{ifs:List Expr}{sc:Scope}{c:Ex}{pos:Pos}(h:l7 X S T elt tg iter ifs sc c):PE X (.ListComp elt [⟨tg,iter,ifs,0⟩] sc pos) (tE X.K T c):=by
 obtain⟨pick,t,it,ci,ce,rfl,h1,h2,h3,h4,h5⟩:=h;exact bJ (xV h1 C.calm h2 h3 (lX (rR h4)) (rf h5)) fun σ H Q h=>lK h
theorem yX (C:Ctx X S T){f:Expr->Option Ex}(hf:∀ e c,f e=some c->SE X T e c){x kn:Str}{a d:Expr}{c:Ex}{p kp pos:Pos}(h:vV S f x a d kn=some c):PE X (.Call (.Name x p) [a] [⟨some kn,d,kp⟩] pos) (tE X.K T c):=by
 cases h
theorem sX {k:Option Expr}{x:Str}(h:wo k=some x):∃ p,k=some (.Name x p):=by
 cases k with
 |none=>cases h
 |some e=>cases e<;>first | (cases h;exact⟨_,rfl⟩) | (cases h)
theorem xq {e:Expr}{v:Int}(h:Cp e=some v):∃ a b,e = .Constant (.int v) a b:=by
 cases e with
 |Constant c a b=>cases c<;>first | (cases h;exact⟨_,_,rfl⟩) | (cases h)
 |_=>cases h
theorem sf (C:Ctx X S T){pos:Pos}:∀{ks:List (Option Expr)}{vs:List Expr}{l:List (Nat×Int)},wZ S ks vs=some l->∃ us:List (V×Int),EA X pos ks vs (us.map fun q=>(tC q.1,tC (.int q.2)))/\Paired (fun (q:Nat×Int) (u:V×Int)=>q.2=u.2/\∀ H,Rep X.K H (T.gl q.1) u.1 []) l us/\ks.all (·.isSome)=true/\ks.length=vs.length/\ks.length=l.length
 |[],[],l,h=>by cases h;exact⟨[],yJ,.nil,rfl,rfl,rfl⟩
 | k::ks,e::vs,l,h=>by
  have hA:((wo k).bind fun x=>(Cp e).bind fun v=>if cG x&&nQ S.sc x then (idxOf S.qB x).bind fun i=>(wZ S ks vs).map fun l=>(i,v)::l else none)=some l:=h;clear h;obtain⟨x,hx,hB⟩:=ae.mp hA;clear hA;obtain⟨v,hv,hD⟩:=ae.mp hB;clear hB;obtain⟨p,e1⟩:=sX hx;obtain⟨a,b,e2⟩:=xq hv;rw[e1,e2];by_cases hc:(cG x&&nQ S.sc x)=true
  ·rw[if_pos hc] at hD;rw[ah] at hc;obtain⟨i,h1,hE⟩:=ae.mp hD;obtain⟨l',h2,rfl⟩:=aa.mp hE;obtain⟨us,g1,g2,g3,g4,g5⟩:=sf C (pos:=pos) h2;obtain⟨u,w,e1,e2,e3⟩:=C.qB i x h1;obtain⟨n1,n2,n3⟩:=cD hc.1;exact⟨(u,v)::us,vq (dB (C.gl x hc.2) e1 e2 n1) rq g1,.cons ⟨rfl,e3⟩ g2,by rw[List.all_cons,g3];rfl,by rw[az,az,g4],by rw[az,az,g5]⟩
  ·rw[if_neg hc] at hD;cases hD
 |[],_::_,l,h=>by cases h
 |_::_,[],l,h=>by cases h
theorem nX {Q:List (V×V)->Hp->Prop}{σ:L2.St}{H:Hp}:∀{us:List (V×Int)},Q (us.map fun q=>(q.1,.int q.2)) H->kU (us.map fun q=>(tC q.1,tC (.int q.2))) σ H Q
 |[],h=>h
 | (u,i)::us,h=>by
  show kU (us.map fun q=>(tC q.1,tC (.int q.2))) σ H (fun ps H3=>Q ((u,.int i)::ps) H3);exact nX (us:=us) (Q:=fun ps H3=>Q ((u,.int i)::ps) H3) h
theorem yI {K:Frag}{gl:Nat->D}{l:List (Nat×Int)}{us:List (V×Int)}(r:Paired (fun (q:Nat×Int) (u:V×Int)=>q.2=u.2/\∀ H,Rep K H (gl q.1) u.1 []) l us) :
  ∀{ks ks':List (Int×MV)}{xs:List (Key×V)},xY gl l ks=some ks'->(∀ H,jE K H ks xs)->∃ kvs:List (Key×V),(us.map fun q=>(q.1,(.int q.2:V)))=kvs.map (fun kv=>(kV kv.1,kv.2))/\kvs.length=l.length/\∀ H,jE K H ks' (fR xs kvs):=by
 induction r with
 |nil=>intro ks ks' xs h k;cases h;exact⟨[],rfl,rfl,k⟩
 |@cons q u l us h0 t ih =>
  intro ks ks' xs h k;unfold xY at h;split at h
  ·rename_i i hi;have r1:=h0.2 fun _=>none
   rw[hi] at r1;obtain⟨e,_⟩:=r1.int_inv;obtain⟨kvs,e1,e2,e3⟩:=ih (xs:=putK xs (.inl i) (.int q.2)) h (fun H=>(k H).put i (m:=.int q.2) rfl);refine⟨(.inl i,.int q.2)::kvs,?_,by rw[az,az,e2],e3⟩;rw[ba,ba,e1,<-h0.1,e];rfl
  ·cases h
theorem BG (C:Ctx X S T){pos:Pos}{ks:List (Option Expr)}{vs:List Expr}{l:List (Nat×Int)}(h:wZ S ks vs=some l)(h0:ks≠[])(h15:ks.length<=15):PE X (.Dict ks vs pos) (tE X.K T (.ddsp l)):=by
 obtain⟨us,g1,g2,g3,g4,g5⟩:=sf C (pos:=pos) h;refine bJ (y0 g1 g3 g4 h0 h15) fun σ H Q ⟨P,env,F,re,p,hev,k⟩=>?_
 unfold ev at hev;obtain⟨ks',h1,hev⟩:=Rs.bind_ok hev;cases hev;intro a ha;obtain⟨kvs,e1,e2,e3⟩:=yI g2 (cL h1) (xs:=[]) fun _=>trivial
 refine nX ⟨aK,kvs,e1,by omega,?_⟩;have eu:upd (upd H a (.dK [])) a (.dK (fR [] kvs))=upd H a (.dK (fR [] kvs)):=by
  funext b;by_cases e:b=a
  ·rw[e,aK,aK]
  ·rw[aF e,aF e,aF e]
 rw[eu];refine k _ _ [a] (aE.new ha) (.mpi (xs:=fR [] kvs) aK (e3 _)) ⟨fun b hb=>?_,fun R hR=>⟨by simp,fun b hb=>?_,fun b hb=>?_⟩⟩
 ·obtain rfl:=List.mem_singleton.mp hb;exact .inl ha
 ·obtain rfl:=List.mem_singleton.mp hb;exact⟨.k _,aK⟩
 ·obtain rfl:=List.mem_singleton.mp hb;exact .inl ha
theorem uI {b e:Expr}(h:sL b=some e):∃ q,b = .List [e] q/\∀ env,starEach [e] env=(false,eval e env)::starEach [] env:=by
 unfold sL at h;split at h
 ·split at h
  ·split at h
   ·cases h;exact⟨_,rfl,fun _=>rfl⟩
   ·cases h
  ·cases h
 ·cases h
theorem zu {a e:Expr}{ca ce:Ex}{pos q:Pos}(ha:PE X a (tE X.K T ca))(he:PE X e (tE X.K T ce))(hs:∀ env,starEach [e] env=(false,eval e env)::starEach [] env):PE X (.BinOp a .Add (.List [e] q) pos) (tE X.K T (.snoc ca ce)):=by
 refine bJ (AK rC ha (wx (aX he eK (hs _)))) fun σ H Q ⟨P,env,F,re,p,hev,k⟩=>?_
 unfold ev at hev;obtain⟨x,h1,hev⟩:=Rs.bind_ok hev;obtain⟨y,h2,hev⟩:=Rs.bind_ok hev;obtain⟨d,h3,hev⟩:=Rs.bind_ok hev;cases hev;have h3:=cL h3;obtain⟨x1,xr⟩:=x;obtain⟨y1,yr⟩:=y;unfold zY at h3;dsimp only at h3;split at h3
 ·rename_i xs;split at h3
  ·rename_i hc;cases h3;rw[ah,decide_eq_true_iff] at hc;refine⟨P,env,F,re,_,h1,fun v H1 G1 s1 r1 t1=>?_⟩;obtain⟨pa,vs,G1',rfl,rfl,a1,a2⟩:=r1.lst_inv;have eG:G1'=[]:=a2.flat hc.1;subst eG;refine⟨P,env,F,re.same s1,_,h2,fun u H2 G2 s2 r2 t2=>⟨(show (1:Nat)<=sizeLine by decide),fun p' hp'=>?_⟩⟩;obtain⟨nd,ml,nw⟩:=t2.mv [] rfl;have s3:=aE.new (o:=.lst [u]) hp';have a1':Rd (upd H2 p' (.lst [u])) pa (.lst vs):=by
    rcases a1 with q | ⟨o,q⟩
    ·exact .inl ((s2.trans s3) _ _ q)
    ·exact .inr ⟨o,(s2.trans s3) _ _ q⟩
   refine⟨pa,p',vs,[u],rfl,rfl,a1',.inl aK,?_,fun q0 hq0=>?_⟩
   ·have hl:=a2.len;rw[<-hl];exact kG hc.2
   ·have s4:=aE.new (o:=.lst (vs ++ [u])) hq0;have sAll:=s1.trans (s2.trans (s3.trans s4));have new1:∀ z∈G2,H z=none:=fun z hz=>by
     rcases nw z hz with w | ⟨i,_,_,hi,_⟩
     ·exact aE.no s1 w
     ·cases hi
    have nn2:∀ z∈G2,H2 z≠none:=fun z hz=>by
     obtain⟨m,e⟩:=ml z hz;rw[e];simp
    refine k (.ref q0) _ (q0::G2) sAll (.lst (.inl aK) ?_) ⟨fun z hz=>?_,fun R hR=>⟨?_,fun z hz=>?_,fun z hz=>?_⟩⟩
    ·have ra:=a2.same (s2.trans (s3.trans s4));have rb:=r2.same (s3.trans s4);have:=ra.append (.cons rb .nil)
     rwa [List.nil_append,bc] at this
    ·rcases gc.mp hz with rfl | hz
     ·exact .inl (aE.no (s1.trans (s2.trans s3)) hq0)
     ·exact .inl (new1 z hz)
    ·refine List.nodup_cons.mpr ⟨fun hz=>?_,nd⟩;have:=aE.no s3 hq0;exact nn2 q0 hz this
    ·rcases gc.mp hz with rfl | hz
     ·exact⟨.l _,aK⟩
     ·obtain⟨m,e⟩:=ml z hz;exact⟨m,(s3.trans s4) z _ e⟩
    ·rcases gc.mp hz with rfl | hz
     ·exact .inl (aE.no (s1.trans (s2.trans s3)) hq0)
     ·exact .inl (new1 z hz)
  ·cases h3
 ·cases h3
theorem fK:∀(n:Nat) {X:Cx}{S:Sc}{T:Tb}(C:Ctx X S T) (e:Expr) (c:Ex),cE n S e=some c->SE X T e c:=by
 intro n
 induction n with
 |zero=>intro X S T C e c h;cases h
 |succ n ih =>
  intro X S T C e c h;have ihX:=ih C;cases e with
  |Name x p =>
   have h:xv S x=some c:=h;unfold xv at h;by_cases hn:cG x=true
   ·rw[if_pos hn] at h;obtain⟨n1,n2,n3⟩:=cD hn;by_cases hv:lu S.sc x=true
    ·rw[if_pos hv,aa] at h;obtain⟨i,h1,rfl⟩:=h;have hi:=bS h1;rw[<-C.N] at hi;have:=CW (T:=T) (pos:=p) hi (C.vis x hv) n1 n2;exact⟨this,cA this fun _=>rfl⟩
    ·rw[if_neg hv] at h;by_cases hg:nQ S.sc x=true
     ·rw[if_pos hg,aa] at h;obtain⟨i,h1,rfl⟩:=h;obtain⟨v,u,g1,g2,g3⟩:=C.qB i x h1;have:=AQ (dB (pos:=p) (C.gl x hg) g1 g2 n1) g3;exact⟨this,cA this fun _=>rfl⟩
     ·rw[if_neg hg] at h;cases h
   ·rw[if_neg hn] at h;cases h
  |Constant k x1 p =>
   have h:DF k=some c:=h;cases k with
   |int i=>cases h;exact⟨gO (T:=T) rq fun H=>Rep.int _,cA (gO (T:=T) rq fun H=>Rep.int _) fun _=>rfl⟩
   |bool b=>cases h;exact⟨gO (T:=T) vU fun H=>Rep.bl _,cA (gO (T:=T) vU fun H=>Rep.bl _) fun _=>rfl⟩
   |none=>cases h;exact⟨gO (T:=T) qJ fun H=>Rep.non,cA (gO (T:=T) qJ fun H=>Rep.non) fun _=>rfl⟩
   |str s=>cases h;exact⟨gO (T:=T) qN fun H=>Rep.str _,cA (gO (T:=T) qN fun H=>Rep.str _) fun _=>rfl⟩
   |_=>cases h
  |BinOp a op b p =>
   have h:Bl (cE n S) a op b=some c:=h;unfold Bl at h;cases hlt:sL b with
   |none =>
    rw[hlt] at h;dsimp only at h;rw[ae] at h;obtain⟨ca,h1,h⟩:=h;rw[aa] at h;obtain⟨cb,h2,rfl⟩:=h;have:=BV (pos:=p) (yu op) (ihX a ca h1).1 (ihX b cb h2).1;exact⟨this,cA this fun _=>rfl⟩
   |some e =>
    rw[hlt] at h;dsimp only at h;by_cases ho:isAdd op=true
    ·rw[if_pos ho] at h;rw[ae] at h;obtain⟨ca,h1,h⟩:=h;rw[aa] at h;obtain⟨ce,h2,rfl⟩:=h;obtain⟨q,hq,hse⟩:=uI hlt;have ho:op = .Add:=by cases op<;>first | rfl | (cases ho)
     subst ho;rw[hq];have:=zu (pos:=p) (q:=q) (ihX a ca h1).1 (ihX e ce h2).1 hse;exact⟨this,cA this fun _=>rfl⟩
    ·rw[if_neg ho] at h;cases h
  |UnaryOp op a p =>
   have h:cUn op (cE n S a)=some c:=h;cases op with
   |USub =>
    have h:(cE n S a).map .neg=some c:=h;rw[aa] at h;obtain⟨ca,h1,rfl⟩:=h;have:=Cu (pos:=p) (ihX a ca h1).1;exact⟨this,cA this fun _=>rfl⟩
   |Not =>
    have h:(cE n S a).map .not=some c:=h;rw[aa] at h;obtain⟨ca,h1,rfl⟩:=h;exact⟨BN (ihX a ca h1).1,BO (ihX a ca h1).2⟩
   |_=>cases h
  |BoolOp op es p =>
   have h:E9 (cE n S) op es=some c:=h;have ⟨h1,h2⟩:=Ap (pos:=p) ihX h;exact⟨h1,h2.pt⟩
  |Compare a ops bs p =>
   have h:DC (cE n S) a ops bs=some c:=h;cases ops with
   |nil=>cases h
   |cons op r=>cases r with
    |nil=>cases bs with
     |nil=>cases h
     |cons b r2=>cases r2 with
      |cons _ _=>cases h
      |nil =>
       have h:w6 (cE n S) a op b=some c:=h;unfold w6 at h;by_cases hb:behindInMarks op b=true
       ·rw[if_pos hb] at h;cases h
       ·rw[if_neg hb] at h;have hb:behindInMarks op b=false:=by simpa using hb
        rw[ae] at h;obtain⟨ca,h1,h⟩:=h;rw[aa] at h;obtain⟨cb,h2,rfl⟩:=h;exact⟨CK (rS op C.units) (ihX a ca h1).1 (ihX b cb h2).1 hb,Bg C.units (ihX a ca h1).1 (ihX b cb h2).1 hb⟩
    |cons op' r2=>cases r2 with
     |cons _ _=>cases bs<;>cases h
     |nil=>cases bs with
      |nil=>cases h
      |cons b r3=>cases r3 with
       |nil=>cases h
       |cons d r4=>cases r4 with
        |cons _ _=>cases h
        |nil =>
         have h:Aw (cE n S) a op op' b d=some c:=h;cases h
  |IfExp t a b p =>
   have h:((cE n S t).bind fun cc=>(cE n S a).bind fun ca=>(cE n S b).map fun cb=>.ite cc ca cb)=some c:=h;rw[ae] at h;obtain⟨cc,h1,h⟩:=h;rw[ae] at h;obtain⟨ca,h2,h⟩:=h;rw[aa] at h;obtain⟨cb,h3,rfl⟩:=h;exact⟨A2 (ihX t cc h1).2 (ihX a ca h2).1 (ihX b cb h3).1,BA (ihX t cc h1).2 (ihX a ca h2).2 (ihX b cb h3).2⟩
  |List es p =>
   have h:(cQ (cE n S) es).map .lst=some c:=h;rw[aa] at h;obtain⟨cs,h1,rfl⟩:=h;have:=CQ (pos:=p) (cX ihX h1);exact⟨this,cA this fun _=>rfl⟩
  |Dict ks vs p =>
   have h:Cj S ks vs=some c:=h;unfold Cj at h;split at h
   ·cases h
   ·split at h
    ·rename_i hl;obtain⟨l,h1,rfl⟩:=aa.mp h;have:=BG (pos:=p) C h1 (by simp) hl;exact⟨this,cA this fun _=>rfl⟩
    ·cases h
   ·cases h
  |Tuple es x1 p =>
   have h:(cQ (cE n S) es).map .tup=some c:=h;rw[aa] at h;obtain⟨cs,h1,rfl⟩:=h;have:=AU (pos:=p) (x1:=x1) (cX ihX h1);exact⟨this,cA this fun _=>rfl⟩
  |Subscript a b p =>
   have h:AF (cE n S) a b=some c:=h;by_cases hb:gL b=true
   ·have h:(if gL b then (cE n S a).bind fun ca=>(cE n S b).map fun cb=>.ix ca cb else none)=some c:=by
     cases b<;>first | exact h | cases hb
    rw[if_pos hb] at h;rw[ae] at h;obtain⟨ca,h1,h⟩:=h;rw[aa] at h;obtain⟨cb,h2,rfl⟩:=h;have:=Em (pos:=p) (zk C.units.2) (ihX a ca h1).1 (ihX b cb h2).1 (o9 hb);exact⟨this,cA this fun _=>rfl⟩
   ·cases b with
    |Slice lo hi st p2 =>
     cases st with
     |none =>
      have h:((cE n S a).bind fun ca=>(uV (cE n S) lo).bind fun l=>(uV (cE n S) hi).map fun h=>.sl ca l h)=some c:=h;rw[ae] at h;obtain⟨ca,h1,h⟩:=h;rw[ae] at h;obtain⟨cl,h2,h⟩:=h;rw[aa] at h;obtain⟨ch,h3,rfl⟩:=h;have:=D7 (pos:=p) (p2:=p2) (ihX a ca h1).1 (vj ihX h2) (vj ihX h3);exact⟨this,cA this fun _=>rfl⟩
     |some _=>cases h
    |_=>exact absurd rfl hb
  |Call g es ks pos =>
   have h:xA S (cE n S) g es ks pos=some c:=h;cases g with
   |Name x p =>
    have h:vy S (cE n S) x es ks=some c:=h;cases ks with
    |nil =>
     have h:rA S (cE n S) x es=some c:=h;have:=yo (p:=p) (pos:=pos) C ihX h;exact⟨this,cA this fun _=>rfl⟩
    |cons k r=>cases r with
     |cons _ _=>obtain⟨_,_,_⟩:=k;cases h
     |nil =>
      obtain⟨k,d,kp⟩:=k;cases k with
      |none=>cases h
      |some kn=>cases es with
       |nil=>cases h
       |cons a r2=>cases r2 with
        |cons _ _=>cases h
        |nil =>
         have h:vV S (cE n S) x a d kn=some c:=h;have:=yX (p:=p) (kp:=kp) (pos:=pos) C ihX h;exact⟨this,cA this fun _=>rfl⟩
   |Attribute o name apos =>
    cases ks with
    |nil =>
     have h:CO (cE n S) o name es apos pos=some c:=h;have:=CM (apos:=apos) (cpos:=pos) ihX h;exact⟨this,cA this fun _=>rfl⟩
    |cons _ _=>cases h
   |_=>cases h
  |ListComp elt gens sc pos =>
   have h:cLC S (cE n) elt sc gens=some c:=h;cases gens with
   |nil=>cases h
   |cons g r=>cases r with
    |cons _ _=>obtain⟨_,_,_,_⟩:=g;cases h
    |nil =>
     obtain⟨tg,iter,ifs,as⟩:=g;have h:(if as=0 then pf S (cE n) elt tg iter ifs sc else none)=some c:=h;by_cases ha:as=0
     ·rw[if_pos ha] at h;subst ha;have:=x5 (pos:=pos) C (k4 C (fun C'=>ih C') h);exact⟨this,cA this fun _=>rfl⟩
     ·rw[if_neg ha] at h;cases h
  |_=>cases h
end
section
variable {X:Cx}{T:Tb}
end
structure pK (X:Cx)(S:Sc)(T:Tb):Prop where
 c:Ctx X S T
 sc:X.env.scope=S.sc
 fn:S.sc.kind = .function
 own:PassesOwn (model X.prog X.w) X.A X.env X.xe
noncomputable def Ar (m:Str):Option nk:=if m = "append" then some .append else none
noncomputable def xG (m:Str):Option nk:=none
noncomputable def kF (n:Nat)(S:Sc):Expr->Option (Nat×km)
 |.Name x _=>if cG x&&lu S.sc x then (idxOf S.N x).map fun i=>(i,.none) else none
 | .Subscript (.Name x _) e _=>if cG x&&lu S.sc x&&gL e then (idxOf S.N x).bind fun i=>(cE n S e).map fun c=>(i,.some c) else none
 |_=>none
noncomputable def xE:Expr->Bool
 | .Constant (.bool true) _ _=>true
 |.Tuple _ _ _=>true
 |.IfExp _ _ _ _=>true
 |_=>false
noncomputable def mvB (x:Str):Expr->Bool
 |.Name y _=>x==("_law_best" : Str)&&y==("_law_way" : Str)
 | .List (.Name y _::_) _=>x==("_law_rows" : Str)&&y==("_law_turned" : Str)
 |_=>false
noncomputable def ya (n:Nat)(S:Sc)(tg e:Expr):Option St:=match tg with
 |.Name x px=>match e with
  |.ListComp elt [⟨tg',iter,ifs,0⟩] sc p=>if jg S.sc x then (idxOf S.N x).bind fun i=>(cE n S (.ListComp elt [⟨tg',iter,ifs,0⟩] sc p)).map fun c=>.asg (.nm i) c false else none
  |e=>if eW e then none else if jg S.sc x then (idxOf S.N x).bind fun i=>(cE n S e).map fun c=>.asg (.nm i) c (mvB x e) else none
 |.Tuple es k p=>if eW e || isTup e then none else (kx S es).bind fun is=>(cE n S e).map fun c=>.asg (.tp is) c false
 |.Subscript o ix p=>if xE e then none else if eW e || !gL ix then none else (kF n S o).bind fun q=>(cE n S ix).bind fun ci=>(cE n S e).map fun c=>.setix q.1 q.2 ci c
 |_=>none
noncomputable def y6 (n:Nat)(S:Sc)(o:Expr)(name:Str)(es:List Expr)(apos cpos:Pos):Option St :=
 if apos.endLine==cpos.line then (if es.isEmpty then (xG name).bind fun m=>(kF n S o).map fun q=>.mut q.1 q.2 m .nil else (Ar name).bind fun m=>(kF n S o).bind fun q=>match es with
  |[a]=>(cQ (cE n S) [a]).map fun cs=>.mut q.1 q.2 m cs
  |[a,b]=>(cQ (cE n S) [a,b]).map fun cs=>.mut q.1 q.2 m cs
  |_=>none)
 else none
noncomputable def sk (n:Nat)(S:Sc)(o:Expr)(name:Str)(es:List Expr)(apos cpos:Pos):Option St:=match es with
 |_=>none
noncomputable def cAug (n:Nat)(S:Sc)(tg:Expr)(op:Operator)(e:Expr):Option St:=none
noncomputable def yi (n:Nat)(S:Sc)(tg e:Expr):Option St:=none
noncomputable def C4 (n:Nat)(S:Sc)(e:Expr):Option St:=if eW e then none else (cE n S e).map .expr
noncomputable def Fb (n:Nat)(S:Sc):Expr->Option St
 |.Constant k x1 p=>(match k with
  |.str _=>some .pass
  |k=>C4 n S (.Constant k x1 p))
 |.Call g es ks cpos=>(match g with
  |.Attribute o name apos=>(match ks with
   |[]=>(match sk n S o name es apos cpos with
    |some c=>some c
    |none=>y6 n S o name es apos cpos)
   |k::ks=>C4 n S (.Call (.Attribute o name apos) es (k::ks) cpos))
  |g=>C4 n S (.Call g es ks cpos))
 |e=>C4 n S e
noncomputable def cAs (n:Nat)(S:Sc)(e:Expr):List Expr->Option St
 |[]=>none
 |[tg]=>(match yi n S tg e with
  |some c=>some c
  |none=>ya n S tg e)
 |_::_::_=>none
noncomputable def cRet (n:Nat)(S:Sc):Option Expr->Option St
 |none=>some .retN
 |some e=>(cE n S e).map .ret
noncomputable def rV:jL->bW->Option Nat
 |_,_=>none
theorem vN {t:jL}{cb:bW}{x:Nat}(h:rV t cb=some x):t = .nm x:=by
 cases h
noncomputable def EZ (n:Nat)(S:Sc)(tg iter:Expr)(ob:Option bW):List Stmt->Option St
 |[]=>if gE iter then (uh S tg).bind fun t=>ob.bind fun cb=>(match rV t cb with
  |some x=>(cE n S iter).map fun c=>.forw x c cb
  |none=>(C6 S (cE n S) (isTup tg) iter).map fun it=>.forr t it cb) else none
 |_::_=>none
noncomputable def DS (S:Sc):Expr->Option St->Option St
 |_,o=>o
theorem xf {S:Sc}{e:Expr}{o:Option St}{c:St}(h:DS S e o=some c):o=some c:=h
noncomputable def cWhl (n:Nat)(S:Sc)(e:Expr)(ob:Option bW):List Stmt->Option St
 |[]=>none
 |_::_=>none
mutual
noncomputable def cS:Nat->Sc->Stmt->Option St
 |0,_,_=>none
 |n+1,S,st=>match st with
  |.Assign tgs e _=>cAs n S e tgs
  |.AugAssign tg op e _=>cAug n S tg op e
  |.Expr e _=>Fb n S e
  |.Return o _=>cRet n S o
  |.If e a b _=>(cE n S e).bind fun c=>(qc n S a).bind fun ca=>(qc n S b).map fun cb=>.ite c ca cb
  |.For tg iter b oe _=>DS S iter (EZ n S tg iter (qc n S b) oe)
  |.While e b oe _=>cWhl n S e (qc n S b) oe
  |.Pass _=>some .pass
  |.Raise _ _ _=>some (.expr (.neg (.cst .non)))
  |_=>none
noncomputable def qc:Nat->Sc->List Stmt->Option bW
 |0,_,_=>none
 |_+1,_,[]=>some .nil
 |n+1,S,s::r=>(cS n S s).bind fun c=>(qc n S r).map fun d=>.cons c d
end
theorem mX {e:Expr}{t:Option Expr}{l:Nat}{env:Env}(h:eW e=false):swapsWith e t l env=pure false:=by
 cases e<;>first | rfl | (cases h)
theorem lL {e t:Expr}{l:Nat}{env:Env}(h:eW e=false):swapsWithSole [t] e l env=pure false:=mX h
section
variable {X:Cx}{S:Sc}{T:Tb}
theorem zG {st:Stmt}:PS X st (tS X.K T (.expr (.neg (.cst .non)))):=by
 intro pins s σ H D I h;obtain⟨P,Z,env,F,re,hz,zp,h⟩:=h;exact h.elim
theorem jT (C:Ctx X S T){n:Nat}{o:Expr}{q:Nat×km}(h:kF n S o=some q):PE X o (mh X.K T q.1 q.2):=by
 unfold kF at h;split at h
 ·rename_i x p;by_cases hk:(cG x&&lu S.sc x)=true
  ·rw[if_pos hk,aa] at h;rw[ah] at hk;obtain⟨i,h1,rfl⟩:=h;obtain⟨n1,n2,n3⟩:=cD hk.1;have hi:=bS h1;rw[<-C.N] at hi;exact Be hi (C.vis x hk.2) n1 n2
  ·rw[if_neg hk] at h;cases h
 ·rename_i x p e pos;by_cases hk:(cG x&&lu S.sc x&&gL e)=true
  ·rw[if_pos hk,ae] at h;rw[ah,ah] at hk;obtain⟨i,h1,h⟩:=h;rw[aa] at h;obtain⟨c,h2,rfl⟩:=h;obtain⟨n1,n2,n3⟩:=cD hk.1.1;have hi:=bS h1;rw[<-C.N] at hi;exact ze hi (C.vis x hk.1.2) n1 n2 (fK n C e c h2).1 (o9 hk.2)
  ·rw[if_neg hk] at h;cases h
 ·cases h
theorem jf {n:Nat}{o:Expr}{q:Nat×km}{name:Str}{env:Env}(h:kF n S o=some q):attributeBase o name env (eval o env)=eval o env:=by
 unfold kF at h;split at h
 ·rfl
 ·rfl
 ·cases h
theorem CV (C:pK X S T){n:Nat}{tg e:Expr}{c:St}{pos:Pos}(h:ya n S tg e=some c):PS X (.Assign [tg] e pos) (tS X.K T c):=by
 have hN:=C.c.nd;rw[<-C.c.N] at hN;unfold ya at h;split at h
 ·rename_i x px;split at h
  ·rename_i elt tg' iter ifs sc p;by_cases hl:jg S.sc x=true
   ·rw[if_pos hl,ae] at h;obtain⟨i,h1,h⟩:=h;rw[aa] at h;obtain⟨ce,h2,rfl⟩:=h;have hi:=bS h1;rw[<-C.c.N] at hi;have hsw:swapsWith (.ListComp elt [⟨tg',iter,ifs,0⟩] sc p) (some (.Name x px)) pos.line X.env=pure (X.env.blockKind == .function&&X.env.kindOf x==some .local&&px.line==p.line && !(sc.names.any fun (n,k)=>n==x&&(k == .local || k == .cell))):=rfl;cases hb:(X.env.blockKind == .function&&X.env.kindOf x==some .local&&px.line==p.line && !(sc.names.any fun (n,k)=>n==x&&(k == .local || k == .cell))) with
    |false =>
     rw[hb] at hsw;exact w8 hN hi (C.c.loc x hl).1 (fK n C.c _ _ h2).1 hsw (C.c.loc x hl).2
    |true =>
     rw[hb] at hsw;cases n with
     |zero=>cases h2
     |succ n =>
      have h2:pf S (cE n) elt tg' iter ifs sc=some ce:=h2;obtain⟨pick,t,it,ci,ce',rfl,g1,g2,g3,g4,g5⟩:=k4 C.c (fun C'=>fK n C') h2;refine dA (qe g1 C.c.calm g2 g3 (lX (rR g4)) (rf g5) hN hi (C.c.loc x hl).1 (C.c.loc x hl).2 hsw) fun D σ H h=>?_
      obtain⟨P,Z,env,F,re,hz,zp,h⟩:=h;unfold aT at h;obtain⟨p,hp,h⟩:=cP h;exact lK ⟨P,env,F,re,p,hp,fun v H' G s rp rt=>wa re hz zp s rp rt h⟩
   ·rw[if_neg hl] at h;cases h
  ·by_cases hc:eW e=true
   ·rw[if_pos hc] at h;cases h
   ·rw[if_neg hc] at h;by_cases hl:jg S.sc x=true
    ·rw[if_pos hl,ae] at h;obtain⟨i,h1,h⟩:=h;rw[aa] at h;obtain⟨ce,h2,rfl⟩:=h;have hi:=bS h1;rw[<-C.c.N] at hi;exact w8 hN hi (C.c.loc x hl).1 (fK n C.c _ _ h2).1 (mX (by simpa using hc)) (C.c.loc x hl).2
    ·rw[if_neg hl] at h;cases h
 ·rename_i es k p;by_cases hc:(eW e || isTup e)=true
  ·rw[if_pos hc] at h;cases h
  ·rw[if_neg hc,ae] at h;simp only[Bool.or_eq_true,not_or,Bool.not_eq_true] at hc;obtain⟨is,h1,h⟩:=h;rw[aa] at h;obtain⟨ce,h2,rfl⟩:=h;obtain⟨a1,a2,a3⟩:=oH C.c h1;refine yC (uR C.c.calm a1 a2 a3) (fK n C.c _ _ h2).1 (lL hc.1) ?_ rfl;obtain⟨_,hc⟩:=hc;cases e<;>first | rfl | (cases hc)
 ·rename_i o ix p;by_cases ht:xE e=true
  ·rw[if_pos ht] at h;cases h
  rw[if_neg ht] at h;by_cases hc:(eW e || !gL ix)=true
  ·rw[if_pos hc] at h;cases h
  ·rw[if_neg hc,ae] at h;simp only[Bool.or_eq_true,not_or,Bool.not_eq_true,Bool.not_eq_false'] at hc;obtain⟨q,h1,h⟩:=h;rw[ae] at h;obtain⟨ci,h2,h⟩:=h;rw[aa] at h;obtain⟨ce,h3,rfl⟩:=h;refine dA (xn (fK n C.c _ _ h3).1 (Cs (jT C.c h1) (fK n C.c _ _ h2).1 set_list ?_) (lL hc.1) ?_ rfl) fun D σ H h=>uY h
   ·intro v;obtain⟨_,hc⟩:=hc;cases ix<;>first | rfl | (cases hc)
   ·cases e<;>rfl
 ·cases h
theorem AW (C:pK X S T){n:Nat}{o:Expr}{name:Str}{es:List Expr}{c:St}{apos cpos pos:Pos}(h:y6 n S o name es apos cpos=some c):PS X (.Expr (.Call (.Attribute o name apos) es [] cpos) pos) (tS X.K T c):=by
 unfold y6 at h;by_cases hl:(apos.endLine==cpos.line)=true
 ·rw[if_pos hl] at h;by_cases he:es.isEmpty=true
  ·rw[if_pos he,ae] at h;have he:es=[]:=by simpa using he
   subst he;obtain⟨m,hm,h⟩:=h;rw[aa] at h;obtain⟨q,hq,rfl⟩:=h;have slot:∃ id,PySem.Slot "list" name id/\typeOf (.builtin id)=pure (.type "method_descriptor")/\MtR X id (xI X.K m):=by
    unfold xG at hm;cases hm
   obtain⟨id,s1,s2,s3⟩:=slot;exact dA (j4 (Bb iw s1 s2 s3 (jT C.c hq) (jf hq) hl) rfl) fun D σ H h=>uK h
  rw[if_neg he,ae] at h;obtain⟨m,hm,h⟩:=h;rw[ae] at h;obtain⟨q,hq,h⟩:=h;have slot:∃ id,PySem.Slot "list" name id/\typeOf (.builtin id)=pure (.type "method_descriptor")/\MtR X id (xI X.K m):=by
   unfold Ar at hm;split at hm
   ·rename_i e;cases hm;subst e;exact⟨_,PySem.F.slot_list_append,by rfl,qd⟩
   cases hm
  obtain⟨id,s1,s2,s3⟩:=slot;split at h
  ·rename_i a;rw[aa] at h;obtain⟨cs,ha,rfl⟩:=h;obtain⟨n1,c1,d1,_,hd,_⟩:=bE ha;refine dA (j4 (Am iw s1 s2 s3 (jT C.c hq) (cX (fK n C.c) ha) (jf hq) ?_ hl (bB n1) (dM hd)) rfl) fun D σ H h=>k9 h
   rw[bB n1];rfl
  ·rename_i a b;rw[aa] at h;obtain⟨cs,ha,rfl⟩:=h;obtain⟨n1,c1,d1,_,hd,_⟩:=bE ha;obtain⟨n2,_,_,_,_,_⟩:=bE hd;refine dA (j4 (Am iw s1 s2 s3 (jT C.c hq) (cX (fK n C.c) ha) (jf hq) ?_ hl (bB n1) (dM hd)) rfl) fun D σ H h=>k9 h
   rw[bB n1,bB n2];rfl
  ·cases h
 ·rw[if_neg hl] at h;cases h
theorem ym (C:pK X S T){n:Nat}{o:Expr}{name:Str}{es:List Expr}{c:St}{apos cpos pos:Pos}(h:sk n S o name es apos cpos=some c):PS X (.Expr (.Call (.Attribute o name apos) es [] cpos) pos) (tS X.K T c):=by
 cases h
theorem Bw (C:pK X S T){n:Nat}{tg e:Expr}{c:St}{pos:Pos}(h:yi n S tg e=some c):PS X (.Assign [tg] e pos) (tS X.K T c):=by
 cases h
theorem z7 (C:pK X S T):∀(n:Nat),(∀(st:Stmt) (c:St),cS n S st=some c->PS X st (tS X.K T c))/\∀(l:List Stmt) (c:bW),qc n S l=some c->iG X l (BI X.K T c):=by
 intro n
 induction n with
 |zero=>exact⟨fun st c h=>(by cases h),fun l c h=>(by cases h)⟩
 |succ n ih =>
  obtain⟨i1,i2⟩:=ih;refine⟨fun st c h=>?_,fun l c h=>?_⟩
  ·cases st with
   |Assign tgs e p =>
    have h:cAs n S e tgs=some c:=h;cases tgs with
    |nil=>cases h
    |cons tg r=>cases r with
     |cons _ _=>cases h
     |nil =>
      have h:(match yi n S tg e with
       |some c=>some c
       |none=>ya n S tg e)=some c:=h
      cases hp:yi n S tg e with
      |some c'=>rw[hp] at h;cases h;exact Bw C hp
      |none=>rw[hp] at h;exact CV C h
   |AugAssign tg op e p=>cases h
   |Expr e p =>
    have h:Fb n S e=some c:=h;have plain:C4 n S e=some c->PS X (.Expr e p) (tS X.K T c):=fun h=>by
     unfold C4 at h;by_cases hc:eW e=true
     ·rw[if_pos hc] at h;cases h
     ·rw[if_neg hc,aa] at h;obtain⟨ce,h1,rfl⟩:=h;exact yL (fK n C.c _ _ h1).1 (mX (by simpa using hc))
    cases e with
    |Constant k x1 q=>cases k with
     |str s=>cases h;exact CA
     |_=>exact plain h
    |Call g es ks q=>cases g with
     |Attribute o name apos=>cases ks with
      |nil =>
       have h:(match sk n S o name es apos q with
        |some c=>some c
        |none=>y6 n S o name es apos q)=some c:=h
       cases ha:sk n S o name es apos q with
       |some c'=>rw[ha] at h;cases h;exact ym C ha
       |none=>rw[ha] at h;exact AW C h
      |cons k ks=>exact plain h
     |_=>exact plain h
    |_=>exact plain h
   |Return o p=>cases o with
    |none=>cases h;exact xP
    |some e =>
     have h:(cE n S e).map .ret=some c:=h;rw[aa] at h;obtain⟨ce,h1,rfl⟩:=h;exact CU (fK n C.c _ _ h1).1
   |If e a b p =>
    have h:((cE n S e).bind fun c=>(qc n S a).bind fun ca=>(qc n S b).map fun cb=>St.ite c ca cb)=some c:=h;rw[ae] at h;obtain⟨cc,h1,h⟩:=h;rw[ae] at h;obtain⟨ca,h2,h⟩:=h;rw[aa] at h;obtain⟨cb,h3,rfl⟩:=h;exact Bt (fK n C.c _ _ h1).2 (i2 _ _ h2) (i2 _ _ h3)
   |For tg iter b oe p =>
    have key:∀ c,EZ n S tg iter (qc n S b) oe=some c->PS X (.For tg iter b oe p) (tS X.K T c):=by
     intro c h;cases oe with
      |cons _ _=>cases h
      |nil =>
       have h:(if gE iter then (uh S tg).bind fun t=>(qc n S b).bind fun cb=>(match rV t cb with
        |some x=>(cE n S iter).map fun c=>St.forw x c cb
        |none=>(C6 S (cE n S) (isTup tg) iter).map fun it=>St.forr t it cb) else none)=some c:=h
       by_cases hs:gE iter=true
       ·rw[if_pos hs,ae] at h;obtain⟨t,h1,h⟩:=h;rw[ae] at h;obtain⟨cb,h3,h⟩:=h;cases hx:rV t cb with
        |some x =>
         rw[hx] at h;have h:(cE n S iter).map (fun c=>St.forw x c cb)=some c:=h;rw[aa] at h;obtain⟨ci,h2,rfl⟩:=h;have ht:=vN hx;subst ht;cases hx
        |none =>
         rw[hx] at h;have h:(C6 S (cE n S) (isTup tg) iter).map (fun it=>St.forr t it cb)=some c:=h;rw[aa] at h;obtain⟨it,h2,rfl⟩:=h;exact BE C.own C.c.calm (AD C.c (fK n C.c) h2) (vn C.c h1) (i2 _ _ h3) (rf hs)
       ·rw[if_neg hs] at h;cases h
    exact key c (xf (S:=S) (e:=iter) h)
   |While e b oe p=>cases oe with
    |cons _ _=>cases h
    |nil =>
     cases h
   |Pass p=>cases h;exact za
   |Raise a b p=>cases h;exact zG
   |_=>cases h
  ·cases l with
   |nil=>cases h;exact x4
   |cons st r =>
    unfold qc at h;rw[ae] at h;obtain⟨cc,h1,h⟩:=h;rw[aa] at h;obtain⟨cb,h3,rfl⟩:=h;exact xt (i1 _ _ h1) (i2 _ _ h3)
end
structure Df where
 nm:Str
 st:Stmt
 ps:List Str
 N:List Str
 body:bW
structure Pg where
 dfs:List Df
 qB:List Str
 dS:List Str
 gl:Nat->D
 fuel:Nat
noncomputable def Pg.fns (p:Pg):List Fn:=p.dfs.map fun d=>⟨d.ps.length,d.N.length,d.body⟩
noncomputable def Pg.run (p:Pg):Nat->Nat->List D->Rs (D×Bool):=Pc.run p.fns p.gl p.fuel
noncomputable def Pg.sc (p:Pg)(d:Df):Sc:=⟨d.N,aH d.st,p.dfs.map (·.nm),p.qB,p.dS⟩
noncomputable def Df.okB (p:Pg)(n:Nat)(d:Df):Bool :=
 decide ((aH d.st).kind = .function) && !(aH d.st).isCoroutine && !(aH d.st).isGenerator&&decide d.N.Nodup&&decide (d.N.take d.ps.length=d.ps)&&d.ps.all (fun x=>jg (aH d.st) x)&&(aH d.st).names.all (fun y=>decide (y.2≠.free))
structure Df.Ok (p:Pg)(d:Df):Prop where
 b:∃ n,qc n (p.sc d) (bL d.st)=some d.body
 S:cW d.N d.ps (aH d.st)
 bd:∀(kV doc pm:Value) (an:Option Addr) (cdv ct:Value) (us:List Value),us.length=d.ps.length->bindArgs (PySem.W.fnOf d.nm d.nm (dP d.st) (bL d.st) (aH d.st) .none kV doc pm an cdv ct) ⟨us,[]⟩=pure (d.ps.zip us)
theorem iJ {sc:Scope}{x:Str}(h:jg sc x=true):Loc sc x:=by
 unfold jg cR at h;split at h
 ·rename_i e;exact .inl e
 ·rename_i e;exact .inr e
 ·cases h
theorem pZ {sc:Scope}{x:Str}(h:lu sc x=true):xJ sc x:=by
 unfold lu cR at h;split at h
 ·rename_i e;exact .inl e
 ·rename_i e;exact .inr (.inl e)
 ·rename_i e;exact .inr (.inr e)
 ·cases h
theorem rZ {sc:Scope}{x:Str}(h:nQ sc x=true):sc.names.lookup x=some .globalImplicit:=by
 unfold nQ cR at h;split at h
 ·rename_i e;exact e
 ·cases h
theorem len0 {P:List Value->Prop}{us:List Value}(h:us.length=0)(f:P []):P us:=by
 cases us with
 |nil=>exact f
 |cons a r=>cases h
theorem iK {P:List Value->Prop}{us:List Value}(h:us.length=1)(f:∀ a,P [a]):P us:=by
 cases us with
 |nil=>cases h
 |cons a r=>exact len0 (P:=fun r=>P (a::r)) (Nat.succ.inj h) (f a)
theorem lE {P:List Value->Prop}{us:List Value}(h:us.length=2)(f:∀ a b,P [a,b]):P us:=by
 cases us with
 |nil=>cases h
 |cons a r=>exact iK (P:=fun r=>P (a::r)) (Nat.succ.inj h) (f a)
theorem BK {P:List Value->Prop}{us:List Value}(h:us.length=3)(f:∀ a b c,P [a,b,c]):P us:=by
 cases us with
 |nil=>cases h
 |cons a r=>exact lE (P:=fun r=>P (a::r)) (Nat.succ.inj h) (f a)
theorem Df.ok_of {p:Pg}{d:Df}{n:Nat}(h:d.okB p n=true)(hb:qc n (p.sc d) (bL d.st)=some d.body)
  (bd:∀(kV doc pm:Value) (an:Option Addr) (cdv ct:Value) (us:List Value),us.length=d.ps.length->bindArgs (PySem.W.fnOf d.nm d.nm (dP d.st) (bL d.st) (aH d.st) .none kV doc pm an cdv ct) ⟨us,[]⟩=pure (d.ps.zip us)):d.Ok p:=by
 unfold Df.okB at h;simp only[Bool.and_eq_true,decide_eq_true_eq,Bool.not_eq_true',List.all_eq_true] at h;obtain⟨⟨⟨⟨⟨⟨h1,h2⟩,h3⟩,h4⟩,h5⟩,h6⟩,h7⟩:=h;exact⟨⟨n,hb⟩,⟨h1,h2,h3,h4,h5,fun x hx=>iJ (h6 x hx),h7⟩,bd⟩
structure Pg.In (p:Pg)(K:Frag)(mg:Str->Option Value):Prop where
 fn:∀(i:Nat) (d:Df),p.dfs[i]? = some d->∃ f fd,L2.ur K d.nm d.nm d.st f fd/\mg d.nm=some (.ref f)
 gl:∀ i x,idxOf p.qB x=some i->∃ v u,mg x=some u/\RelV v u/\∀ H,Rep K H (p.gl i) v []
 blt:∀ x,p.dS.contains x=true->mg x=none
theorem jF {ds:List D}{n i:Nat}{d:D}{t:Tg}(h:(aD ds n)[i]? = some (some (d,t))):ds[i]? = some d/\t=aW d []:=by
 unfold aD at h;by_cases hi:i<ds.length
 ·rw[List.getElem?_append_left (by simpa using hi),List.getElem?_map] at h;rw[List.getElem?_eq_getElem hi] at h ⊢;simp only[Option.map_some,Option.some.injEq,Prod.mk.injEq] at h;obtain⟨h1,h2⟩:=h;subst h1;exact⟨rfl,h2.symm⟩
 ·rw[List.getElem?_append_right (by simpa using Nat.le_of_not_lt hi),List.getElem?_replicate] at h;split at h<;>cases h
theorem aG.parts {K:Frag}{H:Hp}:∀{ds:List D}{vs:List V}{G:List Addr},aG K H ds vs G->∃ F:Nat->List Addr,(∀ i d,ds[i]? = some d->∃ v,vs[i]? = some v/\Rep K H d v (F i))/\(∀ i,ds[i]? = none->F i=[])/\∀ i,∀ a∈F i,a∈G
 |_,_,_,.nil=>⟨fun _=>[],fun i d h=>(by simp at h),fun _ _=>rfl,fun _ _ h=>(nomatch h)⟩
 | _,_,_,.cons (d:=d) (v:=v) (ds:=ds) (vs:=vs) (G:=G1) (G':=G2) r s=>by
  obtain⟨F,h1,h2,h3⟩:=aG.parts s;refine⟨fun i=>match i with | 0=>G1 | j+1=>F j,fun i e h=>?_,fun i h=>?_,fun i a h=>?_⟩
  ·cases i with
   |zero=>cases h;exact⟨v,rfl,r⟩
   |succ j=>exact h1 j e (by simpa using h)
  ·cases i with
   |zero=>cases h
   |succ j=>exact h2 j (by simpa using h)
  ·cases i with
   |zero=>exact ay _ h
   |succ j=>exact ao _ (h3 j a h)
theorem entry {K:Frag}{H:Hp}{ds:List D}{vs:List V}{G:List Addr}{N:List Str}(hr:aG K H ds vs G)(hl:ds.length<=N.length):∃ F,RE K (fun a=>H a≠none) (aD ds N.length) (L2.start N vs) H F/\∀ i,∀ a∈F i,a∈G:=by
 obtain⟨F,h1,h2,h3⟩:=hr.parts;have flat:∀ i d t,(aD ds N.length)[i]? = some (some (d,t))->be t=true->F i=[]:=fun i d t h o=>by
  obtain⟨e1,e2⟩:=jF h;obtain⟨v,_,rp⟩:=h1 i d e1;unfold aW at e2;by_cases hf:d.flat=true
  ·exact rp.flat hf
  ·rw[if_neg hf] at e2;subst e2;cases o
 refine⟨F,⟨?_,fun i d t h=>?_,fun i h=>?_,fun i d t h o=>?_,fun i d h a ha=>?_,fun a h=>h⟩,h3⟩
 ·simp only[aD,L2.start,List.length_append,List.length_map,List.length_replicate,hr.len]
 ·obtain⟨e1,e2⟩:=jF h;obtain⟨v,e3,rp⟩:=h1 i d e1;refine⟨v,?_,rp⟩;unfold L2.start;have hi:i<vs.length:=(List.getElem?_eq_some_iff.mp e3).1;rw[List.getElem?_append_left (by simpa using hi),List.getElem?_map,e3];rfl
 ·cases e:ds[i]? with
  |none=>exact h2 i e
  |some d =>
   refine absurd ?_ (h d (aW d []));unfold aD;have hi:i<ds.length:=(List.getElem?_eq_some_iff.mp e).1;rw[List.getElem?_append_left (by simpa using hi),List.getElem?_map,e];rfl
 ·rw[flat i d t h o];exact⟨cy,fun _ h=>(nomatch h),fun _ h=>(nomatch h)⟩
 ·rw[flat i d _ h rfl] at ha;cases ha
theorem lU {α:Type}{g:α->Str}:∀{l:List α}{x:Str}{i:Nat},idxOf (l.map g) x=some i->∃ a,l[i]? = some a/\g a=x:=by
 intro l x i h;have:=bS h;rw[List.getElem?_map,aa] at this;exact this
theorem iI {H H':Hp}(e:jx (fun a=>H a≠none) H H'):aE H H':=fun b u h=>(e.keep b (by rw[h];exact fun z=>(by cases z))).trans h
section
variable {p:Pg}{P:Program}{w:World}{K:Frag}{mg:Str->Option Value}{base:Heap}
end
noncomputable def noL (K:Frag):Bool:=K.all fun p=>match p.2.cls with
 |.type n=>!(n == "list")
 |_=>true
theorem lookup_mem:∀{K:Frag}{a:Addr}{o:Obj},K.lookup a=some o->(a,o)∈K
 |[],_,_,h=>by cases h
 | (b,x)::r,a,o,h=>by
  rw[bw] at h;cases e:a==b with
  |true =>
   rw[e] at h;cases h;rw[gh] at e;rw[e];exact aq
  |false=>rw[e] at h;exact ag _ (lookup_mem h)
theorem A4 {K:Frag}{a:Addr}{o:Obj}(h:noL K=true)(l:K.lookup a=some o)(c:o.cls = .type "list"):False:=by
 unfold noL at h;rw[dq] at h;have:=h _ (lookup_mem l);rw[c] at this;simp at this
theorem lV {K:Frag}{H:Hp}:∀ ns:List Int,aG K H (ns.map D.int) (ns.map V.int) []
 |[]=>.nil
 |n::r=>.cons (.int n) (lV r)
theorem Ci {K:Frag}{H:Hp}{a:Addr}{ns:List Int}{f:List D->Rs (D×Bool)}{E:XK}{fr:Bool}(hL:noL K=true)(hS:mD K H a (ns.map V.int))(hf:f [.lst (ns.map D.int)] = .ok (.bl true,fr)):zH K 1 f [.ref a] H (fun v _=>v = .bl true) E:=by
 rcases hS with h | ⟨o,its,n,h1,h2,_⟩
 ·refine⟨[.lst (ns.map D.int)],[a] ++ [],rfl,.cons (.lst h (lV ns)) .nil,(.bl true,fr),hf,fun v H' G' _ rp _ _=>?_⟩;exact rp.bl_inv.1
 ·exact (A4 hL h1 h2).elim
noncomputable def zq (es:List DictEntry):Bool:=es.all (fun e=>match e.val with
  |.int _ _=>true
  |.none=>true
  |_=>false)&&es.any (fun e=>match e.key with
  |.str _ _=>true
  |_=>false)
noncomputable def noS (as:List Addr)(K:Frag):Bool:=K.all fun p=>as.contains p.1 || match p.2.data with
 |.dict es _=>!zq es.toList
 |_=>true
noncomputable def hashes (w:World):List DictEntry->Prop
 |[]=>True
 |e::r=>(match e.key with
  |.str s _=>e.hash=hashStr w s
  |_=>True)/\hashes w r
theorem zX {w:World}{K:Frag}(h:noS [] K=true):xM w K:=trivial
def Has (K:Frag)(d:Df):Prop:=∃(f:Addr) (oc:Value) (od:Option Addr) (kV dc pm:Value) (an:Option Addr) (cd ct:Value) (sl:Array (Option Value)),
 PySem.W.nsIn K mainGlobals d.nm=some (some (.ref f))/\K.lookup f=some ⟨oc,od,.func (PySem.W.fnOf d.nm d.nm (dP d.st) (bL d.st) (aH d.st) .none kV dc pm an cd ct),sl⟩/\PySem.W.codeIn K cd d.nm=true/\PySem.W.keepIn K (.ref f)=true
def lY (K:Frag)(x:Str)(d:D):Prop:=∃ v u,PySem.W.nsIn K mainGlobals x=some (some u)/\RelV v u/\∀ H,Rep K H d v []
noncomputable def rl {α:Type}(P:α->Prop):List α->Prop
 |[]=>True
 |a::r=>P a/\rl P r
theorem eB {α:Type}{P:α->Prop}:∀{l:List α},rl P l->∀ a∈l,P a
 |[],_,a,h=>by cases h
 | b::r,⟨h1,h2⟩,a,h=>by
  rcases gc.mp h with rfl | h
  ·exact h1
  ·exact eB h2 a h
structure qF (p:Pg)(K:Frag):Prop where
 fn:rl (Has K) p.dfs
 gl:∀ i x,idxOf p.qB x=some i->lY K x (p.gl i)
 blt:rl (fun x=>PySem.W.nsIn K mainGlobals x=some none) p.dS
theorem qF.isin {p:Pg}{K:Frag}{h:Heap}{mg:Str->Option Value}(s:qF p K)(X:K.In h)(G:h.Ns mainGlobals mg):p.In K mg where
 fn:=fun i d hd=>by
  obtain⟨f,oc,od,kV,dc,pm,an,cd,ct,sl,a,l,c,k⟩:=eB s.fn d (List.mem_of_getElem? hd);exact⟨f,_,Bq (st:=d.st) l c k,dw X G a⟩
 gl:=fun i x hx=>by
  obtain⟨v,u,a,b,c⟩:=s.gl i x hx;exact⟨v,u,dw X G a,b,c⟩
 blt:=fun x hx=>PySem.W.mg_none_of X G (eB s.blt x (by simpa using hx))
end Pc
end
section
namespace Pc
open PySem
theorem aA {α β:Type}(a:α)(f:α->Rs β):(Rs.ok a).bind f=f a:=rfl
theorem aP {α:Type}(env:En)(a:α)(k:α->Fl):eY env (.ok a) k=k a:=rfl
theorem aM (e:En)(k:En->Fl):(Fl.nx e).andThen k=k e:=rfl
theorem sd (d:D)(b:Bool)(k:En->Fl):(Fl.rt d b).andThen k = .rt d b:=rfl
theorem aN {α:Type}(a:α):iS (some a) = .ok a:=rfl
theorem dR (op:Operator)(i j:Int):xD op (.int i) (.int j)=(Pc.binI op i j).map .int:=by cases op<;>rfl
theorem dG (i:Int)(R:List Nat):gM (.int i) R = .mv []:=rfl
theorem kY:∀ l:List Int,D.flats (l.map D.int)=true
 |[]=>rfl
 |_::r=>kY r
theorem qj (l:List Int)(R:List Nat):gM (.lst (l.map D.int)) R = .mv []:=by
 unfold gM;rw[if_pos];exact kY l
noncomputable def pD:Int->Int->Nat->List Int
 |_,_,0=>[]
 |a,s,n+1=>a::pD (a+s) s n
theorem mx:∀(a s:Int) (n:Nat),aQ a s n=(pD a s n).map D.int
 |_,_,0=>rfl
 |a,s,n+1=>by rw[aQ,pD,ba,mx]
theorem gR {t:jL}{R:List Nat}{b:En->Fl}(J:Nat->En->Prop):∀(l:List D) (k:Nat) (env:En),J k env ->
  (∀(i:Nat) (d:D) (e:En),l[i]? = some d->J (k+i) e->∃ e1 e2,aV R t d e=some e1/\b e1 = .nx e2/\J (k+i+1) e2)->∃ e,bR t R b l env = .nx e/\J (k+l.length) e
 |[],k,env,h,_=>⟨env,rfl,h⟩
 | d::r,k,env,h,st=>by
  obtain⟨e1,e2,h1,h2,h3⟩:=st 0 d env rfl h;obtain⟨e,q1,q2⟩:=gR J r (k+1) e2 h3 fun i d' e hi hj=>by
   have:=st (i+1) d' e (by simpa using hi) (by rw[show k+(i+1)=k+1+i by omega];exact hj);rw[show k+(i+1)+1=k+1+i+1 by omega] at this;exact this
  refine⟨e,?_,by rw[az,show k+(r.length+1)=k+1+r.length by omega];exact q2⟩;unfold bR;rw[h1];dsimp only;rw[h2];exact q1
end Pc
end
section
namespace Pc
open PySem PySem.Spec PyProof.Rows L2
theorem bG {K:Frag}{d:Df}{f:Addr}{oc:Value}{od:Option Addr}{kV dc pm:Value}{an:Option Addr}{cd ct:Value}{sl:Array (Option Value)}
 (a:PySem.W.nsIn K mainGlobals d.nm=some (some (.ref f))) (l:K.lookup f=some ⟨oc,od,.func (PySem.W.fnOf d.nm d.nm (dP d.st) (bL d.st) (aH d.st) .none kV dc pm an cd ct),sl⟩) (c:PySem.W.codeIn K cd d.nm=true) (k:PySem.W.keepIn K (.ref f)=true):Has K d :=
 ⟨f,oc,od,kV,dc,pm,an,cd,ct,sl,a,l,c,k⟩
theorem gl_int {K:Frag}{x:Str}{i:Int}{t:Tok}(h:PySem.W.nsIn K mainGlobals x=some (some (.int i t))):lY K x (.int i):=⟨.int i,_,h,⟨t,rfl⟩,fun _=>.int i⟩
theorem qz {K:Frag}{x:Str}{a:Addr}{oc:Value}{od:Option Addr}{its:Array Value}{n:Nat}{sl:Array (Option Value)}{ds:List D}{vs:List V}(h:PySem.W.nsIn K mainGlobals x=some (some (.ref a)))
  (l:K.lookup a=some ⟨oc,od,.seq its n,sl⟩) (c:oc = .type "tuple") (hz:its.size<=sizeLine) (hv:aL vs its.toList) (hr:∀ H,aG K H ds vs []) (hp:uW vs=false:=by rfl):lY K x (.tup ds) :=
 ⟨.ref a,_,h,rfl,fun H=>.tup (.inr ⟨hp,_,its,n,l,c,rfl,hz,hv⟩) (hr H)⟩
noncomputable def nF (K:Frag)(g:Nat->D):Nat->List Str->Prop
 |_,[]=>True
 |i,x::r=>lY K x (g i)/\nF K g (i+1) r
theorem nY {K:Frag}{g:Nat->D}:∀{l:List Str}{k i:Nat}{x:Str},nF K g k l->idxOf l x=some i->lY K x (g (k+i))
 | y::r,k,i,x,⟨h1,h2⟩,e=>by
  unfold idxOf at e;by_cases hx:y=x
  ·rw[if_pos hx] at e;cases e;subst hx;exact h1
  ·rw[if_neg hx,aa] at e;obtain⟨j,hj,rfl⟩:=e;have:=nY h2 hj;rw[show k+1+j=k+(j+1) by omega] at this;exact this
theorem yN {K:Frag}{g:Nat->D}{l:List Str}(h:nF K g 0 l):∀ i x,idxOf l x=some i->lY K x (g i):=fun i x e=>by
 have:=nY h e
 rwa [eh] at this
end Pc
end
section
namespace Tm
open PySem PyProof.Rows
variable {s:Shared}{A:Around}{M:Model}{E:Value->Shared->Prop}
structure Cm (M:Model)(A:Around)(E:Value->Shared->Prop)(s:Shared)(κ:SortKind)(P P':Keyed->Prop)(rk:Keyed->Int):Prop where
 lt:∀{x y:Keyed}{st:SortSt}{Q:Option Bool->SortSt->Prop},P x->P' y->kindOf st=κ->Q (some (decide (rk x<rk y))) st->wpS M A E s (lt' x y) Q st
theorem bK {xs:Array Keyed}{i:Nat}{p:Keyed}{st:SortSt}{Q:Keyed->SortSt->Prop}(h:xs[i]? = some p)(q:Q p st):wpS M A E s (elem' xs i) Q st:=by
 rw[elem'_eq,h];exact wpS_pure q
theorem jr {x:String}{st:SortSt}{Q:Unit->SortSt->Prop}(q:Q () st):wpS M A E s (liftM (rule x):StateT SortSt Sem Unit) Q st:=wpS_lift (wpAny_rule ⟨rfl,q⟩)
noncomputable def cH:Bool->Keyed->Array Keyed->Nat->Nat->Nat->StateT SortSt Sem (Option Nat):=sortPriv% PySem.Builtin.gallop
noncomputable def gal (An:Nat->StateT SortSt Sem (Option Bool))(n hint:Nat):StateT SortSt Sem (Option Nat):=do
 let mut l:=0;let mut o:=1;let mut a:=0;let mut b:=0
 let some r <- An hint | return none
 if r then
  let m:=n - hint
  for _ in [0:n] do
   if o ≥ m then break
   let some c <- An (hint+o) | return none
   if !c then break
   l:=o
   o:=2*o+1
  a:=hint+l+1
  b:=hint+min o m
 else
  let m:=hint+1
  for _ in [0:n] do
   if o ≥ m then break
   let some c <- An (hint - o) | return none
   if c then break
   l:=o
   o:=2*o+1
  a:=hint+1 - min o m
  b:=hint - l
 for _ in [0:n] do
  if a ≥ b then break
  let m:=a+(b - a) / 2
  let some c <- An m | return none
  if c then a:=m+1 else b:=m
 return some b
noncomputable def An (left:Bool)(key:Keyed)(arr:Array Keyed)(base:Nat)(i:Nat):StateT SortSt Sem (Option Bool):=do
  let x <- elem' arr (base+i)
  if left then lt' x key else return (<- lt' key x).map (!·)
theorem kO (left:Bool)(key:Keyed)(arr:Array Keyed)(base n hint:Nat):cH left key arr base n hint=gal (An left key arr base) n hint:=rfl
noncomputable def EF (An:Nat->StateT SortSt Sem (Option Bool))(n a b:Nat):StateT SortSt Sem (Option Nat):=do
 let mut a:=a;let mut b:=b
 for _ in [0:n] do
  if a ≥ b then break
  let m:=a+(b - a) / 2
  let some c <- An m | return none
  if c then a:=m+1 else b:=m
 return some b
section
variable {by':Nat->StateT SortSt Sem (Option Bool)}{f:Nat->Bool}{n:Nat}{st:SortSt}
theorem zS (hb:∀ i Q,i<n->Q (some (f i)) st->wpS M A E s (by' i) Q st)(mono:∀ i j,i<=j->j<n->f j=true->f i=true){Q:Option Nat->SortSt->Prop}{a b:Nat}(hab:a<=b)(hbn:b<=n)
  (ha:∀ i,i<a->f i=true) (hf:∀ i,b<=i->i<n->f i=false) (h:∀ k,k<=n->(∀ i,i<k->f i=true)->(∀ i,k<=i->i<n->f i=false)->Q (some k) st):wpS M A E s (EF by' n a b) Q st:=by
 unfold EF;refine wpS_bind (wpS_mono (wpS_forRange (I:=fun x (c:Option (Option Nat)×Nat×Nat) st'=>st'=st/\c.1=none/\c.2.1<=c.2.2/\c.2.2<=n/\c.2.2 - c.2.1<=n - x/\(∀ i,i<c.2.1->f i=true)/\(∀ i,c.2.2<=i->i<n->f i=false))
  (Q:=fun (c:Option (Option Nat)×Nat×Nat) st'=>st'=st/\c.1=none/\c.2.1=c.2.2/\c.2.2<=n/\(∀ i,i<c.2.1->f i=true)/\(∀ i,c.2.2<=i->i<n->f i=false)) ?step ?fin ⟨rfl,rfl,hab,hbn,by dsimp only;omega,ha,hf⟩) ?post)
 case post =>
  rintro⟨c,a',b'⟩ st' ⟨rfl,rfl,e,l,h1,h2⟩;dsimp only at *;subst e;exact wpS_pure (h _ l h1 h2)
 case fin =>
  rintro⟨c,a',b'⟩ st' ⟨rfl,rfl,e,l,h0,h1,h2⟩;dsimp only at *;exact⟨rfl,rfl,by omega,l,h1,h2⟩
 case step =>
  rintro x ⟨c,a',b'⟩ st' _ hx ⟨rfl,rfl,e,l,h0,h1,h2⟩;dsimp only at *;by_cases hge:a' ≥ b'
  ·rw[if_pos hge];exact wpS_pure ⟨rfl,rfl,by dsimp only;omega,l,h1,h2⟩
  ·rw[if_neg hge];refine wpS_bind (hb _ _ (by omega) ?_);cases hc:f (a'+(b' - a') / 2) with
   |true=>exact wpS_pure ⟨rfl,rfl,by dsimp only;omega,l,by dsimp only;omega,fun i hi=>mono i _ (by dsimp only at hi;omega) (by omega) hc,h2⟩
   |false =>
    refine wpS_pure ⟨rfl,rfl,by dsimp only;omega,by dsimp only;omega,by dsimp only;omega,h1,fun i hi hn=>?_⟩;dsimp only at hi;cases hh:f i with
    |false=>rfl
    |true=>rw[mono _ i hi hn hh] at hc;cases hc
theorem AN (hb:∀ i Q,i<n->Q (some (f i)) st->wpS M A E s (by' i) Q st)(mono:∀ i j,i<=j->j<n->f j=true->f i=true){Q:Option Nat->SortSt->Prop}{hint:Nat}(hh:hint<n)
  (h:∀ k,k<=n->(∀ i,i<k->f i=true)->(∀ i,k<=i->i<n->f i=false)->Q (some k) st):wpS M A E s (gal by' n hint) Q st:=by
 unfold gal;refine wpS_bind (hb _ _ hh ?_);cases hr:f hint with
 |true =>
  dsimp only;rw[if_pos rfl];refine wpS_bind (wpS_mono (wpS_forRange (I:=fun x (c:Option (Option Nat)×Nat×Nat) st'=>st'=st/\c.1=none/\c.2.1<c.2.2/\c.2.1<n - hint/\x<c.2.2/\f (hint+c.2.1)=true)
   (Q:=fun (c:Option (Option Nat)×Nat×Nat) st'=>st'=st/\c.1=none/\c.2.1<c.2.2/\c.2.1<n - hint/\f (hint+c.2.1)=true/\(c.2.2<n - hint->f (hint+c.2.2)=false)) ?step ?fin ⟨rfl,rfl,by dsimp only;omega,by dsimp only;omega,by dsimp only;omega,hr⟩) ?post)
  case post =>
   rintro⟨c,l,o⟩ st' ⟨rfl,rfl,h1,h2,h3,h4⟩;dsimp only at *;refine zS hb mono (by omega) (by omega) (fun i hi=>mono i _ (by omega) (by omega) h3) (fun i hi hn=>?_) h;cases hf:f i with
   |false=>rfl
   |true =>
    have:=h4 (by omega);rw[mono (hint+o) i (by omega) hn hf] at this;cases this
  case fin =>
   rintro⟨c,l,o⟩ st' ⟨rfl,rfl,h1,h2,h3,h4⟩;dsimp only at *;exact⟨rfl,rfl,h1,h2,h4,fun _=>by omega⟩
  case step =>
   rintro x ⟨c,l,o⟩ st' _ hx ⟨rfl,rfl,h1,h2,h3,h4⟩;dsimp only at *;by_cases hge:o ≥ n - hint
   ·rw[if_pos hge];exact wpS_pure ⟨rfl,rfl,h1,h2,h4,fun _=>by dsimp only at *;omega⟩
   ·rw[if_neg hge];refine wpS_bind (hb _ _ (by omega) ?_);cases hc:f (hint+o) with
    |true=>exact wpS_pure ⟨rfl,rfl,by dsimp only;omega,by dsimp only;omega,by dsimp only;omega,hc⟩
    |false=>exact wpS_pure ⟨rfl,rfl,h1,h2,h4,fun _=>hc⟩
 |false =>
  dsimp only;rw[if_neg (by simp)];refine wpS_bind (wpS_mono (wpS_forRange (I:=fun x (c:Option (Option Nat)×Nat×Nat) st'=>st'=st/\c.1=none/\c.2.1<c.2.2/\c.2.1<hint+1/\x<c.2.2/\f (hint - c.2.1)=false)
   (Q:=fun (c:Option (Option Nat)×Nat×Nat) st'=>st'=st/\c.1=none/\c.2.1<c.2.2/\c.2.1<hint+1/\f (hint - c.2.1)=false/\(c.2.2<hint+1->f (hint - c.2.2)=true)) ?step ?fin ⟨rfl,rfl,by dsimp only;omega,by dsimp only;omega,by dsimp only;omega,hr⟩) ?post)
  case post =>
   rintro⟨c,l,o⟩ st' ⟨rfl,rfl,h1,h2,h3,h4⟩;dsimp only at *;refine zS hb mono (by omega) (by omega) (fun i hi=>mono i (hint - o) (by omega) (by omega) (h4 (by omega))) (fun i hi hn=>?_) h;cases hf:f i with
   |false=>rfl
   |true=>rw[mono _ i hi hn hf] at h3;cases h3
  case fin =>
   rintro⟨c,l,o⟩ st' ⟨rfl,rfl,h1,h2,h3,h4⟩;dsimp only at *;exact⟨rfl,rfl,h1,h2,h4,fun _=>by omega⟩
  case step =>
   rintro x ⟨c,l,o⟩ st' _ hx ⟨rfl,rfl,h1,h2,h3,h4⟩;dsimp only at *;by_cases hge:o ≥ hint+1
   ·rw[if_pos hge];exact wpS_pure ⟨rfl,rfl,h1,h2,h4,fun _=>by dsimp only at *;omega⟩
   ·rw[if_neg hge];refine wpS_bind (hb _ _ (by omega) ?_);cases hc:f (hint - o) with
    |false=>exact wpS_pure ⟨rfl,rfl,by dsimp only;omega,by dsimp only;omega,by dsimp only;omega,hc⟩
    |true=>exact wpS_pure ⟨rfl,rfl,h1,h2,h4,fun _=>hc⟩
end
variable {M:Model}{A:Around}{E:Value->Shared->Prop}{s:Shared}{κ:SortKind}{P P':Keyed->Prop}{rk:Keyed->Int}
noncomputable abbrev d0:Keyed:=(Value.none,Value.none)
noncomputable abbrev R (rk:Keyed->Int)(xs:Array Keyed)(i:Nat):Int:=rk (xs.getD i d0)
noncomputable abbrev S (rk:Keyed->Int)(l:List Keyed):Prop:=l.Pairwise fun x y=>rk x<=rk y
def iB (rk:Keyed->Int)(xs:Array Keyed)(lo hi:Nat):Prop:=∀ i j,lo<=i->i<=j->j<hi->R rk xs i<=R rk xs j
theorem dX {xs:Array Keyed}{i:Nat}(h:i<xs.size):xs[i]? = some (xs.getD i d0):=by simp[h]
theorem bV {xs:Array Keyed}{i:Nat}(h:i<xs.size):xs.getD i d0∈xs.toList:=by simp[h]
theorem iW {xs:Array Keyed}{i:Nat}{y:Keyed}(h:y∈xs.toList.drop i):∃ t,i<=t/\t<xs.size/\y=xs.getD t d0:=by
 obtain⟨t,ht,e⟩:=List.getElem_of_mem h;rw[List.length_drop,bp] at ht;refine⟨i+t,by omega,by omega,?_⟩;rw[<-e];have:i+t<xs.size:=by omega
 simp[this]
theorem eC {xs:Array Keyed}{i k:Nat}{y:Keyed}(h:y∈(xs.toList.drop i).take k):∃ t,i<=t/\t<xs.size/\t<i+k/\y=xs.getD t d0:=by
 obtain⟨t,ht,e⟩:=List.getElem_of_mem h;rw[eo,List.length_drop,bp] at ht;refine⟨i+t,by omega,by omega,by omega,?_⟩;rw[<-e];have:i+t<xs.size:=by omega
 simp[this]
theorem drop_one {xs:Array Keyed}{i:Nat}(h:i<xs.size):xs.toList.drop i=xs.getD i d0::xs.toList.drop (i+1):=by
 rw[List.drop_eq_getElem_cons (by simpa using h)];simp[h]
theorem EC {xs:Array Keyed}(h:S rk xs.toList):iB rk xs 0 xs.size:=by
 intro i j _ hij hj;unfold R;have hi:i<xs.size:=by omega
 have e1:xs.getD i d0=xs[i]:=by simp[hi]
 have e2:xs.getD j d0=xs[j]:=by simp[hj]
 rw[e1,e2];rcases Nat.lt_or_ge i j with h' | h'
 ·have:=List.pairwise_iff_getElem.mp h i j (by simpa using hi) (by simpa using hj) h';simpa using this
 ·have:i=j:=by omega
  subst this;exact il _
theorem nZ {xs:Array Keyed}(h:iB rk xs 0 xs.size):S rk xs.toList:=by
 refine List.pairwise_iff_getElem.mpr fun i j hi hj hij=>?_
 have hi':i<xs.size:=(by simpa using hi);have hj':j<xs.size:=(by simpa using hj);have:=h i j (cq _) (gp hij) hj';unfold R at this;have e1:xs.getD i d0=xs[i]:=by simp[hi']
 have e2:xs.getD j d0=xs[j]:=by simp[hj']
 rw[e1,e2] at this;simpa using this
theorem nJ (C:Cm M A E s κ P P' rk){key:Keyed}{xs:Array Keyed}{base n hint:Nat}{st:SortSt}(hk:kindOf st=κ)(pk:P key)(px:∀ t,base<=t->t<base+n->P' (xs.getD t d0))(hz:base+n<=xs.size)(so:iB rk xs base (base+n))(hh:hint<n){Q:Option Nat->SortSt->Prop}
  (h:∀ k,k<=n->(∀ t,base<=t->t<base+k->R rk xs t<=rk key)->(∀ t,base+k<=t->t<base+n->rk key<R rk xs t)->Q (some k) st):wpS M A E s (cH false key xs base n hint) Q st:=by
 rw[kO];refine AN (f:=fun i=>!(decide (rk key<R rk xs (base+i)))) (fun i Q hi q=>?_) (fun i j hij hj hf=>?_) hh fun k hkn h1 h2=>h k hkn (fun t a b=>?_) fun t a b=>?_
 ·have hb:base+i<xs.size:=by omega
  refine wpS_bind (bK (dX hb) ?_);rw[if_neg (by simp)];exact wpS_bind (C.lt pk (px _ (by omega) (by omega)) hk (wpS_pure q))
 ·have:=so (base+i) (base+j) (by omega) (by omega) (by omega);simp only[Bool.not_eq_true',decide_eq_false_iff_not] at hf ⊢;omega
 ·have:=h1 (t - base) (by omega);rw[show base+(t - base)=t by omega] at this;simp only[Bool.not_eq_true',decide_eq_false_iff_not] at this;omega
 ·have:=h2 (t - base) (by omega) (by omega);rw[show base+(t - base)=t by omega] at this;simpa using this
theorem mK (C:Cm M A E s κ P P' rk){key:Keyed}{xs:Array Keyed}{base n hint:Nat}{st:SortSt}(hk:kindOf st=κ)(pk:P' key)(px:∀ t,base<=t->t<base+n->P (xs.getD t d0))(hz:base+n<=xs.size)(so:iB rk xs base (base+n))(hh:hint<n){Q:Option Nat->SortSt->Prop}
  (h:∀ k,k<=n->(∀ t,base<=t->t<base+k->R rk xs t<rk key)->(∀ t,base+k<=t->t<base+n->rk key<=R rk xs t)->Q (some k) st):wpS M A E s (cH true key xs base n hint) Q st:=by
 rw[kO];refine AN (f:=fun i=>decide (R rk xs (base+i)<rk key)) (fun i Q hi q=>?_) (fun i j hij hj hf=>?_) hh fun k hkn h1 h2=>h k hkn (fun t a b=>?_) fun t a b=>?_
 ·have hb:base+i<xs.size:=by omega
  refine wpS_bind (bK (dX hb) ?_);rw[if_pos rfl];exact C.lt (px _ (by omega) (by omega)) pk hk q
 ·have:=so (base+i) (base+j) (by omega) (by omega) (by omega);simp only[decide_eq_true_eq] at hf ⊢;omega
 ·have:=h1 (t - base) (by omega);rw[show base+(t - base)=t by omega] at this;simpa using this
 ·have:=h2 (t - base) (by omega) (by omega);rw[show base+(t - base)=t by omega] at this;simp only[decide_eq_false_iff_not] at this;omega
def Sm (st st':SortSt):Prop:=kindOf st'=kindOf st/\arrOf st'=arrOf st/\pendingOf st'=pendingOf st/\failedOf st'=failedOf st
theorem Sm.refl (st:SortSt):Sm st st:=⟨rfl,rfl,rfl,rfl⟩
noncomputable def om:Nat->StateT SortSt Sem Unit:=sortPriv% PySem.Builtin.setMinGallop
theorem jn {g:Nat}{st0 st:SortSt}(h:Sm st0 st){Q:Unit->SortSt->Prop}(q:∀ st',Sm st0 st'->Q () st'):wpS M A E s (om g) Q st :=
 wpS_modify (q _ ⟨h.1,h.2.1,h.2.2.1,h.2.2.2⟩)
theorem mv {o p q r:List Keyed}(h1:S rk (o++(p++q)))(h2:S rk (o++r))(h:∀ y∈p,∀ x∈r,rk y<=rk x):S rk ((o++p)++q)/\S rk ((o++p)++r):=by
 refine⟨by rw[au];exact h1,?_⟩;rw[<-au] at h1;have a:=List.pairwise_append.mp (List.pairwise_append.mp h1).1;have b:=List.pairwise_append.mp h2;refine List.pairwise_append.mpr ⟨List.pairwise_append.mpr a,b.2.1,fun x hx y hy=>?_⟩;rcases (List.mem_append.mp hx) with hx | hx
 ·exact b.2.2 x hx y hy
 ·exact h x hx y hy
variable {M:Model}{A:Around}{E:Value->Shared->Prop}{s:Shared}{κ:SortKind}{P P':Keyed->Prop}{rk:Keyed->Int}
noncomputable def pF:Array Keyed->Array Keyed->StateT SortSt Sem (Array Keyed):=sortPriv% PySem.Builtin.mergeLo
noncomputable abbrev fA (a b u:Array Keyed)(i j:Nat):Array Keyed:=u++a.extract i a.size++b.extract j b.size
noncomputable abbrev fB (a b u:Array Keyed)(i j:Nat):Array Keyed:=u++b.extract j b.size++a.extract i a.size
noncomputable def mlo (a b:Array Keyed):StateT SortSt Sem (Array Keyed):=do
 liftM (rule "list.sort.merge-lo")
 let mut u:Array Keyed:=#[<-elem' b 0];let mut i:=0;let mut j:=1
 if j==b.size then return fA a b u i j
 if i+1==a.size then return fB a b u i j
 let mut g:=gallopOf (<- get)
 for _ in [0:a.size+b.size] do
  let mut ca:=0;let mut cb:=0
  for _ in [0:a.size+b.size] do
   let some w <- lt' (<- elem' b j) (<- elem' a i) | return fA a b u i j
   if w then
    u:=u.push (<- elem' b j);j:=j+1;cb:=cb+1;ca:=0
    if j==b.size then return fA a b u i j
    if cb ≥ g then break
   else
    u:=u.push (<- elem' a i);i:=i+1;ca:=ca+1;cb:=0
    if i+1==a.size then return fB a b u i j
    if ca ≥ g then break
  liftM (rule "list.sort.gallop")
  g:=g+1
  for _ in [0:a.size+b.size] do
   if g > 1 then g:=g - 1
   om g
   let some k <- cH false (<- elem' b j) a i (a.size - i) 0 | return fA a b u i j
   ca:=k
   if k > 0 then
    u:=u++a.extract i (i+k);i:=i+k
    if i+1==a.size then return fB a b u i j
    if i==a.size then return fA a b u i j
   u:=u.push (<- elem' b j);j:=j+1
   if j==b.size then return fA a b u i j
   let some k <- cH true (<- elem' a i) b j (b.size - j) 0 | return fA a b u i j
   cb:=k
   if k > 0 then
    u:=u++b.extract j (j+k);j:=j+k
    if j==b.size then return fA a b u i j
   u:=u.push (<- elem' a i);i:=i+1
   if i+1==a.size then return fB a b u i j
   if ca<7&&cb<7 then break
  g:=g+1
  om g
 unsupported ("internal:list.sort.merge-bound")
theorem oF (a b:Array Keyed):pF a b=mlo a b:=rfl
noncomputable abbrev St2:=Option (Array Keyed)×Array Keyed×Nat×Nat×Nat×Nat
noncomputable abbrev St3:=Option (Array Keyed)×Array Keyed×Nat×Nat×Nat×Nat×Nat
noncomputable abbrev St1:=Option (Array Keyed)×Array Keyed×Nat×Nat×Nat
noncomputable abbrev Sp:=StateT SortSt Sem (ForInStep St3)
noncomputable def se (a b u:Array Keyed)(i j g ca cb:Nat):Sp:=do
 let x <- elem' a i
 if i+1+1==a.size then pure (.done (some (fB a b (u.push x) (i+1) j),u.push x,i+1,j,g,ca,cb))
 else if ca<7&&cb<7 then pure (.done (none,u.push x,i+1,j,g,ca,cb)) else pure (.yield (none,u.push x,i+1,j,g,ca,cb))
noncomputable def sD (a b u:Array Keyed)(i j g ca cb:Nat):Sp:=do
 let x <- elem' b j
 if j+1==b.size then pure (.done (some (fA a b (u.push x) i (j+1)),u.push x,i,j+1,g,ca,cb))
 else
  let z <- elem' a i
  match <- cH true z b (j+1) (b.size - (j+1)) 0 with
  |some k =>
   if k > 0 then
    if j+1+k==b.size then pure (.done (some (fA a b (u.push x++b.extract (j+1) (j+1+k)) i (j+1+k)),u.push x++b.extract (j+1) (j+1+k),i,j+1+k,g,ca,k))
    else se a b (u.push x++b.extract (j+1) (j+1+k)) i (j+1+k) g ca k
   else se a b (u.push x) i (j+1) g ca k
  |_=>pure (.done (some (fA a b (u.push x) i (j+1)),u.push x,i,j+1,g,ca,cb))
noncomputable def zU (a b u:Array Keyed)(i j g cb ca:Nat):Sp:=do
 let x <- elem' b j
 match <- cH false x a i (a.size - i) 0 with
 |some k =>
  if k > 0 then
   if i+k+1==a.size then pure (.done (some (fB a b (u++a.extract i (i+k)) (i+k) j),u++a.extract i (i+k),i+k,j,g,k,cb))
   else if i+k==a.size then pure (.done (some (fA a b (u++a.extract i (i+k)) (i+k) j),u++a.extract i (i+k),i+k,j,g,k,cb))
   else sD a b (u++a.extract i (i+k)) (i+k) j g k cb
  else sD a b u i j g k cb
 |_=>pure (.done (some (fA a b u i j),u,i,j,g,ca,cb))
section
variable {a b:Array Keyed}
structure J (rk:Keyed->Int)(a b u:Array Keyed)(i j:Nat):Prop where
 ha:S rk (u.toList++a.toList.drop i)
 hb:S rk (u.toList++b.toList.drop j)
 pm:(u.toList++a.toList.drop i++b.toList.drop j).Perm (a.toList++b.toList)
theorem J.movA {u u':Array Keyed}{i j k:Nat}(h:J rk a b u i j)(o:∀ t,i<=t->t<a.size->t<i+k->∀ t',j<=t'->t'<b.size->R rk a t<=R rk b t')(e:u'.toList=u.toList++(a.toList.drop i).take k):J rk a b u' (i+k) j:=by
 have ed:a.toList.drop i=(a.toList.drop i).take k++a.toList.drop (i+k):=by rw[<-List.drop_drop,df]
 have h1:=h.ha;rw[ed] at h1;have:=mv h1 h.hb fun y hy x hx=>by
  obtain⟨t,t1,t2,t3,rfl⟩:=eC hy;obtain⟨t',t4,t5,rfl⟩:=iW hx;exact o t t1 t2 t3 t' t4 t5
 refine⟨by rw[e];exact this.1,by rw[e];exact this.2,?_⟩;have pm:=h.pm;rw[ed] at pm;rw[e];simpa[List.append_assoc] using pm
theorem J.movB {u u':Array Keyed}{i j k:Nat}(h:J rk a b u i j)(o:∀ t,j<=t->t<b.size->t<j+k->∀ t',i<=t'->t'<a.size->R rk b t<=R rk a t')(e:u'.toList=u.toList++(b.toList.drop j).take k):J rk a b u' i (j+k):=by
 have ed:b.toList.drop j=(b.toList.drop j).take k++b.toList.drop (j+k):=by rw[<-List.drop_drop,df]
 have h1:=h.hb;rw[ed] at h1;have:=mv h1 h.ha fun y hy x hx=>by
  obtain⟨t,t1,t2,t3,rfl⟩:=eC hy;obtain⟨t',t4,t5,rfl⟩:=iW hx;exact o t t1 t2 t3 t' t4 t5
 refine⟨by rw[e];exact this.2,by rw[e];exact this.1,?_⟩;have pm:=h.pm;rw[ed] at pm;rw[e];refine List.Perm.trans ?_ pm;rw[au,au,au];refine (gv _ ?_);have:=(fq (l₁:=(b.toList.drop j).take k) (l₂:=a.toList.drop i)).append_right (b.toList.drop (j+k))
 rwa [au,au] at this
theorem nr {u:Array Keyed}{xs:Array Keyed}{i:Nat}(h:i<xs.size):(u.push (xs.getD i d0)).toList=u.toList++(xs.toList.drop i).take 1:=by
 rw[drop_one h];simp
theorem pY {u:Array Keyed}{xs:Array Keyed}{i k:Nat}:(u++xs.extract i (i+k)).toList=u.toList++(xs.toList.drop i).take k:=by
 simp[List.extract_eq_take_drop]
theorem sH {xs:Array Keyed}{i:Nat}:(xs.extract i xs.size).toList=xs.toList.drop i:=by
 rw[Array.toList_extract,List.extract_eq_take_drop,List.take_of_length_le (by simp)]
def Res (rk:Keyed->Int)(a b r:Array Keyed):Prop:=r.toList.Perm (a.toList++b.toList)/\S rk r.toList
theorem J.endA {u:Array Keyed}{i j:Nat}(h:J rk a b u i j)(e:j=b.size\/i=a.size):Res rk a b (fA a b u i j):=by
 have el:(fA a b u i j).toList=u.toList++a.toList.drop i++b.toList.drop j:=by
  unfold fA;rw[de,de,sH,sH]
 refine⟨by rw[el];exact h.pm,?_⟩;rw[el];rcases e with rfl | rfl
 ·rw[List.drop_of_length_le (l:=b.toList) (by simp),List.append_nil];exact h.ha
 ·rw[List.drop_of_length_le (l:=a.toList) (by simp),List.append_nil];exact h.hb
theorem J.endB {u:Array Keyed}{i j:Nat}(h:J rk a b u i j)(hl:∀ t,t<b.size->R rk b t<=R rk a (a.size - 1))(e:i+1=a.size):Res rk a b (fB a b u i j):=by
 have el:(fB a b u i j).toList=u.toList++b.toList.drop j++a.toList.drop i:=by
  unfold fB;rw[de,de,sH,sH]
 refine⟨?_,?_⟩
 ·rw[el];refine List.Perm.trans ?_ h.pm;rw[au,au];exact gv _ fq
 ·rw[el];refine List.pairwise_append.mpr ⟨h.hb,(List.pairwise_append.mp h.ha).2.1,fun x hx y hy=>?_⟩;rcases (List.mem_append.mp hx) with hx | hx
  ·exact (List.pairwise_append.mp h.ha).2.2 x hx y hy
  ·obtain⟨t,t1,t2,rfl⟩:=iW hx;obtain⟨t',t3,t4,rfl⟩:=iW hy;have:t'=a.size - 1:=by lia
   subst this;exact hl t t2
structure Mh (rk:Keyed->Int)(P P':Keyed->Prop)(a b:Array Keyed):Prop where
 pa:∀ x∈a.toList,P' x
 pb:∀ x∈b.toList,P x
 sa:iB rk a 0 a.size
 sb:iB rk b 0 b.size
 na:0<a.size
 nb:0<b.size
 h0:∀ t,t<a.size->R rk b 0<=R rk a t
 hl:∀ t,t<b.size->R rk b t<=R rk a (a.size - 1)
theorem Ep (C:Cm M A E s κ P P' rk)(H:Mh rk P P' a b){st:SortSt}(hk:kindOf st=κ){Q:Array Keyed->SortSt->Prop}(h:∀ r st',Sm st st'->Res rk a b r->Q r st'):wpS M A E s (mlo a b) Q st:=by
 unfold mlo;refine wpS_bind (jr ?_);refine wpS_bind (bK (dX H.nb) ?_);dsimp only;have J0:J rk a b #[b.getD 0 d0] 0 1:=by
  have z:J rk a b #[] 0 0:=⟨by simpa using nZ H.sa,by simpa using nZ H.sb,by simp⟩;exact z.movB (k:=1) (fun t h1 h2 h3 t' h4 h5=>(show t=0 by lia) ▸ H.h0 t' h5) (by rw[drop_one H.nb];rfl)
 by_cases e1:1=b.size
 ·rw[if_pos (by simpa using e1)];exact wpS_pure (h _ _ (.refl _) (J0.endA (.inl e1)))
 rw[if_neg (by simpa using e1)];by_cases e2:0+1=a.size
 ·rw[if_pos (by simpa using e2)];exact wpS_pure (h _ _ (.refl _) (J0.endB H.hl e2))
 rw[if_neg (by simpa using e2)];refine wpS_bind (wpS_get ?_);have:=H.na;have:=H.nb;refine wpS_bind (wpS_mono (wpS_forRange (I:=fun x (c:St1) st'=>Sm st st'/\c.1=none/\J rk a b c.2.1 c.2.2.1 c.2.2.2.1/\c.2.2.1+1<a.size/\c.2.2.2.1<b.size/\x<c.2.2.1+c.2.2.2.1)
  (Q:=fun (c:St1) st'=>Sm st st'/\∃ r,c.1=some r/\Res rk a b r) ?step ?fin ⟨.refl _,rfl,J0,by dsimp only;lia,by dsimp only;lia,by dsimp only;lia⟩) ?post)
 case post =>
  rintro⟨c,u,i,j,g⟩ st' ⟨s1,r,e,hr⟩;dsimp only at e;subst e;exact wpS_pure (h _ _ s1 hr)
 case fin =>
  rintro⟨c,u,i,j,g⟩ st' ⟨s1,e,h1,h2,h3,h4⟩;dsimp only at *
  lia
 case step =>
  rintro x ⟨c,u,i,j,g⟩ st1 _ hx ⟨s1,e,h1,h2,h3,h4⟩;dsimp only at *;subst e;refine wpS_bind (wpS_mono (wpS_forRange (I:=fun y (c:St2) st'=>Sm st st'/\c.1=none/\J rk a b c.2.1 c.2.2.1 c.2.2.2.1/\c.2.2.1+1<a.size/\c.2.2.2.1<b.size/\x<c.2.2.1+c.2.2.2.1)
   (Q:=fun (c:St2) st'=>Sm st st'/\((∃ r,c.1=some r/\Res rk a b r)\/(c.1=none/\J rk a b c.2.1 c.2.2.1 c.2.2.2.1/\c.2.2.1+1<a.size/\c.2.2.2.1<b.size/\x<c.2.2.1+c.2.2.2.1))) ?s2 ?f2 ⟨s1,rfl,h1,h2,h3,h4⟩) ?p2)
  case f2 =>
   rintro c st' ⟨q1,q2,q3⟩;exact⟨q1,.inr ⟨q2,q3⟩⟩
  case s2 =>
   rintro y ⟨c,u,i,j,ca,cb⟩ st2 _ hy ⟨s1,e,h1,h2,h3,h4⟩;dsimp only at *;subst e;have hi:i<a.size:=by lia
   refine wpS_bind (bK (dX h3) (wpS_bind (bK (dX hi) (wpS_bind (C.lt (H.pb _ (bV h3)) (H.pa _ (bV hi)) (s1.1.trans hk) ?_)))));by_cases hw:rk (b.getD j d0)<rk (a.getD i d0)
   ·simp only[hw,decide_true,if_true];refine wpS_bind (bK (dX h3) ?_);have J2:=h1.movB (k:=1) (fun t t1 t2 t3 t' t4 t5=>by
     obtain rfl:t=j:=by lia
     have:=H.sa i t' (by lia) t4 t5;dsimp only[R] at *
     lia) (nr h3)
    by_cases e3:j+1=b.size
    ·rw[if_pos (by simpa using e3)];exact wpS_pure ⟨s1,.inl ⟨_,rfl,J2.endA (.inl e3)⟩⟩
    ·rw[if_neg (by simpa using e3)];by_cases e4:cb+1 ≥ g
     ·rw[if_pos e4];exact wpS_pure ⟨s1,.inr ⟨rfl,J2,h2,by dsimp only;lia,by dsimp only;lia⟩⟩
     ·rw[if_neg e4];exact wpS_pure ⟨s1,rfl,J2,h2,by dsimp only;lia,by dsimp only;lia⟩
   ·simp only[hw,decide_false,if_false,Bool.false_eq_true];refine wpS_bind (bK (dX hi) ?_);have J2:=h1.movA (k:=1) (fun t t1 t2 t3 t' t4 t5=>by
     obtain rfl:t=i:=by lia
     have:=H.sb j t' (by lia) t4 t5;dsimp only[R] at *
     lia) (nr hi)
    by_cases e3:i+1+1=a.size
    ·rw[if_pos (by simpa using e3)];exact wpS_pure ⟨s1,.inl ⟨_,rfl,J2.endB H.hl e3⟩⟩
    ·rw[if_neg (by simpa using e3)];by_cases e4:ca+1 ≥ g
     ·rw[if_pos e4];exact wpS_pure ⟨s1,.inr ⟨rfl,J2,by dsimp only;lia,h3,by dsimp only;lia⟩⟩
     ·rw[if_neg e4];exact wpS_pure ⟨s1,rfl,J2,by dsimp only;lia,h3,by dsimp only;lia⟩
  case p2 =>
   rintro⟨c,u,i,j,ca,cb⟩ st2 ⟨s1,⟨r,e,hr⟩ | ⟨e,h1,h2,h3,h4⟩⟩
   ·dsimp only at e;subst e;exact wpS_pure ⟨s1,r,rfl,hr⟩
   dsimp only at *;subst e;refine wpS_bind (jr ?_);refine wpS_bind (wpS_mono (wpS_forRange (I:=fun y (c:St3) st'=>Sm st st'/\c.1=none/\J rk a b c.2.1 c.2.2.1 c.2.2.2.1/\c.2.2.1+1<a.size/\c.2.2.2.1<b.size/\x+y<c.2.2.1+c.2.2.2.1)
    (Q:=fun (c:St3) st'=>Sm st st'/\((∃ r,c.1=some r/\Res rk a b r)\/(c.1=none/\J rk a b c.2.1 c.2.2.1 c.2.2.2.1/\c.2.2.1+1<a.size/\c.2.2.2.1<b.size/\x+1<c.2.2.1+c.2.2.2.1))) ?s3 ?f3 ⟨s1,rfl,h1,h2,h3,h4⟩) ?p3)
   case f3 =>
    rintro c st' ⟨q1,q2,q3,q4,q5,q6⟩;exact⟨q1,.inr ⟨q2,q3,q4,q5,by lia⟩⟩
   case p3 =>
    rintro⟨c,u,i,j,g,ca,cb⟩ st3 ⟨s1,⟨r,e,hr⟩ | ⟨e,h1,h2,h3,h4⟩⟩
    ·dsimp only at e;subst e;exact wpS_pure ⟨s1,r,rfl,hr⟩
    dsimp only at *;subst e;exact wpS_bind (jn s1 fun st' s2=>wpS_pure ⟨s2,rfl,h1,h2,h3,h4⟩)
   case s3 =>
    rintro y ⟨c,u,i,j,g,ca,cb⟩ st3 _ hy ⟨s1,e,h1,h2,h3,h4⟩;dsimp only at *;subst e;have fir:∀{st':SortSt}{g':Nat},Sm st st'->wpS M A E s (zU a b u i j g' cb ca) (fun r st'=>match r with
     |.done c=>Sm st st'/\((∃ r,c.1=some r/\Res rk a b r)\/(c.1=none/\J rk a b c.2.1 c.2.2.1 c.2.2.2.1/\c.2.2.1+1<a.size/\c.2.2.2.1<b.size/\x+1<c.2.2.1+c.2.2.2.1))
     |.yield c=>Sm st st'/\c.1=none/\J rk a b c.2.1 c.2.2.1 c.2.2.2.1/\c.2.2.1+1<a.size/\c.2.2.2.1<b.size/\x+(y+1)<c.2.2.1+c.2.2.2.1) st':=fun {st'} {g'} s2=>by
     have hi:i<a.size:=by lia
     unfold zU;refine wpS_bind (bK (dX h3) (wpS_bind (nJ C (s2.1.trans hk) (H.pb _ (bV h3)) (fun t _ ht=>H.pa _ (bV (by lia))) (by lia) (fun p q a1 a2 a3=>H.sa p q (by lia) a2 (by lia)) (by lia) fun k k1 k2 k3=>?_)));have J1:∀ u',u'.toList=u.toList++(a.toList.drop i).take k->J rk a b u' (i+k) j:=fun u' hu=>h1.movA (k:=k) (fun t t1 t2 t3 t' t4 t5=>by
      have a1:=k2 t t1 t3;have a2:=H.sb j t' (by lia) t4 t5;dsimp only[R] at *
      lia) hu
     have sec:∀{u':Array Keyed}{i':Nat},i'=i+k->u'.toList=u.toList++(a.toList.drop i).take k->i'+1<a.size->wpS M A E s (sD a b u' i' j g' k cb) (fun r st'=>match r with
     |.done c=>Sm st st'/\((∃ r,c.1=some r/\Res rk a b r)\/(c.1=none/\J rk a b c.2.1 c.2.2.1 c.2.2.2.1/\c.2.2.1+1<a.size/\c.2.2.2.1<b.size/\x+1<c.2.2.1+c.2.2.2.1))
     | .yield c=>Sm st st'/\c.1=none/\J rk a b c.2.1 c.2.2.1 c.2.2.2.1/\c.2.2.1+1<a.size/\c.2.2.2.1<b.size/\x+(y+1)<c.2.2.1+c.2.2.2.1) st':=fun {u'} {i'} ei hu hi'=>by
      subst ei;have J2:=(J1 u' hu).movB (k:=1) (fun t t1 t2 t3 t' t4 t5=>by
       obtain rfl:t=j:=by lia
       have:=k3 t' t4 (by lia);dsimp only[R] at *
       lia) (nr h3)
      unfold sD;refine wpS_bind (bK (dX h3) ?_);by_cases e1:j+1=b.size
      ·rw[if_pos (by simpa using e1)];exact wpS_pure ⟨s2,.inl ⟨_,rfl,J2.endA (.inl e1)⟩⟩
      rw[if_neg (by simpa using e1)];have hj:j+1<b.size:=by lia
      have hi2:i+k<a.size:=by lia
      refine wpS_bind (bK (dX hi2) (wpS_bind (mK C (s2.1.trans hk) (H.pa _ (bV hi2)) (fun t _ ht=>H.pb _ (bV (by lia))) (by lia) (fun p q a1 a2 a3=>H.sb p q (by lia) a2 (by lia)) (by lia) fun l l1 l2 l3=>?_)));have J3:∀ u2,u2.toList=(u'.push (b.getD j d0)).toList++(b.toList.drop (j+1)).take l->J rk a b u2 (i+k) (j+1+l):=fun u2 hu=>J2.movB (k:=l) (fun t t1 t2 t3 t' t4 t5=>by
       have a1:=l2 t t1 t3;have a2:=H.sa (i+k) t' (by lia) t4 t5;dsimp only[R] at *
       lia) hu
      have thi:∀{u2:Array Keyed}{j':Nat},j'=j+1+l->u2.toList=(u'.push (b.getD j d0)).toList++(b.toList.drop (j+1)).take l->j'<b.size->wpS M A E s (se a b u2 (i+k) j' g' k l) (fun r st'=>match r with
     |.done c=>Sm st st'/\((∃ r,c.1=some r/\Res rk a b r)\/(c.1=none/\J rk a b c.2.1 c.2.2.1 c.2.2.2.1/\c.2.2.1+1<a.size/\c.2.2.2.1<b.size/\x+1<c.2.2.1+c.2.2.2.1))
     | .yield c=>Sm st st'/\c.1=none/\J rk a b c.2.1 c.2.2.1 c.2.2.2.1/\c.2.2.1+1<a.size/\c.2.2.2.1<b.size/\x+(y+1)<c.2.2.1+c.2.2.2.1) st':=fun {u2} {j'} ej hu2 hj'=>by
       subst ej;have J4:=(J3 u2 hu2).movA (k:=1) (fun t t1 t2 t3 t' t4 t5=>by
        obtain rfl:t=i+k:=by lia
        have:=l3 t' t4 (by lia);dsimp only[R] at *
        lia) (nr hi2)
       unfold se;refine wpS_bind (bK (dX hi2) ?_);by_cases e2:i+k+1+1=a.size
       ·rw[if_pos (by simpa using e2)];exact wpS_pure ⟨s2,.inl ⟨_,rfl,J4.endB H.hl e2⟩⟩
       rw[if_neg (by simpa using e2)];by_cases e3:(decide (k<7)&&decide (l<7))=true
       ·rw[if_pos e3];exact wpS_pure ⟨s2,.inr ⟨rfl,J4,by dsimp only;lia,hj',by dsimp only;lia⟩⟩
       ·rw[if_neg e3];exact wpS_pure ⟨s2,rfl,J4,by dsimp only;lia,hj',by dsimp only;lia⟩
      dsimp only;by_cases e2:l > 0
      ·rw[if_pos e2];by_cases e3:j+1+l=b.size
       ·rw[if_pos (by simpa using e3)];exact wpS_pure ⟨s2,.inl ⟨_,rfl,(J3 _ pY).endA (.inl e3)⟩⟩
       ·rw[if_neg (by simpa using e3)];exact thi rfl pY (by lia)
      ·rw[if_neg e2];obtain rfl:l=0:=by lia
       exact thi rfl (by simp) hj
     dsimp only;by_cases e2:k > 0
     ·rw[if_pos e2];by_cases e3:i+k+1=a.size
      ·rw[if_pos (by simpa using e3)];exact wpS_pure ⟨s2,.inl ⟨_,rfl,(J1 _ pY).endB H.hl e3⟩⟩
      rw[if_neg (by simpa using e3)];by_cases e4:i+k=a.size
      ·rw[if_pos (by simpa using e4)];exact wpS_pure ⟨s2,.inl ⟨_,rfl,(J1 _ pY).endA (.inr e4)⟩⟩
      rw[if_neg (by simpa using e4)];exact sec rfl pY (by lia)
     ·rw[if_neg e2];obtain rfl:k=0:=by lia
      exact sec rfl (by simp) h2
    by_cases hg:g > 1
    ·rw[if_pos hg];exact wpS_bind (jn s1 fun st' s2=>wpS_mono (fir (g':=g - 1) s2) fun r st2 hr=>by cases r<;>exact hr)
    ·rw[if_neg hg];exact wpS_bind (jn s1 fun st' s2=>wpS_mono (fir (g':=g) s2) fun r st2 hr=>by cases r<;>exact hr)
end
variable {M:Model}{A:Around}{E:Value->Shared->Prop}{s:Shared}{κ:SortKind}{P P':Keyed->Prop}{rk:Keyed->Int}
noncomputable def pN:Array Keyed->Array Keyed->StateT SortSt Sem (Array Keyed):=sortPriv% PySem.Builtin.mergeHi
noncomputable abbrev gA (a b u:Array Keyed)(i j:Nat):Array Keyed:=a.extract 0 i++b.extract 0 j++u.reverse
noncomputable abbrev gB (a b u:Array Keyed)(i j:Nat):Array Keyed:=b.extract 0 j++a.extract 0 i++u.reverse
noncomputable def mhi (a b:Array Keyed):StateT SortSt Sem (Array Keyed):=do
 liftM (rule "list.sort.merge-hi")
 let mut i:=a.size - 1;let mut j:=b.size;let mut u:Array Keyed:=#[<-elem' a i]
 if i==0 then return gA a b u i j
 if j==1 then return gB a b u i j
 let mut g:=gallopOf (<- get)
 for _ in [0:a.size+b.size] do
  let mut ca:=0;let mut cb:=0
  for _ in [0:a.size+b.size] do
   let some w <- lt' (<- elem' b (j - 1)) (<- elem' a (i - 1)) | return gA a b u i j
   if w then
    i:=i - 1;u:=u.push (<- elem' a i);ca:=ca+1;cb:=0
    if i==0 then return gA a b u i j
    if ca ≥ g then break
   else
    j:=j - 1;u:=u.push (<- elem' b j);cb:=cb+1;ca:=0
    if j==1 then return gB a b u i j
    if cb ≥ g then break
  liftM (rule "list.sort.gallop")
  g:=g+1
  for _ in [0:a.size+b.size] do
   if g > 1 then g:=g - 1
   om g
   let some p <- cH false (<- elem' b (j - 1)) a 0 i (i - 1) | return gA a b u i j
   let k:=i - p
   ca:=k
   if k > 0 then
    u:=u++(a.extract p i).reverse;i:=p
    if i==0 then return gA a b u i j
   j:=j - 1;u:=u.push (<- elem' b j)
   if j==1 then return gB a b u i j
   let some p <- cH true (<- elem' a (i - 1)) b 0 j (j - 1) | return gA a b u i j
   let k:=j - p
   cb:=k
   if k > 0 then
    u:=u++(b.extract p j).reverse;j:=p
    if j==1 then return gB a b u i j
    if j==0 then return gA a b u i j
   i:=i - 1;u:=u.push (<- elem' a i)
   if i==0 then return gA a b u i j
   if ca<7&&cb<7 then break
  g:=g+1
  om g
 unsupported ("internal:list.sort.merge-bound")
theorem oI (a b:Array Keyed):pN a b=mhi a b:=rfl
noncomputable abbrev Th2:=Option (Array Keyed)×Nat×Nat×Array Keyed×Nat×Nat
noncomputable abbrev Th3:=Option (Array Keyed)×Nat×Nat×Array Keyed×Nat×Nat×Nat
noncomputable abbrev Th1:=Option (Array Keyed)×Nat×Nat×Array Keyed×Nat
noncomputable abbrev Sq:=StateT SortSt Sem (ForInStep Th3)
noncomputable def rX (a b u:Array Keyed)(i j g ca cb:Nat):Sq:=do
 let x <- elem' a (i - 1)
 if i - 1==0 then pure (.done (some (gA a b (u.push x) (i - 1) j),i - 1,j,u.push x,g,ca,cb))
 else if ca<7&&cb<7 then pure (.done (none,i - 1,j,u.push x,g,ca,cb)) else pure (.yield (none,i - 1,j,u.push x,g,ca,cb))
noncomputable def sC (a b u:Array Keyed)(i j g ca cb:Nat):Sq:=do
 let x <- elem' b (j - 1)
 if j - 1==1 then pure (.done (some (gB a b (u.push x) i (j - 1)),i,j - 1,u.push x,g,ca,cb))
 else
  let z <- elem' a (i - 1)
  match <- cH true z b 0 (j - 1) (j - 1 - 1) with
  |some p =>
   if j - 1 - p > 0 then
    if p==1 then pure (.done (some (gB a b (u.push x++(b.extract p (j - 1)).reverse) i p),i,p,u.push x++(b.extract p (j - 1)).reverse,g,ca,j - 1 - p))
    else if p==0 then pure (.done (some (gA a b (u.push x++(b.extract p (j - 1)).reverse) i p),i,p,u.push x++(b.extract p (j - 1)).reverse,g,ca,j - 1 - p))
    else rX a b (u.push x++(b.extract p (j - 1)).reverse) i p g ca (j - 1 - p)
   else rX a b (u.push x) i (j - 1) g ca (j - 1 - p)
  |_=>pure (.done (some (gA a b (u.push x) i (j - 1)),i,j - 1,u.push x,g,ca,cb))
noncomputable def Ab (a b u:Array Keyed)(i j g cb ca:Nat):Sq:=do
 let x <- elem' b (j - 1)
 match <- cH false x a 0 i (i - 1) with
 |some p =>
  if i - p > 0 then
   if p==0 then pure (.done (some (gA a b (u++(a.extract p i).reverse) p j),p,j,u++(a.extract p i).reverse,g,i - p,cb))
   else sC a b (u++(a.extract p i).reverse) p j g (i - p) cb
  else sC a b u i j g (i - p) cb
 |_=>pure (.done (some (gA a b u i j),i,j,u,g,ca,cb))
theorem mvH {o p q r:List Keyed}(h1:S rk ((q++p)++o))(h2:S rk (r++o))(h:∀ x∈r,∀ y∈p,rk x<=rk y):S rk (q++(p++o))/\S rk (r++(p++o)):=by
 rw[au] at h1;refine⟨h1,?_⟩;have a:=(List.pairwise_append.mp h1).2.1;have b:=List.pairwise_append.mp h2;refine List.pairwise_append.mpr ⟨b.1,a,fun x hx y hy=>?_⟩;rcases List.mem_append.mp hy with hy | hy
 ·exact h x hx y hy
 ·exact b.2.2 x hx y hy
theorem nK {xs:Array Keyed}{n:Nat}{y:Keyed}(h:y∈xs.toList.take n):∃ t,t<n/\t<xs.size/\y=xs.getD t d0:=by
 obtain⟨t,t1,t2,t3,e⟩:=eC (i:=0) (k:=n) (by simpa using h);exact⟨t,by lia,t2,e⟩
theorem wd {xs:Array Keyed}{n p:Nat}{y:Keyed}(h:y∈(xs.toList.take n).drop p):∃ t,p<=t/\t<n/\t<xs.size/\y=xs.getD t d0:=by
 rw[List.drop_take] at h;obtain⟨t,t1,t2,t3,e⟩:=eC h;exact⟨t,t1,by lia,t2,e⟩
section
variable {a b:Array Keyed}
structure G (rk:Keyed->Int)(a b u:Array Keyed)(i j:Nat):Prop where
 ha:S rk (a.toList.take i++u.toList.reverse)
 hb:S rk (b.toList.take j++u.toList.reverse)
 pm:(a.toList.take i++b.toList.take j++u.toList.reverse).Perm (a.toList++b.toList)
theorem G.movA {u u':Array Keyed}{i j p:Nat}(h:G rk a b u i j)(hp:p<=i)(o:∀ t,p<=t->t<i->t<a.size->∀ t',t'<j->t'<b.size->R rk b t'<=R rk a t)(e:u'.toList.reverse=(a.toList.take i).drop p++u.toList.reverse):G rk a b u' p j:=by
 have ed:a.toList.take i=a.toList.take p++(a.toList.take i).drop p:=by
  have:=df p (a.toList.take i);rw[List.take_take,Nat.min_eq_left hp] at this;exact this.symm
 have h1:=h.ha;rw[ed] at h1;have:=mvH h1 h.hb fun x hx y hy=>by
  obtain⟨t,t1,t2,t3,rfl⟩:=wd hy;obtain⟨t',t4,t5,rfl⟩:=nK hx;exact o t t1 t2 t3 t' t4 t5
 refine⟨by rw[e];exact this.1,by rw[e];exact this.2,?_⟩;have pm:=h.pm;rw[ed] at pm;rw[e];refine List.Perm.trans ?_ pm;rw[au,au,au];refine (gv _ ?_);have:=(fq (l₁:=b.toList.take j) (l₂:=(a.toList.take i).drop p)).append_right u.toList.reverse
 rwa [au,au] at this
theorem G.movB {u u':Array Keyed}{i j p:Nat}(h:G rk a b u i j)(hp:p<=j)(o:∀ t,p<=t->t<j->t<b.size->∀ t',t'<i->t'<a.size->R rk a t'<=R rk b t)(e:u'.toList.reverse=(b.toList.take j).drop p++u.toList.reverse):G rk a b u' i p:=by
 have ed:b.toList.take j=b.toList.take p++(b.toList.take j).drop p:=by
  have:=df p (b.toList.take j);rw[List.take_take,Nat.min_eq_left hp] at this;exact this.symm
 have h1:=h.hb;rw[ed] at h1;have:=mvH h1 h.ha fun x hx y hy=>by
  obtain⟨t,t1,t2,t3,rfl⟩:=wd hy;obtain⟨t',t4,t5,rfl⟩:=nK hx;exact o t t1 t2 t3 t' t4 t5
 refine⟨by rw[e];exact this.2,by rw[e];exact this.1,?_⟩;have pm:=h.pm;rw[ed] at pm;rw[e];simpa[List.append_assoc] using pm
theorem kH {u:Array Keyed}{xs:Array Keyed}{i:Nat}(h0:0<i)(h:i<=xs.size):(u.push (xs.getD (i - 1) d0)).toList.reverse=(xs.toList.take i).drop (i - 1)++u.toList.reverse:=by
 rw[List.drop_take,drop_one (by lia),show i - (i - 1)=1 by lia];simp
theorem oa {u:Array Keyed}{xs:Array Keyed}{i p:Nat}:(u++(xs.extract p i).reverse).toList.reverse=(xs.toList.take i).drop p++u.toList.reverse:=by
 rw[List.drop_take];simp[List.extract_eq_take_drop]
theorem rQ {xs:Array Keyed}{i:Nat}:(xs.extract 0 i).toList=xs.toList.take i:=by
 simp[List.extract_eq_take_drop]
theorem G.endA {u:Array Keyed}{i j:Nat}(h:G rk a b u i j)(e:i=0\/j=0):Res rk a b (gA a b u i j):=by
 have el:(gA a b u i j).toList=a.toList.take i++b.toList.take j++u.toList.reverse:=by
  unfold gA;rw[de,de,rQ,rQ,Array.toList_reverse]
 refine⟨by rw[el];exact h.pm,?_⟩;rw[el];rcases e with rfl | rfl
 ·exact h.hb
 ·rw[List.take_zero,bc];exact h.ha
theorem G.endB {u:Array Keyed}{i j:Nat}(h:G rk a b u i j)(h0:∀ t,t<a.size->R rk b 0<=R rk a t)(e:j=1):Res rk a b (gB a b u i j):=by
 have el:(gB a b u i j).toList=b.toList.take j++(a.toList.take i++u.toList.reverse):=by
  unfold gB;rw[de,de,rQ,rQ,Array.toList_reverse,au]
 refine⟨?_,?_⟩
 ·rw[el];refine List.Perm.trans ?_ h.pm;rw[<-au];exact (i5 _ fq)
 ·rw[el];refine List.pairwise_append.mpr ⟨(List.pairwise_append.mp h.hb).1,h.ha,fun x hx y hy=>?_⟩;rcases List.mem_append.mp hy with hy | hy
  ·obtain⟨t,t1,t2,rfl⟩:=nK hx;obtain⟨t',t3,t4,rfl⟩:=nK hy;obtain rfl:t=0:=by lia
   exact h0 t' t4
  ·exact (List.pairwise_append.mp h.hb).2.2 x hx y hy
theorem EE (C:Cm M A E s κ P P' rk)(H:Mh rk P P' a b){st:SortSt}(hk:kindOf st=κ){Q:Array Keyed->SortSt->Prop}(h:∀ r st',Sm st st'->Res rk a b r->Q r st'):wpS M A E s (mhi a b) Q st:=by
 have:=H.na;have:=H.nb;unfold mhi;refine wpS_bind (jr ?_);have hz:a.size - 1<a.size:=by lia
 refine wpS_bind (bK (dX hz) ?_);dsimp only;have J0:G rk a b #[a.getD (a.size - 1) d0] (a.size - 1) b.size:=by
  have ea:a.toList.take a.size=a.toList:=List.take_of_length_le (by simp);have eb:b.toList.take b.size=b.toList:=List.take_of_length_le (by simp);have z:G rk a b #[] a.size b.size:=⟨by rw[ea];simpa using nZ H.sa,by rw[eb];simpa using nZ H.sb,by rw[ea,eb];simp⟩;exact z.movA (p:=a.size - 1) (by lia) (fun t h1 h2 h3 t' h4 h5=>(show t=a.size - 1 by lia) ▸ H.hl t' h5) (kH (u:=#[]) H.na (aj _))
 by_cases e1:a.size - 1=0
 ·rw[if_pos (by simpa using e1)];exact wpS_pure (h _ _ (.refl _) (J0.endA (.inl e1)))
 rw[if_neg (by simpa using e1)];by_cases e2:b.size=1
 ·rw[if_pos (by simpa using e2)];exact wpS_pure (h _ _ (.refl _) (J0.endB H.h0 e2))
 rw[if_neg (by simpa using e2)];refine wpS_bind (wpS_get ?_);refine wpS_bind (wpS_mono (wpS_forRange (I:=fun x (c:Th1) st'=>Sm st st'/\c.1=none/\G rk a b c.2.2.2.1 c.2.1 c.2.2.1/\0<c.2.1/\c.2.1<=a.size/\1<c.2.2.1/\c.2.2.1<=b.size/\x+(c.2.1+c.2.2.1)<a.size+b.size)
  (Q:=fun (c:Th1) st'=>Sm st st'/\∃ r,c.1=some r/\Res rk a b r) ?step ?fin ⟨.refl _,rfl,J0,by dsimp only;lia,by dsimp only;lia,by dsimp only;lia,by dsimp only;lia,by dsimp only;lia⟩) ?post)
 case post =>
  rintro⟨c,i,j,u,g⟩ st' ⟨s1,r,e,hr⟩;dsimp only at e;subst e;exact wpS_pure (h _ _ s1 hr)
 case fin =>
  rintro⟨c,i,j,u,g⟩ st' ⟨s1,e,h1,h2,h3,h4,h5,h6⟩;dsimp only at *
  lia
 case step =>
  rintro x ⟨c,i,j,u,g⟩ st1 _ hx ⟨s1,e,h1,h2,h3,h4,h5,h6⟩;dsimp only at *;subst e;refine wpS_bind (wpS_mono (wpS_forRange (I:=fun y (c:Th2) st'=>Sm st st'/\c.1=none/\G rk a b c.2.2.2.1 c.2.1 c.2.2.1/\0<c.2.1/\c.2.1<=a.size/\1<c.2.2.1/\c.2.2.1<=b.size/\x+(c.2.1+c.2.2.1)<a.size+b.size)
   (Q:=fun (c:Th2) st'=>Sm st st'/\((∃ r,c.1=some r/\Res rk a b r)\/(c.1=none/\G rk a b c.2.2.2.1 c.2.1 c.2.2.1/\0<c.2.1/\c.2.1<=a.size/\1<c.2.2.1/\c.2.2.1<=b.size/\x+(c.2.1+c.2.2.1)<a.size+b.size))) ?s2 ?f2 ⟨s1,rfl,h1,h2,h3,h4,h5,h6⟩) ?p2)
  case f2 =>
   rintro c st' ⟨q1,q2,q3⟩;exact⟨q1,.inr ⟨q2,q3⟩⟩
  case s2 =>
   rintro y ⟨c,i,j,u,ca,cb⟩ st2 _ hy ⟨s1,e,h1,h2,h3,h4,h5,h6⟩;dsimp only at *;subst e;have hi:i - 1<a.size:=by lia
   have hj:j - 1<b.size:=by lia
   refine wpS_bind (bK (dX hj) (wpS_bind (bK (dX hi) (wpS_bind (C.lt (H.pb _ (bV hj)) (H.pa _ (bV hi)) (s1.1.trans hk) ?_)))));by_cases hw:rk (b.getD (j - 1) d0)<rk (a.getD (i - 1) d0)
   ·simp only[hw,decide_true,if_true];refine wpS_bind (bK (dX hi) ?_);have J2:=h1.movA (p:=i - 1) (by lia) (fun t t1 t2 t3 t' t4 t5=>by
     obtain rfl:t=i - 1:=by lia
     have:=H.sb t' (j - 1) (by lia) (by lia) hj;dsimp only[R] at *
     lia) (kH h2 h3)
    by_cases e3:i - 1=0
    ·rw[if_pos (by simpa using e3)];exact wpS_pure ⟨s1,.inl ⟨_,rfl,J2.endA (.inl e3)⟩⟩
    ·rw[if_neg (by simpa using e3)];by_cases e4:ca+1 ≥ g
     ·rw[if_pos e4];exact wpS_pure ⟨s1,.inr ⟨rfl,J2,by dsimp only;lia,by dsimp only;lia,h4,h5,by dsimp only;lia⟩⟩
     ·rw[if_neg e4];exact wpS_pure ⟨s1,rfl,J2,by dsimp only;lia,by dsimp only;lia,h4,h5,by dsimp only;lia⟩
   ·simp only[hw,decide_false,if_false,Bool.false_eq_true];refine wpS_bind (bK (dX hj) ?_);have J2:=h1.movB (p:=j - 1) (by lia) (fun t t1 t2 t3 t' t4 t5=>by
     obtain rfl:t=j - 1:=by lia
     have:=H.sa t' (i - 1) (by lia) (by lia) hi;dsimp only[R] at *
     lia) (kH (by lia) h5)
    by_cases e3:j - 1=1
    ·rw[if_pos (by simpa using e3)];exact wpS_pure ⟨s1,.inl ⟨_,rfl,J2.endB H.h0 e3⟩⟩
    ·rw[if_neg (by simpa using e3)];by_cases e4:cb+1 ≥ g
     ·rw[if_pos e4];exact wpS_pure ⟨s1,.inr ⟨rfl,J2,h2,h3,by dsimp only;lia,by dsimp only;lia,by dsimp only;lia⟩⟩
     ·rw[if_neg e4];exact wpS_pure ⟨s1,rfl,J2,h2,h3,by dsimp only;lia,by dsimp only;lia,by dsimp only;lia⟩
  case p2 =>
   rintro⟨c,i,j,u,ca,cb⟩ st2 ⟨s1,⟨r,e,hr⟩ | ⟨e,h1,h2,h3,h4,h5,h6⟩⟩
   ·dsimp only at e;subst e;exact wpS_pure ⟨s1,r,rfl,hr⟩
   dsimp only at *;subst e;refine wpS_bind (jr ?_);refine wpS_bind (wpS_mono (wpS_forRange (I:=fun y (c:Th3) st'=>Sm st st'/\c.1=none/\G rk a b c.2.2.2.1 c.2.1 c.2.2.1/\0<c.2.1/\c.2.1<=a.size/\1<c.2.2.1/\c.2.2.1<=b.size/\x+y+(c.2.1+c.2.2.1)<a.size+b.size)
    (Q:=fun (c:Th3) st'=>Sm st st'/\((∃ r,c.1=some r/\Res rk a b r)\/(c.1=none/\G rk a b c.2.2.2.1 c.2.1 c.2.2.1/\0<c.2.1/\c.2.1<=a.size/\1<c.2.2.1/\c.2.2.1<=b.size/\x+1+(c.2.1+c.2.2.1)<a.size+b.size))) ?s3 ?f3 ⟨s1,rfl,h1,h2,h3,h4,h5,h6⟩) ?p3)
   case f3 =>
    rintro c st' ⟨q1,q2,q3,q4,q5,q6,q7,q8⟩;exact⟨q1,.inr ⟨q2,q3,q4,q5,q6,q7,by lia⟩⟩
   case p3 =>
    rintro⟨c,i,j,u,g,ca,cb⟩ st3 ⟨s1,⟨r,e,hr⟩ | ⟨e,h1,h2,h3,h4,h5,h6⟩⟩
    ·dsimp only at e;subst e;exact wpS_pure ⟨s1,r,rfl,hr⟩
    dsimp only at *;subst e;exact wpS_bind (jn s1 fun st' s2=>wpS_pure ⟨s2,rfl,h1,h2,h3,h4,h5,h6⟩)
   case s3 =>
    rintro y ⟨c,i,j,u,g,ca,cb⟩ st3 _ hy ⟨s1,e,h1,h2,h3,h4,h5,h6⟩;dsimp only at *;subst e;have hj:j - 1<b.size:=by lia
    have fir:∀{st':SortSt}{g':Nat},Sm st st'->wpS M A E s (Ab a b u i j g' cb ca) (fun r st'=>match r with
     |.done c=>Sm st st'/\((∃ r,c.1=some r/\Res rk a b r)\/(c.1=none/\G rk a b c.2.2.2.1 c.2.1 c.2.2.1/\0<c.2.1/\c.2.1<=a.size/\1<c.2.2.1/\c.2.2.1<=b.size/\x+1+(c.2.1+c.2.2.1)<a.size+b.size))
     |.yield c=>Sm st st'/\c.1=none/\G rk a b c.2.2.2.1 c.2.1 c.2.2.1/\0<c.2.1/\c.2.1<=a.size/\1<c.2.2.1/\c.2.2.1<=b.size/\x+(y+1)+(c.2.1+c.2.2.1)<a.size+b.size) st':=fun {st'} {g'} s2=>by
     unfold Ab;refine wpS_bind (bK (dX hj) (wpS_bind (nJ C (s2.1.trans hk) (H.pb _ (bV hj)) (fun t _ ht=>H.pa _ (bV (by lia))) (by lia) (fun p q a1 a2 a3=>H.sa p q (by lia) a2 (by lia)) (by lia) fun p k1 k2 k3=>?_)));have J1:∀ u',u'.toList.reverse=(a.toList.take i).drop p++u.toList.reverse->G rk a b u' p j:=fun u' hu=>h1.movA k1 (fun t t1 t2 t3 t' t4 t5=>by
      have a1:=k3 t (by lia) (by lia);have a2:=H.sb t' (j - 1) (by lia) (by lia) hj;dsimp only[R] at *
      lia) hu
     have sec:∀{u':Array Keyed}{i':Nat},i'=p->u'.toList.reverse=(a.toList.take i).drop p++u.toList.reverse->0<i'->wpS M A E s (sC a b u' i' j g' (i - p) cb) (fun r st'=>match r with
     |.done c=>Sm st st'/\((∃ r,c.1=some r/\Res rk a b r)\/(c.1=none/\G rk a b c.2.2.2.1 c.2.1 c.2.2.1/\0<c.2.1/\c.2.1<=a.size/\1<c.2.2.1/\c.2.2.1<=b.size/\x+1+(c.2.1+c.2.2.1)<a.size+b.size))
     | .yield c=>Sm st st'/\c.1=none/\G rk a b c.2.2.2.1 c.2.1 c.2.2.1/\0<c.2.1/\c.2.1<=a.size/\1<c.2.2.1/\c.2.2.1<=b.size/\x+(y+1)+(c.2.1+c.2.2.1)<a.size+b.size) st':=fun {u'} {i'} ei hu hi'=>by
      subst ei;have J2:=(J1 u' hu).movB (p:=j - 1) (by lia) (fun t t1 t2 t3 t' t4 t5=>by
       obtain rfl:t=j - 1:=by lia
       have:=k2 t' (by lia) (by lia);dsimp only[R] at *
       lia) (kH (by lia) h5)
      unfold sC;refine wpS_bind (bK (dX hj) ?_);by_cases e1:j - 1=1
      ·rw[if_pos (by simpa using e1)];exact wpS_pure ⟨s2,.inl ⟨_,rfl,J2.endB H.h0 e1⟩⟩
      rw[if_neg (by simpa using e1)];have hi2:i' - 1<a.size:=by lia
      refine wpS_bind (bK (dX hi2) (wpS_bind (mK C (s2.1.trans hk) (H.pa _ (bV hi2)) (fun t _ ht=>H.pb _ (bV (by lia))) (by lia) (fun p q a1 a2 a3=>H.sb p q (by lia) a2 (by lia)) (by lia) fun l l1 l2 l3=>?_)));have J3:∀ u2,u2.toList.reverse=(b.toList.take (j - 1)).drop l++(u'.push (b.getD (j - 1) d0)).toList.reverse->G rk a b u2 i' l:=fun u2 hu=>J2.movB l1 (fun t t1 t2 t3 t' t4 t5=>by
       have a1:=l3 t (by lia) (by lia);have a2:=H.sa t' (i' - 1) (by lia) (by lia) hi2;dsimp only[R] at *
       lia) hu
      have thi:∀{u2:Array Keyed}{j':Nat},j'=l->u2.toList.reverse=(b.toList.take (j - 1)).drop l++(u'.push (b.getD (j - 1) d0)).toList.reverse->1<j'->wpS M A E s (rX a b u2 i' j' g' (i - i') (j - 1 - l)) (fun r st'=>match r with
     |.done c=>Sm st st'/\((∃ r,c.1=some r/\Res rk a b r)\/(c.1=none/\G rk a b c.2.2.2.1 c.2.1 c.2.2.1/\0<c.2.1/\c.2.1<=a.size/\1<c.2.2.1/\c.2.2.1<=b.size/\x+1+(c.2.1+c.2.2.1)<a.size+b.size))
     | .yield c=>Sm st st'/\c.1=none/\G rk a b c.2.2.2.1 c.2.1 c.2.2.1/\0<c.2.1/\c.2.1<=a.size/\1<c.2.2.1/\c.2.2.1<=b.size/\x+(y+1)+(c.2.1+c.2.2.1)<a.size+b.size) st':=fun {u2} {j'} ej hu2 hj'=>by
       subst ej;have J4:=(J3 u2 hu2).movA (p:=i' - 1) (by lia) (fun t t1 t2 t3 t' t4 t5=>by
        obtain rfl:t=i' - 1:=by lia
        have:=l2 t' (by lia) (by lia);dsimp only[R] at *
        lia) (kH hi' (by lia))
       unfold rX;refine wpS_bind (bK (dX hi2) ?_);by_cases e2:i' - 1=0
       ·rw[if_pos (by simpa using e2)];exact wpS_pure ⟨s2,.inl ⟨_,rfl,J4.endA (.inl e2)⟩⟩
       rw[if_neg (by simpa using e2)];by_cases e3:(decide (i - i'<7)&&decide (j - 1 - j'<7))=true
       ·rw[if_pos e3];exact wpS_pure ⟨s2,.inr ⟨rfl,J4,by dsimp only;lia,by dsimp only;lia,hj',by dsimp only;lia,by dsimp only;lia⟩⟩
       ·rw[if_neg e3];exact wpS_pure ⟨s2,rfl,J4,by dsimp only;lia,by dsimp only;lia,hj',by dsimp only;lia,by dsimp only;lia⟩
      dsimp only;by_cases e2:j - 1 - l > 0
      ·rw[if_pos e2];by_cases e3:l=1
       ·rw[if_pos (by simpa using e3)];exact wpS_pure ⟨s2,.inl ⟨_,rfl,(J3 _ oa).endB H.h0 e3⟩⟩
       rw[if_neg (by simpa using e3)];by_cases e4:l=0
       ·rw[if_pos (by simpa using e4)];exact wpS_pure ⟨s2,.inl ⟨_,rfl,(J3 _ oa).endA (.inr e4)⟩⟩
       rw[if_neg (by simpa using e4)];exact thi rfl oa (by lia)
      ·rw[if_neg e2];obtain rfl:l=j - 1:=by lia
       exact thi rfl (by rw[List.drop_of_length_le (by simp;lia)];rfl) (by lia)
     dsimp only;by_cases e2:i - p > 0
     ·rw[if_pos e2];by_cases e4:p=0
      ·rw[if_pos (by simpa using e4)];exact wpS_pure ⟨s2,.inl ⟨_,rfl,(J1 _ oa).endA (.inl e4)⟩⟩
      rw[if_neg (by simpa using e4)];exact sec rfl oa (by lia)
     ·rw[if_neg e2];obtain rfl:p=i:=by lia
      exact sec rfl (by rw[List.drop_of_length_le (by simp;lia)];rfl) h2
    by_cases hg:g > 1
    ·rw[if_pos hg];exact wpS_bind (jn s1 fun st' s2=>wpS_mono (fir (g':=g - 1) s2) fun r st2 hr=>by cases r<;>exact hr)
    ·rw[if_neg hg];exact wpS_bind (jn s1 fun st' s2=>wpS_mono (fir (g':=g) s2) fun r st2 hr=>by cases r<;>exact hr)
end
variable {M:Model}{A:Around}{E:Value->Shared->Prop}{s:Shared}{κ:SortKind}{P:Keyed->Prop}{rk ky:Keyed->Int}{ix:Keyed->Nat}{N:Nat}
noncomputable abbrev bY (ky:Keyed->Int)(ix:Keyed->Nat)(N:Nat)(x:Keyed):Int:=(N:Int)*ky x+(ix x:Int)
structure Ct (M:Model)(A:Around)(E:Value->Shared->Prop)(s:Shared)(κ:SortKind)(P:Keyed->Prop)(ky:Keyed->Int)(ix:Keyed->Nat)(N:Nat):Prop where
 c:Cm M A E s κ P P ky
 b:∀ x,P x->ix x<N
theorem sJ {x y:Keyed}(hx:ix x<N)(h:ky x<ky y):bY ky ix N x<bY ky ix N y:=by
 have:=gy (show ky x+1<=ky y by lia) (show 0<=(N:Int) by lia);rw[Int.mul_add,Int.mul_one] at this;unfold bY
 lia
theorem Ad {x y:Keyed}(hx:ix x<N)(h:ky x<=ky y)(hi:ix x<=ix y):bY ky ix N x<=bY ky ix N y:=by
 have:=gy h (show 0<=(N:Int) by lia);unfold bY
 lia
theorem Dw {x y:Keyed}(hy:ix y<N)(h:bY ky ix N x<=bY ky ix N y):ky x<=ky y:=by
 rcases Int.lt_or_le (ky y) (ky x) with h' | h'
 ·have:=sJ (x:=y) (y:=x) hy h'
  lia
 ·exact h'
theorem uQ {x y:Keyed}(hx:ix x<N)(hy:ix y<N)(hi:ix y<ix x):decide (bY ky ix N x<bY ky ix N y)=decide (ky x<ky y):=by
 refine decide_eq_decide.mpr ⟨fun h=>?_,sJ hx⟩;rcases Int.lt_or_le (ky x) (ky y) with h' | h'
 ·exact h'
 ·have:=Ad (ky:=ky) (N:=N) hy h' (gp hi)
  lia
theorem Ct.cm {P1 P2:Keyed->Prop}(C:Ct M A E s κ P ky ix N)(h:∀ x y,P1 x->P2 y->P x/\P y/\ix y<ix x):Cm M A E s κ P1 P2 (bY ky ix N) where
 lt {x y st Q} hx hy hk q:=by
  obtain⟨a,b,c⟩:=h x y hx hy;rw[uQ (C.b x a) (C.b y b) c] at q;exact C.c.lt a b hk q
structure Cg (st:SortSt)(lo hi:Nat)(st':SortSt):Prop where
 pm:(arrOf st').Perm (arrOf st)
 out:∀ k,k<lo\/hi<=k->(arrOf st').getD k d0=(arrOf st).getD k d0
 kd:kindOf st'=kindOf st
 pe:pendingOf st'=pendingOf st
 fa:failedOf st'=failedOf st
theorem Cg.refl (st:SortSt)(lo hi:Nat):Cg st lo hi st:=⟨.refl _,fun _ _=>rfl,rfl,rfl,rfl⟩
theorem Cg.up {st st':SortSt}{lo hi hi':Nat}(h:Cg st lo hi st')(l:hi<=hi'):Cg st lo hi' st':=⟨h.pm,fun k hk=>h.out k (by lia),h.kd,h.pe,h.fa⟩
theorem Cg.sz {st st':SortSt}{lo hi:Nat}(h:Cg st lo hi st'):(arrOf st').size=(arrOf st).size:=h.pm.size_eq
theorem gd {xs ys:Array Keyed}{i j:Nat}(h:xs[i]? = ys[j]?):xs.getD i d0=ys.getD j d0:=by
 rw[Array.getD_eq_getD_getElem?,Array.getD_eq_getD_getElem?,h]
theorem sj {xs:Array Keyed}{src d:Nat}(hs:src<xs.size)(hd:d<=src)(k:Nat):(bubble xs src d).getD k d0=if k=src - d then xs.getD src d0 else if src - d<k/\k<=src then xs.getD (k - 1) d0 else xs.getD k d0:=by
 have e:=(getElem?_bubble hs d hd k);by_cases h1:k=src - d
 ·rw[if_pos h1] at e ⊢;exact gd e
 rw[if_neg h1] at e ⊢;by_cases h2:(src - d<k/\k<=src)
 ·rw[if_pos h2] at e ⊢;exact gd e
 ·rw[if_neg h2] at e ⊢;exact gd e
theorem Ay {xs:Array Keyed}{src d:Nat}(hs:src<xs.size)(hd:d<=src)(k:Nat):R rk (bubble xs src d) k=if k=src - d then R rk xs src else if src - d<k/\k<=src then R rk xs (k - 1) else R rk xs k:=by
 show rk _=_;rw[sj hs hd,apply_ite rk,apply_ite rk]
theorem jC {xs:Array Keyed}{i j:Nat}(hj:j<=xs.size)(k:Nat):(mirror xs i j ((j - i) / 2)).getD k d0=if i<=k/\k<j then xs.getD (i+j - 1 - k) d0 else xs.getD k d0:=by
 have e:=(getElem?_mirror_all (i:=i) hj k);by_cases h1:i<=k/\k<j
 ·rw[if_pos h1] at e ⊢;exact gd e
 ·rw[if_neg h1] at e ⊢;exact gd e
def Al (P:Keyed->Prop)(st:SortSt):Prop:=∀ x∈(arrOf st).toList,P x
theorem Cg.al {st st':SortSt}{lo hi:Nat}(h:Cg st lo hi st')(p:Al P st):Al P st':=fun x hx=>p x ((Array.perm_iff_toList_perm.mp h.pm).mem_iff.mp hx)
theorem Cg.bub {st st':SortSt}{lo hi src d:Nat}(h:Cg st lo hi st')(hs:src<(arrOf st).size)(hd:d<=src)(hl:lo<=src - d)(hh:src<hi):Cg st lo hi (setArr st' (bubble (arrOf st') src d)) :=
 ⟨(bubble_perm _ _ _).trans h.pm,fun k hk=>by
  show (bubble (arrOf st') src d).getD k d0=_;rw[sj (by rw[h.sz];exact hs) hd,if_neg (by lia),if_neg (by lia)];exact h.out k hk,h.kd,h.pe,h.fa⟩
theorem Cg.lR {st st':SortSt}{lo hi i j:Nat}(h:Cg st lo hi st')(hj:j<=(arrOf st).size)(hl:lo<=i)(hh:j<=hi):Cg st lo hi (setArr st' (mirror (arrOf st') i j ((j - i) / 2))) :=
 ⟨(mirror_perm _ _ _ _).trans h.pm,fun k hk=>by
  show (mirror (arrOf st') i j ((j - i) / 2)).getD k d0=_;rw[jC (by rw[h.sz];exact hj),if_neg (by lia)];exact h.out k hk,h.kd,h.pe,h.fa⟩
def jc (ix:Keyed->Nat)(xs:Array Keyed)(lo hi:Nat):Prop:=∀ t,lo<=t->t<hi->lo<=ix (xs.getD t d0)/\ix (xs.getD t d0)<hi
def n9 (ix:Keyed->Nat)(xs:Array Keyed)(lo:Nat):Prop:=∀ t,lo<=t->t<xs.size->ix (xs.getD t d0)=t
theorem n9.ixs {xs:Array Keyed}{lo hi:Nat}(h:n9 ix xs lo)(hz:hi<=xs.size):jc ix xs lo hi:=fun t a b=>by rw[h t a (by lia)];exact⟨a,b⟩
theorem Cg.idt {st st':SortSt}{lo hi:Nat}(h:Cg st lo hi st')(l:lo<=hi)(i:n9 ix (arrOf st) lo):n9 ix (arrOf st') hi:=fun t a b=>by
 rw[h.out t (.inr a)];exact i t (by lia) (by rw[<-h.sz];exact b)
theorem mL {P':Keyed->Prop}(C:Cm M A E s κ P P' rk){i j:Nat}{st:SortSt}(hk:kindOf st=κ)(pi:P ((arrOf st).getD i d0))(pj:P' ((arrOf st).getD j d0))(hi:i<(arrOf st).size)(hj:j<(arrOf st).size){Q:Option Bool->SortSt->Prop}(q:Q (some (decide (R rk (arrOf st) i<R rk (arrOf st) j))) st):wpS M A E s (ltAt' i j) Q st:=by
 rw[ltAt'_eq];exact wpS_bind (wpS_get (wpS_bind (bK (dX hi) (wpS_bind (bK (dX hj) (C.lt pi pj hk q))))))
theorem w_rev {i j:Nat}{st:SortSt}{Q:Unit->SortSt->Prop}(q:Q () (setArr st (mirror (arrOf st) i j ((j - i) / 2)))):wpS M A E s (reverseSlice' i j) Q st:=by
 rw[reverseSlice'_eq];exact wpS_modify q
theorem Aa (C:Ct M A E s κ P ky ix N){i j:Nat}{st:SortSt}(hk:kindOf st=κ)(p:Al P st)(hi:i<(arrOf st).size)(hj:j<(arrOf st).size)(o:ix ((arrOf st).getD j d0)<ix ((arrOf st).getD i d0)){Q:Option Bool->SortSt->Prop}(q:Q (some (decide (R (bY ky ix N) (arrOf st) i<R (bY ky ix N) (arrOf st) j))) st):wpS M A E s (ltAt' i j) Q st :=
 mL (P:=fun x=>x=(arrOf st).getD i d0) (P':=fun x=>x=(arrOf st).getD j d0) (C.cm fun x y hx hy=>by subst hx hy;exact⟨p _ (bV hi),p _ (bV hj),o⟩) hk rfl rfl hi hj q
theorem DT (C:Ct M A E s κ P ky ix N){st:SortSt}{lo n ok:Nat}(hk:kindOf st=κ)(p:Al P st)(hz:lo+n<=(arrOf st).size)(h1:1<=ok)(hok:ok<=n)(so:iB (bY ky ix N) (arrOf st) lo (lo+ok))(xo:jc ix (arrOf st) lo (lo+ok))(io:n9 ix (arrOf st) (lo+ok)){Q:Bool->SortSt->Prop}
  (h:∀ st',Cg st lo (lo+n) st'->iB (bY ky ix N) (arrOf st') lo (lo+n)->jc ix (arrOf st') lo (lo+n)->Q true st'):wpS M A E s (binarySort' lo n ok) Q st:=by
 rw[binarySort'_eq];refine wpS_bind (wpS_mono (wpS_forRange (I:=fun k (c:Option Bool×Unit) st'=>c.1=none/\Cg st lo (lo+n) st'/\iB (bY ky ix N) (arrOf st') lo (lo+min k n)/\jc ix (arrOf st') lo (lo+min k n)/\n9 ix (arrOf st') (lo+min k n))
  (Q:=fun (c:Option Bool×Unit) st'=>c.1=none/\Cg st lo (lo+n) st'/\iB (bY ky ix N) (arrOf st') lo (lo+n)/\jc ix (arrOf st') lo (lo+n)) ?step ?fin ⟨rfl,.refl _ _ _,by rw[show min (max ok 1) n=ok by lia];exact⟨so,xo,io⟩⟩) ?post)
 case post =>
  rintro⟨c,u⟩ st' ⟨e,h1,h2,h3⟩;dsimp only at e;subst e;exact wpS_pure (h st' h1 h2 h3)
 case fin =>
  rintro c st' ⟨e,h1,h2⟩;rw[show min (max (max ok 1) n) n=n by lia] at h2;exact⟨e,h1,h2.1,h2.2.1⟩
 case step =>
  rintro k ⟨c,u⟩ st1 hk1 hkn ⟨e,g1,g2,g3,g4⟩;dsimp only at e;subst e;rw[show min k n=k by lia] at g2 g3 g4;dsimp only;have hz1:lo+k<(arrOf st1).size:=by rw[g1.sz];lia
  refine wpS_bind (wpS_mono (wpS_forRange (I:=fun x (c:Option Bool×Nat×Nat) st'=>st'=st1/\c.1=none/\c.2.1<=c.2.2/\c.2.2<=k/\c.2.2 - c.2.1<=k - x/\(∀ i,i<c.2.1->R (bY ky ix N) (arrOf st1) (lo+i)<=R (bY ky ix N) (arrOf st1) (lo+k))/\(∀ i,c.2.2<=i->i<k->R (bY ky ix N) (arrOf st1) (lo+k)<R (bY ky ix N) (arrOf st1) (lo+i)))
   (Q:=fun (c:Option Bool×Nat×Nat) st'=>st'=st1/\c.1=none/\c.2.1<=k/\(∀ i,i<c.2.1->R (bY ky ix N) (arrOf st1) (lo+i)<=R (bY ky ix N) (arrOf st1) (lo+k))/\(∀ i,c.2.1<=i->i<k->R (bY ky ix N) (arrOf st1) (lo+k)<R (bY ky ix N) (arrOf st1) (lo+i))) ?s2 ?f2 ⟨rfl,rfl,by dsimp only;lia,by dsimp only;lia,by dsimp only;lia,fun i hi=>by dsimp only at hi;lia,fun i h1 h2=>by dsimp only at h1;lia⟩) ?p2)
  case f2 =>
   rintro⟨c,l,r⟩ st' ⟨q1,q2,q3,q4,q5,q6,q7⟩;dsimp only at *;obtain rfl:l=r:=by lia
   exact⟨q1,q2,q4,q6,q7⟩
  case s2 =>
   rintro x ⟨c,l,r⟩ st' _ hx ⟨q1,q2,q3,q4,q5,q6,q7⟩;dsimp only at *;subst q1 q2;by_cases hge:l ≥ r
   ·rw[if_pos hge];obtain rfl:l=r:=by lia
    exact wpS_pure ⟨rfl,rfl,q4,q6,q7⟩
   rw[if_neg hge];refine wpS_bind (Aa C (g1.kd.trans hk) (g1.al p) hz1 (by lia) (by rw[g4 (lo+k) (by lia) hz1];exact (g3 _ (by lia) (by lia)).2) ?_);by_cases hl:R (bY ky ix N) (arrOf st') (lo+k)<R (bY ky ix N) (arrOf st') (lo+(l+r) / 2)
   ·simp only[hl,decide_true,if_true];refine wpS_pure ⟨rfl,rfl,by dsimp only;lia,by dsimp only;lia,by dsimp only;lia,q6,fun i a b=>?_⟩;dsimp only at a;have:=g2 (lo+(l+r) / 2) (lo+i) (by lia) (by lia) (by lia)
    lia
   ·simp only[hl,decide_false,if_false,Bool.false_eq_true];refine wpS_pure ⟨rfl,rfl,by dsimp only;lia,by dsimp only;lia,by dsimp only;lia,fun i a=>?_,q7⟩;dsimp only at a;have:=g2 (lo+i) (lo+(l+r) / 2) (by lia) (by lia) (by lia)
    lia
  case p2 =>
   rintro⟨c,l,r⟩ st' ⟨q1,q2,q3,q6,q7⟩;dsimp only at *;subst q1 q2;rw[moveDown'_eq];have g5:=g4 (lo+k) (aj _) hz1;refine wpS_bind (wpS_modify (wpS_pure ⟨rfl,g1.bub (by lia) (by lia) (by lia) (by lia),?_,?_,?_⟩))
   rotate_left
   ·rw[show min (k+1) n=k+1 by lia,show lo+k - (lo+l)=k - l by lia];intro t a b;show lo<=ix ((bubble (arrOf st') (lo+k) (k - l)).getD t d0)/\ix ((bubble (arrOf st') (lo+k) (k - l)).getD t d0)<lo+(k+1);rw[sj hz1 (by lia)];by_cases c1:t=lo+k - (k - l)
    ·rw[if_pos c1,g5];lia
    rw[if_neg c1];by_cases c2:lo+k - (k - l)<t/\t<=lo+k
    ·rw[if_pos c2];have:=g3 (t - 1) (by lia) (by lia)
     lia
    ·rw[if_neg c2];have:=g3 t a (by lia)
     lia
   ·rw[show min (k+1) n=k+1 by lia,show lo+k - (lo+l)=k - l by lia];intro t a b;have b:t<(bubble (arrOf st') (lo+k) (k - l)).size:=b;rw[bubble_size] at b;show ix ((bubble (arrOf st') (lo+k) (k - l)).getD t d0)=t;rw[sj hz1 (by lia),if_neg (by lia),if_neg (by lia)];exact g4 t (by lia) b
   rw[show min (k+1) n=k+1 by lia,show lo+k - (lo+l)=k - l by lia];intro i j a1 a2 a3;show R (bY ky ix N) (bubble (arrOf st') (lo+k) (k - l)) i<=R (bY ky ix N) (bubble (arrOf st') (lo+k) (k - l)) j;rw[Ay hz1 (by lia),Ay hz1 (by lia),show lo+k - (k - l)=lo+l by lia];have q6':∀ i,lo<=i->i<lo+l->R (bY ky ix N) (arrOf st') i<=R (bY ky ix N) (arrOf st') (lo+k):=fun i b1 b2=>by
    have:=q6 (i - lo) (by lia);rwa [show lo+(i - lo)=i by lia] at this
   have q7':∀ i,lo+l<=i->i<lo+k->R (bY ky ix N) (arrOf st') (lo+k)<R (bY ky ix N) (arrOf st') i:=fun i b1 b2=>by
    have:=q7 (i - lo) (by lia) (by lia);rwa [show lo+(i - lo)=i by lia] at this
   repeat' split
   all_goals first
    | (exfalso;lia)
    | exact il _
    | exact q6' _ (by lia) (by lia)
    | exact i6 (q7' _ (by lia) (by lia))
    | exact g2 _ _ (by lia) (by lia) (by lia)
variable {M:Model}{A:Around}{E:Value->Shared->Prop}{s:Shared}{κ:SortKind}{P:Keyed->Prop}{rk ky:Keyed->Int}{ix:Keyed->Nat}{N:Nat}
noncomputable abbrev Lp:=Option (Option Nat)×Nat
noncomputable abbrev Lq:=Option (Option Nat)×Nat×Nat
noncomputable def asc (lo a nrem:Nat):StateT SortSt Sem Lp :=
 forIn [a:nrem] ((none,a):Lp) fun _ v=>do
  match <- ltAt' (lo+v.2) (lo+v.2 - 1) with
  |some c=>if c=true then pure (.done (none,v.2)) else pure (.yield (none,v.2+1))
  |_=>pure (.done (some none,v.2))
noncomputable def Ax (lo m nrem:Nat):StateT SortSt Sem (Option Nat):=do
 let mut m:=m
 reverseSlice' lo (lo+m)
 for _ in [m:nrem] do
  let some c <- ltAt' (lo+m) (lo+m - 1) | return none
  if c then break
  m:=m+1
 return some m
noncomputable def down (lo m nrem:Nat):StateT SortSt Sem (Option Nat):=do
 let mut m:=m
 liftM (rule ("list.sort.descending-run"))
 m:=m+1
 let mut q:=0
 for _ in [m:nrem] do
  let some c <- ltAt' (lo+m) (lo+m - 1) | return none
  if c then
   if q > 0 then reverseSlice' (lo+m - (q+1)) (lo+m)
   q:=0
  else
   let some c <- ltAt' (lo+m - 1) (lo+m) | return none
   if c then break
   q:=q+1
  m:=m+1
 if q > 0 then reverseSlice' (lo+m - (q+1)) (lo+m)
 reverseSlice' lo (lo+m)
 for _ in [m:nrem] do
  let some c <- ltAt' (lo+m) (lo+m - 1) | return none
  if c then break
  m:=m+1
 return some m
noncomputable def cnt (lo nrem:Nat):StateT SortSt Sem (Option Nat):=do
 let mut m:=1
 for _ in [1:nrem] do
  let some c <- ltAt' (lo+m) (lo+m - 1) | return none
  if c then break
  m:=m+1
 if m==nrem then return some m
 if m > 1 then
  let some c <- ltAt' lo (lo+m - 1) | return none
  if c then return some m
  reverseSlice' lo (lo+m)
 liftM (rule ("list.sort.descending-run"))
 m:=m+1
 let mut q:=0
 for _ in [m:nrem] do
  let some c <- ltAt' (lo+m) (lo+m - 1) | return none
  if c then
   if q > 0 then reverseSlice' (lo+m - (q+1)) (lo+m)
   q:=0
  else
   let some c <- ltAt' (lo+m - 1) (lo+m) | return none
   if c then break
   q:=q+1
  m:=m+1
 if q > 0 then reverseSlice' (lo+m - (q+1)) (lo+m)
 reverseSlice' lo (lo+m)
 for _ in [m:nrem] do
  let some c <- ltAt' (lo+m) (lo+m - 1) | return none
  if c then break
  m:=m+1
 return some m
theorem B5 (lo nrem:Nat):countRun' lo nrem=cnt lo nrem:=rfl
noncomputable abbrev X (ix:Keyed->Nat)(xs:Array Keyed)(t:Nat):Nat:=ix (xs.getD t d0)
theorem z9 (C:Ct M A E s κ P ky ix N){st:SortSt}{lo a nrem:Nat}(hk:kindOf st=κ)(p:Al P st)(hz:lo+nrem<=(arrOf st).size)(h1:1<=a)(ha:a<=nrem)(so:iB (bY ky ix N) (arrOf st) lo (lo+a))(hx:∀ t,lo+a<=t->t<lo+nrem->X ix (arrOf st) (t - 1)<X ix (arrOf st) t){Q:Lp->SortSt->Prop}
  (h:∀ m,a<=m->m<=nrem->iB (bY ky ix N) (arrOf st) lo (lo+m)->(m<nrem->R ky (arrOf st) (lo+m)<R ky (arrOf st) (lo+m - 1))->Q (none,m) st):wpS M A E s (asc lo a nrem) Q st:=by
 unfold asc;refine wpS_mono (wpS_forRange (I:=fun x (c:Lp) st'=>st'=st/\c.1=none/\c.2=x/\iB (bY ky ix N) (arrOf st) lo (lo+x))
  (Q:=fun (c:Lp) st'=>st'=st/\c.1=none/\a<=c.2/\c.2<=nrem/\iB (bY ky ix N) (arrOf st) lo (lo+c.2)/\(c.2<nrem->R ky (arrOf st) (lo+c.2)<R ky (arrOf st) (lo+c.2 - 1))) ?step ?fin ⟨rfl,rfl,rfl,so⟩) ?post
 case post =>
  rintro⟨c,m⟩ st' ⟨rfl,e,q1,q2,q3,q4⟩;dsimp only at *;subst e;exact h m q1 q2 q3 q4
 case fin =>
  rintro⟨c,m⟩ st' ⟨rfl,e,q1,q2⟩;dsimp only at *;rw[show max a nrem=nrem by lia] at q1 q2;subst q1;exact⟨rfl,e,ha,aj _,q2,fun h=>absurd h (dz _)⟩
 case step =>
  rintro x ⟨c,m⟩ st' hx1 hx2 ⟨rfl,e,q1,q2⟩;dsimp only at *;subst e q1;have hi:lo+m<(arrOf st').size:=by lia
  have hj:lo+m - 1<(arrOf st').size:=by lia
  have o:=hx (lo+m) (by lia) (by lia);have ed:=uQ (ky:=ky) (N:=N) (C.b _ (p _ (bV hi))) (C.b _ (p _ (bV hj))) o;refine wpS_bind (Aa C hk p hi hj o ?_);by_cases hl:R (bY ky ix N) (arrOf st') (lo+m)<R (bY ky ix N) (arrOf st') (lo+m - 1)
  ·simp only[hl,decide_true,if_true];refine wpS_pure ⟨rfl,rfl,hx1,by dsimp only;lia,q2,fun _=>?_⟩;exact of_decide_eq_true (ed.symm.trans (du hl))
  ·simp only[hl,decide_false,if_false,Bool.false_eq_true];refine wpS_pure ⟨rfl,rfl,rfl,fun i j a1 a2 a3=>?_⟩;by_cases e1:j=lo+m
   ·subst e1;by_cases e2:i=lo+m
    ·subst e2;exact il _
    ·have:=q2 i (lo+m - 1) a1 (by lia) (by lia)
     lia
   ·exact q2 i j a1 a2 (by lia)
def DL (rk:Keyed->Int)(xs:Array Keyed)(lo hi:Nat):Prop:=∀ i j,lo<=i->i<=j->j<hi->R rk xs j<=R rk xs i
theorem jc.lR {xs:Array Keyed}{lo hi i j:Nat}(h:jc ix xs lo hi)(hj:j<=xs.size)(hl:lo<=i)(hh:j<=hi):jc ix (mirror xs i j ((j - i) / 2)) lo hi:=fun t a b=>by
 rw[jC hj];by_cases c:i<=t/\t<j
 ·rw[if_pos c];exact h _ (by lia) (by lia)
 ·rw[if_neg c];exact h t a b
theorem sF (C:Ct M A E s κ P ky ix N){st st0:SortSt}{lo m nrem:Nat}(g:Cg st0 lo (lo+m) st)(hk:kindOf st0=κ)(p:Al P st0)(hz:lo+nrem<=(arrOf st0).size)(h1:1<=m)(hm:m<=nrem)(so:DL (bY ky ix N) (arrOf st) lo (lo+m))(xo:jc ix (arrOf st) lo (lo+m))(io:n9 ix (arrOf st0) lo){Q:Option Nat->SortSt->Prop}
  (h:∀ m st',1<=m->m<=nrem->Cg st0 lo (lo+m) st'->iB (bY ky ix N) (arrOf st') lo (lo+m)->jc ix (arrOf st') lo (lo+m)->Q (some m) st'):wpS M A E s (Ax lo m nrem) Q st:=by
 unfold Ax;dsimp only;have hz0:=g.sz;have g2:Cg st0 lo (lo+m) (setArr st (mirror (arrOf st) lo (lo+m) ((lo+m - lo) / 2))):=g.lR (by lia) (aj _) (aj _);have x2:jc ix (arrOf (setArr st (mirror (arrOf st) lo (lo+m) ((lo+m - lo) / 2)))) lo (lo+m):=xo.lR (by lia) (aj _) (aj _);have i2:=g2.idt (by lia) io;have z2:=g2.sz;refine wpS_bind (w_rev ?_);generalize ea:setArr st (mirror (arrOf st) lo (lo+m) ((lo+m - lo) / 2))=st2 at *;have so2:iB (bY ky ix N) (arrOf st2) lo (lo+m):=by
  subst ea;intro i j a1 a2 a3;show R (bY ky ix N) (mirror (arrOf st) lo (lo+m) ((lo+m - lo) / 2)) i<=R (bY ky ix N) (mirror (arrOf st) lo (lo+m) ((lo+m - lo) / 2)) j;unfold R;rw[jC (by lia),jC (by lia),if_pos (by lia),if_pos (by lia)];exact so _ _ (by lia) (by lia) (by lia)
 refine wpS_bind (z9 C (g2.kd.trans hk) (g2.al p) (by lia) h1 hm so2 (fun t a b=>?_) fun n n1 n2 n3 _=>?_)
 ·show ix _<ix _;rw[i2 t a (by lia)];by_cases c:t=lo+m
  ·subst c;exact (x2 _ (by lia) (by lia)).2
  ·rw[i2 (t - 1) (by lia) (by lia)]
   lia
 ·refine wpS_pure (h n _ (by lia) n2 (g2.up (by lia)) n3 fun t a b=>?_);by_cases c:t<lo+m
  ·have:=x2 t a c
   lia
  ·rw[i2 t (by lia) (by lia)]
   lia
structure Dn (P:Keyed->Prop)(ky:Keyed->Int)(ix:Keyed->Nat)(N:Nat)(xs:Array Keyed)(lo p0 hi:Nat):Prop where
 d:DL (bY ky ix N) xs lo p0
 k:∀ i,lo<=i->i<p0->R ky xs p0<R ky xs i
 u:∀ t,p0<=t->t<hi->R ky xs t=R ky xs p0/\X ix xs t=t
 x:jc ix xs lo p0
theorem Dn.flip {xs:Array Keyed}{lo p0 hi:Nat}(h:Dn P ky ix N xs lo p0 hi)(hP:∀ t,lo<=t->t<hi->X ix xs t<N)(hz:hi<=xs.size)(hl:lo<=p0)(hp:p0<hi):DL (bY ky ix N) (mirror xs p0 hi ((hi - p0) / 2)) lo hi/\jc ix (mirror xs p0 hi ((hi - p0) / 2)) lo hi/\∀ t,lo<=t->t<hi->R ky (mirror xs p0 hi ((hi - p0) / 2)) t=R ky xs t:=by
 have e1:∀ t,p0<=t->t<hi->(mirror xs p0 hi ((hi - p0) / 2)).getD t d0=xs.getD (p0+hi - 1 - t) d0:=fun t a b=>by rw[jC hz,if_pos ⟨a,b⟩]
 have e2:∀ t,¬ (p0<=t/\t<hi)->(mirror xs p0 hi ((hi - p0) / 2)).getD t d0=xs.getD t d0:=fun t a=>by rw[jC hz,if_neg a]
 refine⟨fun i j a1 a2 a3=>?_,fun t a b=>?_,fun t a b=>?_⟩
 ·unfold R;by_cases cj:j<p0
  ·rw[e2 i (by lia),e2 j (by lia)];exact h.d i j a1 a2 cj
  rw[e1 j (by lia) a3];have uj:=h.u (p0+hi - 1 - j) (by lia) (by lia);have nj:=hP (p0+hi - 1 - j) (by lia) (by lia);by_cases ci:i<p0
  ·rw[e2 i (by lia)];have:=h.k i a1 ci;exact i6 (sJ nj (by show R ky xs _<R ky xs _;lia))
  ·rw[e1 i (by lia) (by lia)];have ui:=h.u (p0+hi - 1 - i) (by lia) (by lia);refine Ad nj (by show R ky xs _<=R ky xs _;lia) ?_;show X ix xs _<=X ix xs _;rw[ui.2,uj.2]
   lia
 ·by_cases c:t<p0
  ·rw[e2 t (by lia)];have:=h.x t a c
   lia
  ·rw[e1 t (by lia) b];have:=(h.u (p0+hi - 1 - t) (by lia) (by lia)).2;show lo<=X ix xs _/\X ix xs _<hi;rw[this]
   lia
 ·unfold R;by_cases c:t<p0
  ·rw[e2 t (by lia)]
  ·rw[e1 t (by lia) b];have a1:=(h.u (p0+hi - 1 - t) (by lia) (by lia)).1;have a2:=(h.u t (by lia) b).1;exact a1.trans a2.symm
theorem Dn.one {xs:Array Keyed}{lo hi:Nat}(h:Dn P ky ix N xs lo (hi - 1) hi)(hP:∀ t,lo<=t->t<hi->X ix xs t<N)(hl:lo<hi):DL (bY ky ix N) xs lo hi/\jc ix xs lo hi:=by
 refine⟨fun i j a1 a2 a3=>?_,fun t a b=>?_⟩
 ·by_cases cj:j<hi - 1
  ·exact h.d i j a1 a2 cj
  have ej:j=hi - 1:=by lia
  subst ej;by_cases ci:i=hi - 1
  ·subst ci;exact il _
  ·exact i6 (sJ (hP _ (by lia) (by lia)) (h.k i a1 (by lia)))
 ·by_cases c:t<hi - 1
  ·have:=h.x t a c
   lia
  ·have:=(h.u t (by lia) b).2;show lo<=X ix xs t/\X ix xs t<hi
   lia
theorem wJ (C:Ct M A E s κ P ky ix N){st st0:SortSt}{lo m nrem:Nat}(g:Cg st0 lo (lo+m) st)(hk:kindOf st0=κ)(p:Al P st0)(hz:lo+nrem<=(arrOf st0).size)(h1:1<=m)(hm:m<nrem)(so:DL (bY ky ix N) (arrOf st) lo (lo+m))(xo:jc ix (arrOf st) lo (lo+m))(hl:∀ t,lo<=t->t<lo+m->R ky (arrOf st) (lo+m)<R ky (arrOf st) t)(io:n9 ix (arrOf st0) lo){Q:Option Nat->SortSt->Prop}
  (h:∀ m st',1<=m->m<=nrem->Cg st0 lo (lo+m) st'->iB (bY ky ix N) (arrOf st') lo (lo+m)->jc ix (arrOf st') lo (lo+m)->Q (some m) st'):wpS M A E s (down lo m nrem) Q st:=by
 unfold down;dsimp only;refine wpS_bind (jr ?_);have hN:∀{st':SortSt}{x:Nat},Cg st0 lo (lo+x) st'->x<=nrem->∀ t,lo<=t->t<lo+x->X ix (arrOf st') t<N:=fun {st' x} g' hx t _ b=>C.b _ ((g'.al p) _ (bV (by rw[g'.sz];lia)))
 refine wpS_bind (wpS_mono (wpS_forRange (I:=fun x (c:Lq) st'=>c.1=none/\c.2.1=x/\c.2.2+1<=x/\Cg st0 lo (lo+x) st'/\Dn P ky ix N (arrOf st') lo (lo+x - (c.2.2+1)) (lo+x))
  (Q:=fun (c:Lq) st'=>c.1=none/\1<=c.2.1/\c.2.1<=nrem/\c.2.2+1<=c.2.1/\Cg st0 lo (lo+c.2.1) st'/\Dn P ky ix N (arrOf st') lo (lo+c.2.1 - (c.2.2+1)) (lo+c.2.1)) ?step ?fin ⟨rfl,rfl,by dsimp only;lia,g.up (by lia),?i1⟩) ?post)
 case i1 =>
  dsimp only;rw[show lo+(m+1) - (0+1)=lo+m by lia];have i2:=g.idt (by lia) io;have zz:=g.sz;refine⟨so,hl,fun t a b=>?_,xo⟩;obtain rfl:t=lo+m:=by lia
  exact⟨rfl,i2 _ (by lia) (by lia)⟩
 case fin =>
  rintro⟨c,n,q⟩ st' ⟨e,q1,q2,q3,q4⟩;dsimp only at *;rw[show max (m+1) nrem=nrem by lia] at *;subst q1;exact⟨e,by lia,aj _,q2,q3,q4⟩
 case step =>
  rintro x ⟨c,n,q⟩ st' hx1 hx2 ⟨e,q1,q2,q3,q4⟩;dsimp only at *;subst e q1;have hs:=q3.sz;have i2:=q3.idt (by lia) io;have al:=q3.al p;have hi:lo+n<(arrOf st').size:=by lia
  have hj:lo+n - 1<(arrOf st').size:=by lia
  refine wpS_bind (mL C.c (q3.kd.trans hk) (al _ (bV hi)) (al _ (bV hj)) hi hj ?_);have ul:=q4.u (lo+n - 1) (by lia) (by lia);by_cases hc:R ky (arrOf st') (lo+n)<R ky (arrOf st') (lo+n - 1)
  ·simp only[hc,decide_true,if_true];by_cases hq:q > 0
   ·rw[if_pos hq];obtain⟨f1,f2,f3⟩:=q4.flip (hN q3 (by lia)) (by lia) (by lia) (by lia);have g2:Cg st0 lo (lo+n) (setArr st' (mirror (arrOf st') (lo+n - (q+1)) (lo+n) ((lo+n - (lo+n - (q+1))) / 2))):=q3.lR (by lia) (by lia) (aj _);have i3:=g2.idt (by lia) io;have z3:=g2.sz;have en:R ky (mirror (arrOf st') (lo+n - (q+1)) (lo+n) ((lo+n - (lo+n - (q+1))) / 2)) (lo+n)=R ky (arrOf st') (lo+n):=by
     unfold R;rw[jC (by lia),if_neg (by lia)]
    refine wpS_bind (w_rev (wpS_pure ⟨rfl,rfl,by dsimp only;lia,g2.up (by lia),?_⟩));dsimp only;rw[show lo+(n+1) - (0+1)=lo+n by lia];refine⟨f1,fun i a b=>?_,fun t a b=>?_,f2⟩
    ·show R ky (mirror (arrOf st') (lo+n - (q+1)) (lo+n) ((lo+n - (lo+n - (q+1))) / 2)) (lo+n)<R ky (mirror (arrOf st') (lo+n - (q+1)) (lo+n) ((lo+n - (lo+n - (q+1))) / 2)) i;rw[en,f3 i a b];by_cases c2:i<lo+n - (q+1)
     ·have:=q4.k i a c2
      lia
     ·have:=q4.u i (by lia) b
      lia
    ·obtain rfl:t=lo+n:=by lia
     exact⟨rfl,i3 _ (by lia) (by lia)⟩
   ·rw[if_neg hq];obtain rfl:q=0:=by lia
    obtain⟨f1,f2⟩:=Dn.one q4 (hN q3 (by lia)) (by lia);refine wpS_pure ⟨rfl,rfl,by dsimp only;lia,q3.up (by lia),?_⟩;dsimp only;rw[show lo+(n+1) - (0+1)=lo+n by lia];refine⟨f1,fun i a b=>?_,fun t a b=>?_,f2⟩
    ·by_cases c2:i<lo+n - (0+1)
     ·have:=q4.k i a c2
      lia
     ·have:=q4.u i (by lia) b
      lia
    ·obtain rfl:t=lo+n:=by lia
     exact⟨rfl,i2 _ (by lia) (by lia)⟩
  ·simp only[hc,decide_false,if_false,Bool.false_eq_true];refine wpS_bind (mL C.c (q3.kd.trans hk) (al _ (bV hj)) (al _ (bV hi)) hj hi ?_);by_cases hd:R ky (arrOf st') (lo+n - 1)<R ky (arrOf st') (lo+n)
   ·simp only[hd,decide_true,if_true];exact wpS_pure ⟨rfl,by dsimp only;lia,by dsimp only;lia,q2,q3,q4⟩
   ·simp only[hd,decide_false,if_false,Bool.false_eq_true];have he:R ky (arrOf st') (lo+n)=R ky (arrOf st') (lo+n - 1):=by lia
    refine wpS_pure ⟨rfl,rfl,by dsimp only;lia,q3.up (by lia),?_⟩;dsimp only;rw[show lo+(n+1) - (q+1+1)=lo+n - (q+1) by lia];refine⟨q4.d,q4.k,fun t a b=>?_,q4.x⟩;by_cases c2:t<lo+n
    ·exact q4.u t a c2
    ·obtain rfl:t=lo+n:=by lia
     exact⟨by rw[he];exact ul.1,i2 _ (by lia) (by lia)⟩
 case post =>
  rintro⟨c,n,q⟩ st' ⟨e,q0,q1,q2,q3,q4⟩;dsimp only at *;subst e;have hs:=q3.sz;dsimp only;by_cases hq:q > 0
  ·rw[if_pos hq];obtain⟨f1,f2,f3⟩:=q4.flip (hN q3 (by lia)) (by lia) (by lia) (by lia);have g2:Cg st0 lo (lo+n) (setArr st' (mirror (arrOf st') (lo+n - (q+1)) (lo+n) ((lo+n - (lo+n - (q+1))) / 2))):=q3.lR (by lia) (by lia) (aj _);exact wpS_bind (w_rev (sF C g2 hk p hz q0 q1 f1 f2 io h))
  ·rw[if_neg hq];obtain rfl:q=0:=by lia
   obtain⟨f1,f2⟩:=Dn.one q4 (hN q3 (by lia)) (by lia);exact sF C q3 hk p hz q0 q1 f1 f2 io h
theorem ES (C:Ct M A E s κ P ky ix N){st:SortSt}{lo nrem:Nat}(hk:kindOf st=κ)(p:Al P st)(hz:lo+nrem<=(arrOf st).size)(hn:1<=nrem)(io:n9 ix (arrOf st) lo){Q:Option Nat->SortSt->Prop}
  (h:∀ m st',1<=m->m<=nrem->Cg st lo (lo+m) st'->iB (bY ky ix N) (arrOf st') lo (lo+m)->jc ix (arrOf st') lo (lo+m)->Q (some m) st'):wpS M A E s (countRun' lo nrem) Q st:=by
 rw[B5];unfold cnt;dsimp only;have hNN:∀ t,t<(arrOf st).size->X ix (arrOf st) t<N:=fun t ht=>C.b _ (p _ (bV ht))
 refine wpS_bind (z9 C hk p hz (aj 1) hn (fun i j a1 a2 a3=>?_) (fun t a b=>?_) fun n n1 n2 n3 n4=>?_)
 ·rw[show i=j by lia];exact il _
 ·show ix _<ix _;rw[io t (by lia) (by lia),io (t - 1) (by lia) (by lia)]
  lia
 dsimp only;by_cases e:n=nrem
 ·rw[if_pos (by simpa using e)];exact wpS_pure (h n st n1 n2 (.refl _ _ _) n3 (io.ixs (by lia)))
 rw[if_neg (by simpa using e)];have hl:=n4 (by lia);have kasc:∀ i j,lo<=i->i<=j->j<lo+n->R ky (arrOf st) i<=R ky (arrOf st) j:=fun i j a b c=>Dw (hNN j (by lia)) (n3 i j a b c)
 by_cases e1:n > 1
 ·rw[if_pos e1];have hi:lo<(arrOf st).size:=by lia
  have hj:lo+n - 1<(arrOf st).size:=by lia
  refine wpS_bind (mL C.c hk (p _ (bV hi)) (p _ (bV hj)) hi hj ?_);by_cases hc:R ky (arrOf st) lo<R ky (arrOf st) (lo+n - 1)
  ·simp only[hc,decide_true,if_true];exact wpS_pure (h n st n1 n2 (.refl _ _ _) n3 (io.ixs (by lia)))
  ·simp only[hc,decide_false,if_false,Bool.false_eq_true];have he:∀ k,lo<=k->k<lo+n->R ky (arrOf st) k=R ky (arrOf st) lo:=fun k a1 a2=>by
    have:=kasc lo k (aj _) a1 a2;have:=kasc k (lo+n - 1) a1 (by lia) (by lia)
    lia
   have dn:Dn P ky ix N (arrOf st) lo lo (lo+n):=⟨fun i j a b c=>by lia,fun i a b=>by lia,fun t a b=>⟨he t a b,io t a (by lia)⟩,fun t a b=>by lia⟩;obtain⟨f1,f2,f3⟩:=dn.flip (fun t a b=>hNN t (by lia)) (by lia) (aj _) (by lia);have g2:Cg st lo (lo+n) (setArr st (mirror (arrOf st) lo (lo+n) ((lo+n - lo) / 2))):=(Cg.refl st lo (lo+n)).lR (by lia) (aj _) (aj _);have en:R ky (mirror (arrOf st) lo (lo+n) ((lo+n - lo) / 2)) (lo+n)=R ky (arrOf st) (lo+n):=by
    unfold R;rw[jC (by lia),if_neg (by lia)]
   refine wpS_bind (w_rev (wJ C g2 hk p hz n1 (by lia) f1 f2 (fun t a b=>?_) io h));show R ky (mirror (arrOf st) lo (lo+n) ((lo+n - lo) / 2)) (lo+n)<R ky (mirror (arrOf st) lo (lo+n) ((lo+n - lo) / 2)) t;rw[en,f3 t a b,he t a b,<-he (lo+n - 1) (by lia) (by lia)];exact hl
 ·rw[if_neg e1];have en:n=1:=by lia
  subst en;refine wJ C (.refl st lo (lo+1)) hk p hz n1 (by lia) (fun i j a1 a2 a3=>by rw[show i=j by lia];exact il _) (io.ixs (by lia)) (fun t a b=>?_) io h;rw[show t=lo+1 - 1 by lia];exact hl
variable {M:Model}{A:Around}{E:Value->Shared->Prop}{s:Shared}{κ:SortKind}{P:Keyed->Prop}{rk ky:Keyed->Int}{ix:Keyed->Nat}{N:Nat}
noncomputable def l0 (o:Nat)(r xs:Array Keyed):Array Keyed:=r.toList.zipIdx.foldl (fun a (p,j)=>a.setIfInBounds (o+j) p) xs
theorem Af (o:Nat):∀(l:List Keyed) (n:Nat) (xs:Array Keyed),o+n+l.length<=xs.size->((l.zipIdx n).foldl (fun a (p:Keyed×Nat)=>a.setIfInBounds (o+p.2) p.1) xs).toList=xs.toList.take (o+n)++l++xs.toList.drop (o+n+l.length)
 |[],n,xs,h=>by simp
 | p::l,n,xs,h=>by
  rw[az] at h;rw[List.zipIdx_cons,List.foldl_cons,Af o l (n+1) _ (by simp;lia)];have hn:o+n<xs.toList.length:=by simp;lia
  have e1:(xs.setIfInBounds (o+n) p).toList=xs.toList.set (o+n) p:=by simp
  have e2:(xs.toList.set (o+n) p).take (o+(n+1))=xs.toList.take (o+n) ++ [p]:=by
   rw[<-Nat.add_assoc,List.take_succ,List.getElem?_set_self hn,List.take_set_of_le (aj _)];rfl
  have e3:(xs.toList.set (o+n) p).drop (o+(n+1)+l.length)=xs.toList.drop (o+n+(l.length+1)):=by
   rw[List.drop_set_of_lt (by lia)];congr 1;lia
  show (xs.setIfInBounds (o+n) p).toList.take _++l++(xs.setIfInBounds (o+n) p).toList.drop _=_;rw[e1,e2,e3,az];simp
theorem Ak {o:Nat}{r xs:Array Keyed}(h:o+r.size<=xs.size):(l0 o r xs).toList=xs.toList.take o++r.toList++xs.toList.drop (o+r.size):=by
 have:=Af o r.toList 0 xs (by simpa using h);unfold l0;simpa using this
theorem DJ {o:Nat}{r xs:Array Keyed}(h:o+r.size<=xs.size)(k:Nat):(l0 o r xs).getD k d0=if o<=k/\k<o+r.size then r.getD (k - o) d0 else xs.getD k d0:=by
 have el:=Ak h;have e:(l0 o r xs)[k]? = (xs.toList.take o++r.toList++xs.toList.drop (o+r.size))[k]?:=by rw[<-el];simp
 have ho:o<=xs.size:=by lia
 have hlo:(xs.toList.take o).length=o:=by simp;lia
 by_cases h1:o<=k/\k<o+r.size
 ·rw[if_pos h1];refine gd ?_;rw[e,List.append_assoc,List.getElem?_append_right (by lia),hlo,List.getElem?_append_left (by simp;lia)];simp
 ·rw[if_neg h1];refine gd ?_;rw[e];by_cases h2:k<o
  ·rw[List.append_assoc,List.getElem?_append_left (by lia),List.getElem?_take_of_lt h2];simp
  ·rw[List.getElem?_append_right (by simp;lia),List.getElem?_drop,List.length_append,hlo];have:o+r.size+(k - (o+r.toList.length))=k:=by simp;lia
   rw[this];simp
theorem Dl {xs:Array Keyed}{lo hi t:Nat}(h:hi<=xs.size)(ht:lo+t<hi):(xs.extract lo hi).getD t d0=xs.getD (lo+t) d0:=by
 refine gd ?_;rw[Array.getElem?_extract];have:t<min hi xs.size - lo:=by lia
 simp[this]
theorem yM {xs:Array Keyed}{lo hi:Nat}(h:hi<=xs.size):(xs.extract lo hi).size=hi - lo:=by simp;lia
theorem Et {xs:Array Keyed}{lo hi:Nat}{x:Keyed}(h:x∈(xs.extract lo hi).toList):∃ t,lo<=t/\t<hi/\t<xs.size/\x=xs.getD t d0:=by
 rw[ic,dr] at h;obtain⟨t,a,b,c,e⟩:=eC h;exact⟨t,a,by lia,b,e⟩
noncomputable def mat (i:Nat):StateT SortSt Sem Bool:=do
 let z <- get
 let (some (sa,na,w),some (sb,nb,_)):=((pendingOf z)[i]?,(pendingOf z)[i+1]?) | unsupported "internal:list.sort.pending"
 set (SortSt.mk' (kindOf z) (arrOf z) (((pendingOf z).setIfInBounds i (sa,na+nb,w)).eraseIdxIfInBounds (i+1)) (gallopOf z) (failedOf z))
 let some k <- cH false (<- elem' (arrOf z) sb) (arrOf z) sa na 0 | return false
 let (sa,na):=((sa+k,na - k))
 if na==0 then return true
 let some nb <- cH true (<- elem' (arrOf z) (sa+na - 1)) (arrOf z) sb nb (nb - 1) | return false
 if nb==0 then return true
 let x:=(arrOf z).extract sa sb;let y:=(arrOf z).extract sb (sb+nb);let r <- if na<=nb then pF x y else pN x y
 modify fun q=>setArr q (l0 sa r (arrOf q))
 return (failedOf (<- get)).isNone
theorem BP (i:Nat):mergeAt' i=mat i:=rfl
theorem ET {σ:Type}{x st:σ}{Q:PUnit->σ->Prop}(h:Q ⟨⟩ x):wpS M A E s (set x:StateT σ Sem PUnit) Q st:=by
 unfold wpS;rw[StateT.run_set];exact wpAny_pure ⟨rfl,h⟩
structure Mg (rk:Keyed->Int)(ix:Keyed->Nat)(st:SortSt)(lo hi:Nat)(pe:Array (Nat×Nat×Nat))(st':SortSt):Prop where
 pm:(arrOf st').Perm (arrOf st)
 out:∀ k,k<lo\/hi<=k->(arrOf st').getD k d0=(arrOf st).getD k d0
 so:iB rk (arrOf st') lo hi
 xo:jc ix (arrOf st') lo hi
 kd:kindOf st'=kindOf st
 pe:pendingOf st'=pe
 fa:failedOf st'=failedOf st
theorem BH {st st':SortSt}{a0 n1 n2 k m:Nat}{pe:Array (Nat×Nat×Nat)}{r:Array Keyed}(hz:a0+n1+n2<=(arrOf st).size)(s1:iB rk (arrOf st) a0 (a0+n1))(s2:iB rk (arrOf st) (a0+n1) (a0+n1+n2))(x1:jc ix (arrOf st) a0 (a0+n1))(x2:jc ix (arrOf st) (a0+n1) (a0+n1+n2))(hn1:k<n1)(hm:m<=n2)(hm0:0<m)
  (k2:∀ t,a0<=t->t<a0+k->R rk (arrOf st) t<=R rk (arrOf st) (a0+n1)) (l3:∀ t,a0+n1+m<=t->t<a0+n1+n2->R rk (arrOf st) (a0+n1 - 1)<=R rk (arrOf st) t)
  (hr:Res rk ((arrOf st).extract (a0+k) (a0+n1)) ((arrOf st).extract (a0+n1) (a0+n1+m)) r) (e1:kindOf st'=kindOf st) (e2:arrOf st'=arrOf st) (e3:pendingOf st'=pe) (e4:failedOf st'=failedOf st):Mg rk ix st a0 (a0+n1+n2) pe (setArr st' (l0 (a0+k) r (arrOf st'))):=by
 have zr:r.size=n1 - k+m:=by
  have:=hr.1.length_eq;rw[dk,bp,bp,bp,yM (by lia),yM (by lia)] at this
  lia
 have hw:a0+k+r.size<=(arrOf st).size:=by lia
 have lx:((arrOf st).extract (a0+k) (a0+n1)).toList=((arrOf st).toList.drop (a0+k)).take (n1 - k):=by
  rw[ic,dr,show a0+n1 - (a0+k)=n1 - k by lia]
 have ly:((arrOf st).extract (a0+n1) (a0+n1+m)).toList=((arrOf st).toList.drop (a0+n1)).take m:=by
  rw[ic,dr,show a0+n1+m - (a0+n1)=m by lia]
 have cut:(arrOf st).toList=(arrOf st).toList.take (a0+k)++((arrOf st).extract (a0+k) (a0+n1)).toList++((arrOf st).extract (a0+n1) (a0+n1+m)).toList++(arrOf st).toList.drop (a0+k+r.size):=by
  have q1:=df (a0+k) (arrOf st).toList;have q2:=df (n1 - k) ((arrOf st).toList.drop (a0+k));have q3:=df m ((arrOf st).toList.drop (a0+n1));rw[List.drop_drop,show a0+k+(n1 - k)=a0+n1 by lia] at q2;rw[List.drop_drop,show a0+n1+m=a0+k+r.size by lia] at q3;rw[lx,ly,au,au,q3,q2,q1]
 have gg:=DJ hw;have mid:∀ i,a0+k<=i->i<a0+n1+m->∃ t,a0+k<=t/\t<a0+n1+m/\(l0 (a0+k) r (arrOf st)).getD i d0=(arrOf st).getD t d0:=fun i h1 h2=>by
  have e:(l0 (a0+k) r (arrOf st)).getD i d0=r.getD (i - (a0+k)) d0:=by rw[gg,if_pos (by lia)]
  have hmem:=hr.1.mem_iff.mp (bV (xs:=r) (i:=i - (a0+k)) (by lia));rw[List.mem_append,lx,ly] at hmem;rw[e];rcases hmem with hx | hx
  ·obtain⟨t,t1,t2,t3,t4⟩:=eC hx;exact⟨t,t1,by lia,t4⟩
  ·obtain⟨t,t1,t2,t3,t4⟩:=eC hx;exact⟨t,by lia,t3,t4⟩
 have oth:∀ i,¬ (a0+k<=i/\i<a0+n1+m)->(l0 (a0+k) r (arrOf st)).getD i d0=(arrOf st).getD i d0:=fun i h=>by rw[gg,if_neg (by lia)]
 have lowmid:∀ i t,a0<=i->i<a0+k->a0+k<=t->t<a0+n1+n2->R rk (arrOf st) i<=R rk (arrOf st) t:=fun i t h1 h2 h3 h4=>by
  by_cases h:t<a0+n1
  ·exact s1 i t h1 (by lia) h
  ·exact ij (k2 i h1 h2) (s2 (a0+n1) t (aj _) (by lia) h4)
 have midup:∀ t j,a0+k<=t->t<a0+n1+m->a0+n1+m<=j->j<a0+n1+n2->R rk (arrOf st) t<=R rk (arrOf st) j:=fun t j h1 h2 h3 h4=>by
  by_cases h:t<a0+n1
  ·exact ij (s1 t (a0+n1 - 1) (by lia) (by lia) (by lia)) (l3 j h3 h4)
  ·exact s2 t j (by lia) (by lia) h4
 refine⟨?_,fun i h=>?_,?_,?_,e1,e3,e4⟩
 ·show (l0 (a0+k) r (arrOf st')).Perm _;rw[e2];refine Array.perm_iff_toList_perm.mpr ?_;rw[Ak hw];refine List.Perm.trans (i5 _ (gv _ hr.1)) ?_;rw[<-au,<-cut]
 ·show (l0 (a0+k) r (arrOf st')).getD i d0=_;rw[e2];exact oth i (by lia)
 ·show iB rk (l0 (a0+k) r (arrOf st')) a0 (a0+n1+n2);rw[e2];intro i j h1 h2 h3;have ro:∀ i,¬ (a0+k<=i/\i<a0+n1+m)->R rk (l0 (a0+k) r (arrOf st)) i=R rk (arrOf st) i:=fun i h=>by unfold R;rw[oth i h]
  by_cases hi:i<a0+k
  ·rw[ro i (by lia)];by_cases hj:j<a0+k
   ·rw[ro j (by lia)];exact s1 i j h1 h2 (by lia)
   ·by_cases hj2:j<a0+n1+m
    ·obtain⟨t,t1,t2,t3⟩:=mid j (by lia) hj2;rw[show R rk (l0 (a0+k) r (arrOf st)) j=R rk (arrOf st) t by unfold R;rw[t3]];exact lowmid i t h1 hi t1 (by lia)
    ·rw[ro j (by lia)];exact lowmid i j h1 hi (by lia) h3
  ·by_cases hi2:i<a0+n1+m
   ·by_cases hj2:j<a0+n1+m
    ·have a1:(l0 (a0+k) r (arrOf st)).getD i d0=r.getD (i - (a0+k)) d0:=by rw[gg,if_pos (by lia)]
     have a2:(l0 (a0+k) r (arrOf st)).getD j d0=r.getD (j - (a0+k)) d0:=by rw[gg,if_pos (by lia)]
     unfold R;rw[a1,a2];exact EC hr.2 _ _ (cq _) (by lia) (by lia)
    ·obtain⟨t,t1,t2,t3⟩:=mid i (by lia) hi2;rw[show R rk (l0 (a0+k) r (arrOf st)) i=R rk (arrOf st) t by unfold R;rw[t3],ro j (by lia)];exact midup t j t1 t2 (by lia) h3
   ·rw[ro i (by lia),ro j (by lia)];exact s2 i j (by lia) h2 h3
 ·show jc ix (l0 (a0+k) r (arrOf st')) a0 (a0+n1+n2);rw[e2];have all:∀ t,a0<=t->t<a0+n1+n2->a0<=ix ((arrOf st).getD t d0)/\ix ((arrOf st).getD t d0)<a0+n1+n2:=fun t a b=>by
   by_cases c:t<a0+n1
   ·have:=x1 t a c
    lia
   ·have:=x2 t (by lia) b
    lia
  intro t a b;by_cases c:a0+k<=t/\t<a0+n1+m
  ·obtain⟨t',t1,t2,t3⟩:=mid t c.1 c.2;rw[t3];exact all t' (by lia) (by lia)
  ·rw[oth t c];exact all t a b
theorem DI (C:Ct M A E s κ P ky ix N){i:Nat}{st:SortSt}{a0 n1 n2 w w2:Nat}(hk:kindOf st=κ)(p:Al P st)(hf:failedOf st=none)(e1:(pendingOf st)[i]? = some (a0,n1,w))(e2:(pendingOf st)[i+1]? = some (a0+n1,n2,w2))(h1:1<=n1)(h2:1<=n2)(hz:a0+n1+n2<=(arrOf st).size)
  (s1:iB (bY ky ix N) (arrOf st) a0 (a0+n1)) (s2:iB (bY ky ix N) (arrOf st) (a0+n1) (a0+n1+n2)) (x1:jc ix (arrOf st) a0 (a0+n1)) (x2:jc ix (arrOf st) (a0+n1) (a0+n1+n2)) {Q:Bool->SortSt->Prop}
  (h:∀ st',Mg (bY ky ix N) ix st a0 (a0+n1+n2) (((pendingOf st).setIfInBounds i (a0,n1+n2,w)).eraseIdxIfInBounds (i+1)) st'->Q true st'):wpS M A E s (mergeAt' i) Q st:=by
 rw[BP];unfold mat;refine wpS_bind (wpS_get ?_);rw[e1,e2];dsimp only;refine wpS_bind (ET ?_);generalize e0:SortSt.mk' (kindOf st) (arrOf st) (((pendingOf st).setIfInBounds i (a0,n1+n2,w)).eraseIdxIfInBounds (i+1)) (gallopOf st) (failedOf st)=st2;have f1:kindOf st2=kindOf st:=by rw[<-e0]
 have f2:arrOf st2=arrOf st:=by rw[<-e0]
 have f3:pendingOf st2=((pendingOf st).setIfInBounds i (a0,n1+n2,w)).eraseIdxIfInBounds (i+1):=by rw[<-e0]
 have f4:failedOf st2=failedOf st:=by rw[<-e0]
 clear e0;have hb:a0+n1<(arrOf st).size:=by lia
 have C':Cm M A E s κ (fun x=>P x/\a0+n1<=ix x) (fun x=>P x/\ix x<a0+n1) (bY ky ix N):=C.cm fun x y hx hy=>⟨hx.1,hy.1,by lia⟩
 have pB:∀ t,a0+n1<=t->t<a0+n1+n2->P ((arrOf st).getD t d0)/\a0+n1<=ix ((arrOf st).getD t d0):=fun t a b=>⟨p _ (bV (by lia)),(x2 t a b).1⟩
 have pA:∀ t,a0<=t->t<a0+n1->P ((arrOf st).getD t d0)/\ix ((arrOf st).getD t d0)<a0+n1:=fun t a b=>⟨p _ (bV (by lia)),(x1 t a b).2⟩
 have all:jc ix (arrOf st2) a0 (a0+n1+n2):=fun t a b=>by
  rw[f2];by_cases c:t<a0+n1
  ·have:=x1 t a c
   lia
  ·have:=x2 t (by lia) b
   lia
 refine wpS_bind (bK (dX hb) (wpS_bind (nJ C' (hint:=0) (f1.trans hk) (pB _ (by lia) (by lia)) pA (by lia) s1 (by lia) fun k k1 k2 k3=>?_)));dsimp only;by_cases c1:n1 - k=0
 ·rw[if_pos (by simpa using c1)];refine wpS_pure (h _ ⟨f2 ▸ .refl _,fun _ _=>by rw[f2],fun i j a1 a2 a3=>?_,all,f1,f3,f4⟩);rw[f2];by_cases b1:j<a0+n1
  ·exact s1 i j a1 a2 b1
  by_cases b2:i<a0+n1
  ·exact ij (k2 i a1 (by lia)) (s2 (a0+n1) j (aj _) (by lia) a3)
  ·exact s2 i j (by lia) a2 a3
 rw[if_neg (by simpa using c1)];have hb2:a0+k+(n1 - k) - 1<(arrOf st).size:=by lia
 refine wpS_bind (bK (dX hb2) (wpS_bind (mK C' (hint:=n2 - 1) (f1.trans hk) (pA _ (by lia) (by lia)) pB (by show _<=(arrOf st).size;lia) s2 (by lia) fun m m1 m2 m3=>?_)));have ek:a0+k+(n1 - k) - 1=a0+n1 - 1:=by lia
 rw[ek] at m2 m3;dsimp only;by_cases c2:m=0
 ·rw[if_pos (by simpa using c2)];refine wpS_pure (h _ ⟨f2 ▸ .refl _,fun _ _=>by rw[f2],fun i j a1 a2 a3=>?_,all,f1,f3,f4⟩);rw[f2];by_cases b1:j<a0+n1
  ·exact s1 i j a1 a2 b1
  by_cases b2:i<a0+n1
  ·exact ij (s1 i (a0+n1 - 1) a1 (by lia) (by lia)) (m3 j (by lia) a3)
  ·exact s2 i j (by lia) a2 a3
 rw[if_neg (by simpa using c2)];have zx:((arrOf st).extract (a0+k) (a0+n1)).size=n1 - k:=by rw[yM (by lia)];lia
 have zy:((arrOf st).extract (a0+n1) (a0+n1+m)).size=m:=by rw[yM (by lia)];lia
 have rx:∀ t,t<n1 - k->R (bY ky ix N) ((arrOf st).extract (a0+k) (a0+n1)) t=R (bY ky ix N) (arrOf st) (a0+k+t):=fun t ht=>by unfold R;rw[Dl (by lia) (by lia)]
 have ry:∀ t,t<m->R (bY ky ix N) ((arrOf st).extract (a0+n1) (a0+n1+m)) t=R (bY ky ix N) (arrOf st) (a0+n1+t):=fun t ht=>by unfold R;rw[Dl (by lia) (by lia)]
 have H:Mh (bY ky ix N) (fun x=>P x/\a0+n1<=ix x) (fun x=>P x/\ix x<a0+n1) ((arrOf st).extract (a0+k) (a0+n1)) ((arrOf st).extract (a0+n1) (a0+n1+m)):=by
  refine⟨fun x hx=>by obtain⟨t,a,b,_,rfl⟩:=Et hx;exact pA t (by lia) b,fun x hx=>by obtain⟨t,a,b,_,rfl⟩:=Et hx;exact pB t a (by lia),fun i j a1 a2 a3=>?_,fun i j a1 a2 a3=>?_,by lia,by lia,fun t ht=>?_,fun t ht=>?_⟩
  ·rw[zx] at a3;rw[rx i (by lia),rx j a3];exact s1 _ _ (by lia) (by lia) (by lia)
  ·rw[zy] at a3;rw[ry i (by lia),ry j a3];exact s2 _ _ (by lia) (by lia) (by lia)
  ·rw[zx] at ht;rw[rx t ht,ry 0 (by lia)];exact i6 (k3 _ (by lia) (by lia))
  ·rw[zy] at ht;rw[ry t ht,zx,rx _ (by lia)];have:=m2 (a0+n1+t) (by lia) (by lia);rw[show a0+k+(n1 - k - 1)=a0+n1 - 1 by lia];exact i6 this
 have fin:∀ r st',Sm st2 st'->Res (bY ky ix N) ((arrOf st).extract (a0+k) (a0+n1)) ((arrOf st).extract (a0+n1) (a0+n1+m)) r ->
   wpS M A E s (do
    modify fun q=>setArr q (l0 (a0+k) r (arrOf q))
    let q <- get
    pure (failedOf q).isNone) Q st':=fun r st' q hr=>by
  refine wpS_bind (wpS_modify (wpS_bind (wpS_get ?_)));have:failedOf (setArr st' (l0 (a0+k) r (arrOf st')))=none:=q.2.2.2.trans (f4.trans hf);rw[this];exact wpS_pure (h _ (BH hz s1 s2 x1 x2 (by lia) m1 (by lia) k2 m3 hr (q.1.trans f1) (q.2.1.trans f2) (q.2.2.1.trans f3) (q.2.2.2.trans f4)))
 by_cases c3:n1 - k<=m
 ·rw[if_pos c3,oF];exact wpS_bind (Ep C' H (f1.trans hk) fin)
 ·rw[if_neg c3,oI];exact wpS_bind (EE C' H (f1.trans hk) fin)
variable {M:Model}{A:Around}{E:Value->Shared->Prop}{s:Shared}{κ:SortKind}{P:Keyed->Prop}{rk ky:Keyed->Int}{ix:Keyed->Nat}{N:Nat}
noncomputable abbrev Rn:=Nat×Nat×Nat
noncomputable def eX (rk:Keyed->Int)(ix:Keyed->Nat)(xs:Array Keyed):Nat->List Rn->Nat->Prop
 |lo,[],hi=>lo=hi
 |lo,e::p,hi=>e.1=lo/\1<=e.2.1/\(iB rk xs lo (lo+e.2.1)/\jc ix xs lo (lo+e.2.1))/\eX rk ix xs (lo+e.2.1) p hi
variable {xs ys:Array Keyed}
theorem gP:∀{p:List Rn}{q:List Rn}{lo hi:Nat},eX rk ix xs lo (p++q) hi↔∃ m,eX rk ix xs lo p m/\eX rk ix xs m q hi
 |[],q,lo,hi=>⟨fun h=>⟨lo,rfl,h⟩,fun ⟨m,h1,h2⟩=>by cases h1;exact h2⟩
 |e::p,q,lo,hi=>⟨fun ⟨h1,h2,h3,h4⟩=>let ⟨m,h5,h6⟩:=gP.mp h4;⟨m,⟨h1,h2,h3,h5⟩,h6⟩,fun ⟨m,⟨h1,h2,h3,h4⟩,h5⟩=>⟨h1,h2,h3,gP.mpr ⟨m,h4,h5⟩⟩⟩
theorem iX:∀{p:List Rn}{lo hi:Nat},eX rk ix xs lo p hi->lo+p.length<=hi
 |[],lo,hi,h=>by cases h;exact aj _
 |e::p,lo,hi,⟨h1,h2,h3,h4⟩=>by have:=iX h4;rw[az];omega
theorem lP {lo hi:Nat}(c:∀ k,lo<=k->k<hi->ys.getD k d0=xs.getD k d0)(h:iB rk xs lo hi):iB rk ys lo hi:=fun i j h1 h2 h3=>by
 unfold R;rw[c i h1 (by omega),c j (by omega) h3];exact h i j h1 h2 h3
theorem fX:∀{p:List Rn}{lo hi:Nat},(∀ k,lo<=k->k<hi->ys.getD k d0=xs.getD k d0)->eX rk ix xs lo p hi->eX rk ix ys lo p hi
 |[],lo,hi,c,h=>h
 | e::p,lo,hi,c,⟨h1,h2,h3,h4⟩=>by
  have:=iX h4;exact⟨h1,h2,⟨lP (fun k a b=>c k a (by omega)) h3.1,fun t a b=>by rw[c t a (by omega)];exact h3.2 t a b⟩,fX (fun k a b=>c k (by omega) b) h4⟩
theorem pU {f:Rn->Rn}(hf:∀ e,(f e).1=e.1/\(f e).2.1=e.2.1):∀{p:List Rn}{k lo hi:Nat},eX rk ix xs lo p hi->eX rk ix xs lo (p.modify k f) hi
 |[],k,lo,hi,h=>by cases k<;>exact h
 | e::p,0,lo,hi,⟨h1,h2,h3,h4⟩=>by
  rw[List.modify_zero_cons];refine⟨(hf e).1.trans h1,?_,?_,?_⟩<;>rw[(hf e).2]<;>assumption
 | e::p,k+1,lo,hi,⟨h1,h2,h3,h4⟩=>by
  rw[List.modify_succ_cons];exact⟨h1,h2,h3,pU hf h4⟩
structure Bs (κ:SortKind)(a₀:Array Keyed)(st:SortSt):Prop where
 pm:(arrOf st).Perm a₀
 kd:kindOf st=κ
 fa:failedOf st=none
theorem Bs.al {a₀:Array Keyed}{st:SortSt}(b:Bs κ a₀ st)(p:∀ x∈a₀.toList,P x):Al P st:=fun x hx=>p x ((Array.perm_iff_toList_perm.mp b.pm).mem_iff.mp hx)
theorem zf {p:Array Rn}{i:Nat}(h:i+1<p.size):∃ p1 e1 e2 p2,p.toList=p1++e1::e2::p2/\p1.length=i:=by
 refine⟨p.toList.take i,p[i],p[i+1],p.toList.drop (i+2),?_,by simp;omega⟩;have q1:=List.drop_eq_getElem_cons (l:=p.toList) (i:=i) (by simp;omega);have q2:=List.drop_eq_getElem_cons (l:=p.toList) (i:=i+1) (by simpa using h);have q3:=df i p.toList;rw[q1,q2] at q3;simpa using q3.symm
theorem wy (C:Ct M A E s κ P ky ix N){a₀:Array Keyed}(pa:∀ x∈a₀.toList,P x){st:SortSt}{i hi:Nat}(b:Bs κ a₀ st)(pd:eX (bY ky ix N) ix (arrOf st) 0 (pendingOf st).toList hi)(hz:hi<=a₀.size)(h:i+1<(pendingOf st).size){Q:Bool->SortSt->Prop}
  (q:∀ st',Bs κ a₀ st'->eX (bY ky ix N) ix (arrOf st') 0 (pendingOf st').toList hi->(pendingOf st').size+1=(pendingOf st).size->(∀ k,hi<=k->(arrOf st').getD k d0=(arrOf st).getD k d0)->Q true st'):wpS M A E s (mergeAt' i) Q st:=by
 obtain⟨p1,⟨s1,n1,w1⟩,⟨s2,n2,w2⟩,p2,ep,el⟩:=zf h;rw[ep] at pd;obtain⟨m,h1,h2,h3,h4,h5,h6,h7,h8⟩:=gP.mp pd;dsimp only at h2 h3 h4 h5 h6 h7 h8;subst h2 h5;have e1:(pendingOf st)[i]? = some (s1,n1,w1):=by
  rw[<-Array.getElem?_toList,ep,<-el];simp
 have e2:(pendingOf st)[i+1]? = some (s1+n1,n2,w2):=by
  rw[<-Array.getElem?_toList,ep,<-el];simp
 have hl:=iX h8;have hs:=b.pm.size_eq;refine DI C b.kd (b.al pa) b.fa e1 e2 h3 h6 (by omega) h4.1 h7.1 h4.2 h7.2 fun st' g=>?_
 have el2:(pendingOf st').toList=p1++(s1,n1+n2,w1)::p2:=by
  rw[g.pe];have:(((pendingOf st).setIfInBounds i (s1,n1+n2,w1)).eraseIdxIfInBounds (i+1)).toList=((pendingOf st).toList.set i (s1,n1+n2,w1)).eraseIdx (i+1):=by simp
  rw[this,ep,<-el];simp[List.eraseIdx_append_of_length_le]
 refine q st' ⟨g.pm.trans b.pm,g.kd.trans b.kd,g.fa.trans b.fa⟩ ?_ ?_ fun k hk=>g.out k (.inr (by omega))
 ·rw[el2];refine gP.mpr ⟨s1,fX (fun k _ hk=>g.out k (.inl hk)) h1,rfl,by dsimp only;omega,?_,?_⟩
  ·dsimp only;rw[<-Nat.add_assoc];exact⟨g.so,g.xo⟩
  ·dsimp only;rw[<-Nat.add_assoc];exact fX (fun k hk _=>g.out k (.inr hk)) h8
 ·have a1:=iu List.length el2;have a2:=iu List.length ep;simp at a1 a2;omega
theorem B1 (C:Ct M A E s κ P ky ix N){a₀:Array Keyed}(pa:∀ x∈a₀.toList,P x){st:SortSt}(b:Bs κ a₀ st)(hp:pendingOf st = #[])(io:n9 ix (arrOf st) 0)(h2:2<=a₀.size){Q:Unit->SortSt->Prop}
  (h:∀ st',(arrOf st').Perm a₀->failedOf st'=none->iB (bY ky ix N) (arrOf st') 0 a₀.size->Q () st'):wpS M A E s sortRuns' Q st:=by
 rw[sortRuns'_eq];refine wpS_bind (wpS_get ?_);have hs:=b.pm.size_eq;dsimp only;rw[hs];generalize minRun' a₀.size a₀.size 0=mr;refine wpS_bind (wpS_mono (wpS_forRange (I:=fun x (c:Option Unit×Nat) st'=>c.1=none/\x<=c.2/\c.2<=a₀.size/\Bs κ a₀ st'/\n9 ix (arrOf st') c.2/\eX (bY ky ix N) ix (arrOf st') 0 (pendingOf st').toList c.2)
  (Q:=fun (c:Option Unit×Nat) st'=>c.1=none/\Bs κ a₀ st'/\eX (bY ky ix N) ix (arrOf st') 0 (pendingOf st').toList a₀.size) ?step ?fin ⟨rfl,aj _,cq _,b,io,by rw[hp];exact rfl⟩) ?post)
 case fin =>
  rintro⟨c,lo⟩ st' ⟨e,q1,q2,q3,q0,q4⟩;dsimp only at *;obtain rfl:lo=a₀.size:=by omega
  exact⟨e,q3,q4⟩
 case post =>
  rintro⟨c,lo⟩ st1 ⟨e,q3,q4⟩;dsimp only at e;subst e;dsimp only;refine wpS_bind (wpS_mono (wpS_forRange (I:=fun x (c:Option Unit×Unit) st'=>c.1=none/\Bs κ a₀ st'/\eX (bY ky ix N) ix (arrOf st') 0 (pendingOf st').toList a₀.size/\(pendingOf st').size<=max 1 (a₀.size - x))
   (Q:=fun (c:Option Unit×Unit) st'=>c.1=none/\Bs κ a₀ st'/\eX (bY ky ix N) ix (arrOf st') 0 (pendingOf st').toList a₀.size/\(pendingOf st').size<=1) ?s2 ?f2 ⟨rfl,q3,q4,?i2⟩) ?p2)
  case i2 =>
   have:=iX q4;rw[bp] at this;omega
  case f2 =>
   rintro c st' ⟨a1,a2,a3,a4⟩;exact⟨a1,a2,a3,by omega⟩
  case p2 =>
   rintro⟨c,u⟩ st' ⟨e,a2,a3,a4⟩;dsimp only at e;subst e;refine wpS_pure (h st' a2.pm a2.fa ?_);rw[<-bp] at a4
   match hl:(pendingOf st').toList,a3,a4 with
   |[],a3,_ =>
    have:0=a₀.size:=a3;omega
   |[e],a3,_ =>
    obtain⟨b1,b2,b3,b4⟩:=a3;have b4:0+e.2.1=a₀.size:=b4;rw[b4] at b3;exact b3.1
   |_::_::_,_,a4=>rw[az,az] at a4;omega
  case s2 =>
   rintro x ⟨c,u⟩ st' _ hx ⟨e,a2,a3,a4⟩;dsimp only at *;subst e;refine wpS_bind (wpS_get ?_);by_cases c1:(pendingOf st').size<=1
   ·rw[if_pos c1];exact wpS_pure ⟨rfl,a2,a3,c1⟩
   rw[if_neg c1];refine wpS_bind (wy C pa a2 a3 (aj _) ?_ fun st2 b2 p2 z2 _=>?_)
   ·repeat' split
    all_goals omega
   ·exact wpS_pure ⟨rfl,b2,p2,by omega⟩
 case step =>
  rintro x ⟨c,lo⟩ st1 _ hx ⟨e,q1,q2,q3,q0,q4⟩;dsimp only at *;subst e;by_cases c1:lo ≥ a₀.size
  ·rw[if_pos c1];obtain rfl:lo=a₀.size:=by omega
   exact wpS_pure ⟨rfl,q3,q4⟩
  rw[if_neg c1];have hs1:=q3.pm.size_eq;refine wpS_bind (ES C q3.kd (q3.al pa) (by omega) (by omega) q0 fun n st2 n1 n2 g2 so xo=>?_);have i2:=g2.idt (by omega) q0;have keep:∀{st':SortSt}{hi:Nat},Cg st2 lo hi st'->Bs κ a₀ st'/\eX (bY ky ix N) ix (arrOf st') 0 (pendingOf st').toList lo:=fun {st' hi} g=>by
   refine⟨⟨g.pm.trans (g2.pm.trans q3.pm),g.kd.trans (g2.kd.trans q3.kd),g.fa.trans (g2.fa.trans q3.fa)⟩,?_⟩;rw[g.pe,g2.pe];exact fX (fun k _ hk=>(g.out k (.inl hk)).trans (g2.out k (.inl hk))) q4
  have b2:=(keep (.refl st2 lo lo)).1;have hs2:=b2.pm.size_eq;dsimp only;by_cases c2:n<mr
  rw[if_pos c2];refine wpS_bind (jr ?_);refine wpS_bind (DT C b2.kd (b2.al pa) (by omega) n1 (by omega) so xo i2 fun st3 g3 so3 xo3=>?_);simp only[Bool.not_true,if_false,Bool.false_eq_true];have b3:=(keep g3).1;have p3:=(keep g3).2;have i3:n9 ix (arrOf st3) (lo+min (a₀.size - lo) mr):=fun t a b=>by rw[g3.out t (.inr a)];exact i2 t (by omega) (by rw[<-g3.sz];exact b)
  have hn:1<=min (a₀.size - lo) mr:=by omega
  have hz:lo+min (a₀.size - lo) mr<=a₀.size:=by omega
  generalize min (a₀.size - lo) mr=n3 at *
  rotate_left
  rw[if_neg c2];have b3:=(keep (.refl st2 lo lo)).1;have p3:=(keep (.refl st2 lo lo)).2;have hz:lo+n<=a₀.size:=by omega
  clear keep;have hn:=n1;have so3:=so;have xo3:=xo;have i3:=i2;clear so n1 xo i2;generalize n=n3 at *;generalize st2=st3 at *
  all_goals
   have fin:∀ st':SortSt,Bs κ a₀ st'->n9 ix (arrOf st') (lo+n3)->jc ix (arrOf st') lo (lo+n3)->eX (bY ky ix N) ix (arrOf st') 0 (pendingOf st').toList lo->iB (bY ky ix N) (arrOf st') lo (lo+n3)->Bs κ a₀ (setPending st' ((pendingOf st').push (lo,n3,0)))/\n9 ix (arrOf st') (lo+n3)/\eX (bY ky ix N) ix (arrOf st') 0 ((pendingOf st').push (lo,n3,0)).toList (lo+n3):=fun st' b' i' x' p' s'=>by
    refine⟨⟨b'.pm,b'.kd,b'.fa⟩,i',?_⟩;rw[Array.toList_push];exact gP.mpr ⟨lo,p',rfl,hn,⟨s',x'⟩,rfl⟩
   refine wpS_bind (wpS_get ?_);cases hb:(pendingOf st3).back? with
   |none=>exact wpS_bind (wpS_modify (wpS_pure ⟨rfl,by dsimp only;omega,hz,fin st3 b3 i3 xo3 p3 so3⟩))
   |some e =>
    obtain⟨s1,m1,w⟩:=e;dsimp only;refine wpS_bind (wpS_mono (wpS_forRange (I:=fun x (c:Option Unit×Unit) st'=>c.1=none/\Bs κ a₀ st'/\eX (bY ky ix N) ix (arrOf st') 0 (pendingOf st').toList lo/\iB (bY ky ix N) (arrOf st') lo (lo+n3)/\jc ix (arrOf st') lo (lo+n3)/\n9 ix (arrOf st') (lo+n3))
     (Q:=fun (c:Option Unit×Unit) st'=>c.1=none/\Bs κ a₀ st'/\eX (bY ky ix N) ix (arrOf st') 0 (pendingOf st').toList lo/\iB (bY ky ix N) (arrOf st') lo (lo+n3)/\jc ix (arrOf st') lo (lo+n3)/\n9 ix (arrOf st') (lo+n3)) ?s2 (fun c st' h=>h) ⟨rfl,b3,p3,so3,xo3,i3⟩) ?p2)
    case p2 =>
     rintro⟨c,u⟩ st' ⟨e,q1,q2,q3,q5,q6⟩;dsimp only at e;subst e;dsimp only;refine wpS_bind (wpS_modify (wpS_bind (wpS_modify (wpS_pure ⟨rfl,by dsimp only;omega,hz,fin _ ⟨q1.pm,q1.kd,q1.fa⟩ q6 q5 ?_ q3⟩))));show eX (bY ky ix N) ix (arrOf st') 0 ((pendingOf st').modify _ _).toList lo;rw[Array.toList_modify];refine pU (fun e=>?_) q2;exact⟨rfl,rfl⟩
    case s2 =>
     rintro x ⟨c,u⟩ st' _ hx ⟨e,q1,q2,q3⟩;dsimp only at e;subst e;refine wpS_bind (wpS_get ?_);by_cases c1:(pendingOf st').size > 1
     ·rw[if_pos c1];cases hg:(pendingOf st')[(pendingOf st').size - 2]? with
      |none=>exact wpS_pure ⟨rfl,q1,q2,q3⟩
      |some o =>
       obtain⟨o1,o2,o⟩:=o;dsimp only;split
       ·exact wpS_pure ⟨rfl,q1,q2,q3⟩
       ·refine wpS_bind (wy C pa q1 q2 (by omega) (by omega) fun st2 b2 p2 _ k2=>?_);exact wpS_pure ⟨rfl,b2,p2,lP (fun k hk _=>k2 k hk) q3.1,fun t a b=>by rw[k2 t a];exact q3.2.1 t a b,fun t a b=>by rw[k2 t (by omega)];exact q3.2.2 t a (by rw[q1.pm.size_eq,<-b2.pm.size_eq];exact b)⟩
     ·rw[if_neg c1];exact wpS_pure ⟨rfl,q1,q2,q3⟩
noncomputable abbrev fE (ns:List Int)(x:Keyed):Nat:=ns.idxOf (numOf x.2)
noncomputable abbrev kyI (x:Keyed):Int:=numOf x.1
def Pk (g:Int->Int)(ns:List Int)(x:Keyed):Prop:=∃ i t u,x=(.int (g i) t,.int i u)/\i∈ns
theorem AX {prog:Program}{w:World}{A:Around}{E:Value->Shared->Prop}{s:Shared}{g:Int->Int}{ns:List Int}:Ct (model prog w) A E s oneType' (Pk g ns) kyI (fE ns) ns.length where
 c:=⟨fun {x y st Q} hx hy hk q=>by
  obtain⟨i,t,u,rfl,_⟩:=hx;obtain⟨j,t',u',rfl,_⟩:=hy;rw[lt'_eq];refine wpS_bind (wpS_get ?_);rw[hk,keyLt'_oneType];exact wpS_bind (wpS_lift (wpAny_attempt (oneLt_int ⟨rfl,wpS_pure q⟩)))⟩
 b x h:=by
  obtain⟨i,t,u,rfl,hi⟩:=h;exact List.idxOf_lt_length_iff.mpr hi
structure Kz (g:Int->Int)(ns:List Int)(xs:Array Keyed):Prop where
 mem:∀ x∈xs.toList,Pk g ns x
 nums:(xs.toList.map fun x=>numOf x.2)=ns
theorem Kz.of {g:Int->Int}:∀{ns:List Int}{ks vs:List Value},IntsAre ks (ns.map g)->IntsAre vs ns->Kz g ns (ks.zip vs).toArray
 |[],_,_,.nil,.nil=>⟨fun x h=>(by simp at h),rfl⟩
 | n::ns,_,_,.cons _ t h,.cons _ u h'=>by
  obtain⟨m,e⟩:=Kz.of h h';refine⟨fun x hx=>?_,by simpa[numOf] using e⟩;simp only[List.zip_cons_cons,List.mem_cons] at hx;rcases hx with rfl | hx
  ·exact⟨n,t,u,rfl,aq⟩
  ·obtain⟨i,a,b,q,hi⟩:=m x (by simpa using hx);exact⟨i,a,b,q,ag _ hi⟩
theorem Kz.size {g:Int->Int}{ns:List Int}{xs:Array Keyed}(k:Kz g ns xs):xs.size=ns.length:=by
 rw[<-k.nums,ai,bp]
theorem Kz.idt {g:Int->Int}{ns:List Int}{xs:Array Keyed}(k:Kz g ns xs)(nd:ns.Nodup):n9 (fE ns) xs 0:=fun t _ ht=>by
 have hn:t<ns.length:=by rw[<-k.size];exact ht
 have e:numOf (xs.getD t d0).2=ns[t]:=by
  have q:(xs.toList.map fun x=>numOf x.2)[t]? = ns[t]?:=by rw[k.nums]
  rw[List.getElem?_map,Array.getElem?_toList,dX ht,List.getElem?_eq_getElem hn] at q;exact br q
 show ns.idxOf (numOf (xs.getD t d0).2)=t;rw[e];exact nd.idxOf_getElem _ hn
def Out (g:Int->Int)(ns:List Int)(out:List Value):Prop:=∃ ns':List Int,IntsAre out ns'/\ns'.Perm ns/\ns'.Pairwise fun x y=>(ns.length:Int)*g x+(ns.idxOf x:Int)<=(ns.length:Int)*g y+(ns.idxOf y:Int)
theorem Kz.out {g:Int->Int}{ns:List Int}{a xs:Array Keyed}(k:Kz g ns a)(hp:xs.Perm a)(hs:S (bY kyI (fE ns) ns.length) xs.toList):Out g ns (xs.map (·.2)).toList:=by
 have hl:=Array.perm_iff_toList_perm.mp hp;have m:∀ x∈xs.toList,Pk g ns x:=fun x hx=>k.mem x (hl.mem_iff.mp hx)
 refine⟨(xs.map (·.2)).toList.map numOf,intsAre_map _ fun v hv=>?_,?_,?_⟩
 ·rw[Array.toList_map] at hv;obtain⟨x,hx,rfl⟩:=gr.mp hv;obtain⟨i,t,u,rfl,_⟩:=m x hx;exact⟨i,u,rfl⟩
 ·rw[Array.toList_map,dm,<-k.nums];exact hl.map _
 ·rw[Array.toList_map,dm,List.pairwise_map];refine iq (fun {x y} hx hy h=>?_) hs;obtain⟨i,t,u,rfl,_⟩:=m x hx;obtain⟨j,t',u',rfl,_⟩:=m y hy;exact h
theorem vh {prog:Program}{w:World}{A:Around}{E:Value->Shared->Prop}{s:Shared}{g:Int->Int}{ns:List Int}{a:Array Keyed}(k:Kz g ns a)(nd:ns.Nodup)(h2:2<=ns.length) :
  wpS (model prog w) A E s sortRuns' (fun _ st'=>failedOf st'=none/\(arrOf st').size=ns.length/\Out g ns ((arrOf st').map (·.2)).toList) (SortSt.mk' oneType' a #[] 7 none) :=
 B1 (st:=SortSt.mk' oneType' a #[] 7 none) AX k.mem ⟨.refl _,rfl,rfl⟩ rfl (k.idt nd) (by rw[k.size];exact h2) fun st' q1 q2 q3=>⟨q2,by rw[q1.size_eq,k.size],k.out q1 (nZ (by rw[q1.size_eq];exact q3))⟩
theorem su {g:Int->Int}{ns:List Int}{vs:List Value}(hv:IntsAre vs ns)(h:ns.length<2):Out g ns vs:=by
 refine⟨ns,hv,.refl _,?_⟩
 match ns,h with
 |[],_=>exact .nil
 |[x],_=>exact List.pairwise_singleton _ _
 |_::_::_,h=>rw[az,az] at h;omega
theorem B9 {ks vs:List Value}:ks.toArray.zip vs.toArray=(ks.zip vs).toArray:=by simp
def Kp (h h':Heap):Prop:=∀ b o,h.get? b=some o->h'.get? b=some o
theorem Kp.upd {h h':Heap}{a:Addr}{f:Obj->Obj}(k:Kp h h')(ha:h.get? a=none):Kp h (h'.update a f):=fun b o e=>((Heap.SameBut.update h' a f).2 b (fun z=>by rw[z,ha] at e;cases e)).trans (k b o e)
section
variable {prog:Program}{w:World}{A:Around}{E:Value->Shared->Prop}{s:Shared}{h0:Heap}{a b:Addr}{g:Int->Int}{ns:List Int}{vs:List Value}{P:PySem.Fin->Shared->Prop}{f:Value}
theorem rz {st:SortSt}{kA:Array Value}{e e1:Nat}(k:Kp h0 s.heap)(ha0:h0.get? a=none)(hb0:h0.get? b=none)(hab:b≠a)(hb:s.heap.get? b=some (seqObj "list" kA e)) (ha:s.heap.get? a=some (seqObj "list" #[] e1)) (hz:kA.size<=1000) (hz2:(arrOf st).size<=1000)
  (hf:failedOf st=none) (h:∀ h' c,Kp h0 h'->h'.get? a=some (seqObj "list" ((arrOf st).map (·.2)) c)->P (.done (.ret .none)) { s with heap:=h' }):wpAny (model prog w) A (ksk_tail a false e1 (.ref b) st) P E s:=by
 have s1:=Heap.SameBut.update s.heap b (Obj.mapSeq fun _=>(#[]:Array Value));have ha1:=(s1.2 a hab.symm).trans ha;unfold ksk_tail;dsimp only;refine wpAny_bind (listUpdate_at hb rfl (wpAny_bind (wpAny_letGo (wpAny_bind (seqEpoch_at ha1 rfl (wpAny_bind (listUpdate_at ha1 rfl ?_ (cq _) ?_)))))) (by rw[sizeLine_eq];omega) (cq _))
 ·rw[hf];simp only[bne_self_eq_false,Bool.false_eq_true,if_false];exact wpAny_pure (h _ _ ((k.upd hb0).upd ha0) (get?_update_seq ha1 fun _=>(arrOf st).map (·.2)))
 ·show ((arrOf st).map (·.2)).size<=_;rw[Array.size_map,sizeLine_eq];omega
theorem Bn {kA:Array Value}{e e1:Nat}(nd:ns.Nodup)(hv:IntsAre vs ns)(hk:IntsAre kA.toList (ns.map g))(hn:ns.length<=1000)(k:Kp h0 s.heap)(ha0:h0.get? a=none)(hb0:h0.get? b=none)(hab:b≠a)(hb:s.heap.get? b=some (seqObj "list" kA e)) (ha:s.heap.get? a=some (seqObj "list" #[] e1))
  (h:∀ h' c out,Kp h0 h'->h'.get? a=some (seqObj "list" out c)->Out g ns out.toList->P (.done (.ret .none)) { s with heap:=h' }):wpAny (model prog w) A (ksk_end a false vs.toArray e1 (.ref b) kA) P E s:=by
 have l1:=hv.length;have l2:=hk.length;rw[ai,bp] at l2;have ez:kA.zip vs.toArray=(kA.toList.zip vs).toArray:=by rw[<-B9,ie]
 have kz:=Kz.of hk hv;rw[<-ez] at kz;unfold ksk_end;dsimp only;simp only[Bool.false_eq_true,if_false];by_cases h2:vs.toArray.size<2
 ·rw[if_pos h2,if_pos h2];refine wpAny_bind (wpAny_pure ?_);rw[StateT.run_pure];refine wpAny_bind (wpAny_pure ?_);have es:((arrOf (SortSt.mk' general' (kA.zip vs.toArray) #[] 7 none)).map (·.2)).toList=vs:=by
   show ((kA.zip vs.toArray).map (·.2)).toList=vs;rw[ez];simp only[List.map_toArray];exact List.map_snd_zip (Nat.le_of_eq (l1.trans (l2.symm.trans bp.symm)))
  refine rz (st:=SortSt.mk' general' (kA.zip vs.toArray) #[] 7 none) k ha0 hb0 hab hb ha (by omega) (by show (kA.zip vs.toArray).size<=_;rw[kz.size];exact hn) rfl fun h' c k' e'=>h h' c _ k' e' ?_
  rw[es];exact su hv (by rw[<-l1];simpa using h2)
 ·rw[if_neg h2,if_neg h2];rw[ak] at h2;rw[ksk_kind hk (by omega)];refine wpAny_bind (wpAny_pure (wpAny_bind (wpAny_mono (vh kz nd (by omega)) ?_ fun _ _ e=>e)));rintro⟨⟨⟩,st'⟩ s' ⟨rfl,q1,q2,q3⟩;exact rz k ha0 hb0 hab hb ha (by omega) (by omega) q1 fun h' c k' e'=>h h' c _ k' e' q3
theorem yy {e1:Nat}(nd:ns.Nodup)(hv:IntsAre vs ns)(hn:ns.length<=1000)(k:Kp h0 s.heap)(ha0:h0.get? a=none)(hb0:h0.get? b=none)(hab:b≠a)(hb:s.heap.get? b=some (seqObj "list" #[] 0)) (ha:s.heap.get? a=some (seqObj "list" #[] e1))
  (turn:∀(i:Int) (t:Tok) (h:Heap) (tk:Nat),i∈ns->Kp h0 h->wpAny (model prog w) A (call f [.int i t]) (fun v s'=>∃ h' tk' t',v = .int (g i) t'/\s'={ s with heap:=h',toks:=tk' }/\Kp h h') (fun _ _=>False) { s with heap:=h,toks:=tk })
  (h:∀ h' tk c out,Kp h0 h'->h'.get? a=some (seqObj "list" out c)->Out g ns out.toList->P (.done (.ret .none)) { s with heap:=h',toks:=tk }):wpAny (model prog w) A (ksk_rest a f false vs.toArray e1 (.ref b)) P E s:=by
 have l1:=hv.length;unfold ksk_rest;refine wpAny_bind (wpAny_rule ?_);rw[<-Array.forIn_toList];simp only[List.toList_toArray];refine wpAny_bind (ksk_fold (fun i s'=>∃ h' tk kA e,s'={ s with heap:=h',toks:=tk }/\Kp h0 h'/\h'.get? b=some (seqObj "list" kA e)/\h'.get? a=some (seqObj "list" #[] e1)/\IntsAre kA.toList ((ns.take i).map g)) vs 0 s ⟨s.heap,s.toks,#[],0,rfl,k,hb,ha,by simpa using IntsAre.nil⟩ ?step ?done)
 case step =>
  rintro j x s' hx ⟨h',tk,kA,e,rfl,k1,b1,a1,i1⟩;simp only[Nat.zero_add] at i1 ⊢;have hj:j<ns.length:=by rw[<-l1];exact (List.getElem?_eq_some_iff.mp hx).1
  obtain⟨t,ht⟩:=hv.get j ns[j] (List.getElem?_eq_getElem hj);rw[ht] at hx;cases hx;have hz:=i1.length;rw[bp,ai,eo] at hz;refine wpAny_bind (wpAny_attempt (wpAny_mono (turn ns[j] t h' tk (fi hj) k1) (fun v s'' he=>?_) fun _ _ z=>z.elim));obtain⟨h2,tk2,t2,rfl,rfl,k2⟩:=he;dsimp only;have b2:=k2 _ _ b1;have a2:=k2 _ _ a1;refine wpAny_bind (listUpdate_at b2 rfl ?_ (by rw[sizeLine_eq];omega) (by rw[Array.size_push,sizeLine_eq];omega));refine wpAny_pure ⟨rfl,_,_,_,_,rfl,Kp.upd (fun c o e=>k2 c o (k1 c o e)) hb0,get?_update_seq b2 (·.push (.int (g ns[j]) t2)),((Heap.SameBut.update h2 b _).2 a hab.symm).trans a2,?_⟩;rw[List.take_add_one,List.getElem?_eq_getElem hj,Array.toList_push];simp only[Option.toList_some,List.map_append,List.map_cons,List.map_nil];exact ksk_snoc i1
 case done =>
  rintro s' ⟨h',tk,kA,e,rfl,k1,b1,a1,i1⟩;rw[eh,gq (by omega)] at i1;exact wpAny_bind (listItems_at b1 rfl (Bn nd hv i1 hn k1 ha0 hb0 hab b1 a1 fun h2 c out q1 q2 q3=>h h2 tk c out q1 q2 q3))
theorem yd {n:Nat}(nd:ns.Nodup)(hv:IntsAre vs ns)(hn:ns.length<=1000)(k:Kp h0 s.heap)(ha0:h0.get? a=none)(hz0:h0.objs.size<=s.heap.objs.size)(ha:s.heap.get? a=some (seqObj "list" vs.toArray n))
  (turn:∀(i:Int) (t:Tok) (h:Heap) (tk:Nat),i∈ns->Kp h0 h->wpAny (model prog w) A (call f [.int i t]) (fun v s'=>∃ h' tk' t',v = .int (g i) t'/\s'={ s with heap:=h',toks:=tk' }/\Kp h h') (fun _ _=>False) { s with heap:=h,toks:=tk })
  (h:∀ h' tk c out,Kp h0 h'->h'.get? a=some (seqObj "list" out c)->Out g ns out.toList->P (.done (.ret .none)) { s with heap:=h',toks:=tk }):wpAny (model prog w) A (ksk_tree a f false) P E s:=by
 have l1:=hv.length;have hlt:a<s.heap.objs.size:=Heap.lt_size ha;have ha1:=get?_update_seq ha fun _=>(#[]:Array Value)
 have k1:Kp h0 (s.heap.update a (Obj.mapSeq fun _=>(#[]:Array Value))):=k.upd ha0;unfold ksk_tree;refine wpAny_bind (listItems_at ha rfl (wpAny_bind (listUpdate_at ha rfl (wpAny_bind (seqEpoch_at ha1 rfl (wpAny_bind (wpAny_newTuple (wpAny_bind (wpAny_newList (wpAny_holding ?_) (cq _))) (by show vs.length<=_;rw[sizeLine_eq];omega))))) (by rw[ak,sizeLine_eq];omega) (cq _))));have hs:((s.heap.update a (Obj.mapSeq fun _=>(#[]:Array Value))).push (seqObj "tuple" vs.toArray 0)).objs.size=s.heap.objs.size+1:=by rw[Heap.size_push,Heap.size_update]
 refine yy (s:={ s with heap:=((s.heap.update a (Obj.mapSeq fun _=>(#[]:Array Value))).push (seqObj "tuple" vs.toArray 0)).push (seqObj "list" #[] 0) }) (b:=((s.heap.update a (Obj.mapSeq fun _=>(#[]:Array Value))).push (seqObj "tuple" vs.toArray 0)).objs.size) nd hv hn ?_ ha0 ?_ ?_ ?_ ?_ turn h
 ·exact fun c o e=>Heap.get?_push_of_some _ (Heap.get?_push_of_some _ (k1 c o e))
 ·exact Heap.get?_none_of_le (by rw[hs];omega)
 ·rw[hs];exact i4 (fu hlt)
 ·exact Heap.get?_push_size _ rfl
 ·exact Heap.get?_push_of_some _ (Heap.get?_push_of_some _ ha1)
end
section
variable {prog:Program}{w:World}{A:Around}{E:Value->Shared->Prop}{s:Shared}{g:Int->Int}{ns:List Int}{f:Value}{Q:Value->Shared->Prop}
theorem tL {x:Value}{q:Addr}(hf:f = .ref q)(nd:ns.Nodup)(hn:ns.length<=1000)
  (hc:∀ R:List Value->Shared->Prop,(∀ vs h' tk,IntsAre vs ns->Kp s.heap h'->s.heap.objs.size<=h'.objs.size->R vs { s with heap:=h',toks:=tk })->wpAny (model prog w) A.in1 (collect x) R E s)
  (turn:∀(i:Int) (t:Tok) (h:Heap) (tk:Nat),i∈ns->Kp s.heap h->wpAny (model prog w) A.in1.in1 (call f [.int i t]) (fun v s'=>∃ h' tk' t',v = .int (g i) t'/\s'={ s with heap:=h',toks:=tk' }/\Kp h h') (fun _ _=>False) { s with heap:=h,toks:=tk })
  (h:∀ D h' tk c out,Kp s.heap h'->s.heap.get? D=none->h'.get? D=some (seqObj "list" out c)->Out g ns out.toList->Q (.ref D) { s with heap:=h',toks:=tk }) :
  wpAny (model prog w) A (call (.builtin "sorted") [x] [(Str.ofString "key",f)]) Q E s:=by
 subst hf;refine call_function_entry_kw kind_sorted plain_sorted entry_sorted (ksk_s1 _ _) ?_;unfold Builtin.«sorted»;refine wpAny_bind (m:=checkCount "sorted" 1 1 _) (wpAny_pure (wpAny_bind (hc _ fun vs h' tk hv k hsz=>?_)));have l1:=hv.length;refine wpAny_bind (wpAny_newList ?_ (by rw[sizeLine_eq];omega));have k2:Kp s.heap (h'.push (seqObj "list" vs.toArray 0)):=fun c o e=>Heap.get?_push_of_some _ (k c o e)
 refine wpAny_bind (wpAny_holding (wpAny_call_entry_kw slot_list_sort ⟨_,Heap.get?_push_size _ rfl,rfl⟩ entry_list_sort ?body (ksk_l1 _ _)))
 case body =>
  rw[ksk_t1];refine yd (h0:=s.heap) (s:={ s with heap:=h'.push (seqObj "list" vs.toArray 0),toks:=tk }) nd hv hn k2 (Heap.get?_none_of_le hsz) (by rw[Heap.size_push];omega) (Heap.get?_push_size _ rfl) (fun i t h tk' hi hk=>turn i t h tk' hi hk) fun h2 tk2 c out q1 q2 q3=>⟨_,rfl,wpAny_pure ⟨_,rfl,h _ h2 tk2 c out q1 (Heap.get?_none_of_le hsz) q2 q3⟩⟩
end
end Tm
end
section
namespace Tm
open PySem PySem.Spec PyProof.Rows L2
noncomputable def dO (n:Nat):List Int:=(List.range n).map fun i:Nat=>(i:Int)
theorem eD (n:Nat):(dO n).length=n:=by simp[dO]
theorem ku {n:Nat}{i:Int}:i∈dO n↔0<=i/\i<n:=by
 unfold dO;simp only[List.mem_map,List.mem_range];constructor
 ·rintro⟨k,h,rfl⟩;omega
 ·rintro⟨h1,h2⟩;exact⟨i.toNat,by omega,by omega⟩
theorem nu (n:Nat):(dO n).Nodup:=by
 unfold dO List.Nodup;rw[List.pairwise_map];exact List.nodup_range.imp fun {a b} h z=>h (by exact_mod_cast z)
theorem qy {acc:Array Value}{n:Nat}(h:ItemsOf (fun i v=>∃ t,v = .int (0+(i:Int)*1) t) acc n):IntsAre acc.toList (dO n):=by
 obtain⟨h1,h2⟩:=h;have e:acc.toList.map numOf=dO n:=by
  refine List.ext_getElem (by simp[dO,h1]) fun i a b=>?_
  have hi:i<acc.size:=by simpa using a
  obtain⟨t,ht⟩:=h2 i acc[i] (by simp[hi]);simp[dO,ht,numOf]
 rw[<-e];refine intsAre_map _ fun v hv=>?_
 obtain⟨i,hi,rfl⟩:=List.getElem_of_mem hv;have hi':i<acc.size:=by simpa using hi
 obtain⟨t,ht⟩:=h2 i acc[i] (by simp[hi']);exact⟨_,t,by simpa using ht⟩
section
variable {prog:Program}{w:World}{A:Around}{E:Value->Shared->Prop}{s:Shared}
theorem uo {r:Addr}{n:Nat}{t u v:Tok}{S:Addr}{R:Result->Shared->Prop}(hh:A.handled=none)(hr:IsRange s.heap r 0 n 1 t u v)(hn:n<=1000)(hS:s.heap.get? S=some { cls:=.type "list",data:=.seq #[] })
  (h:∀ h' tk acc' c',(∀ b o,b≠S->s.heap.get? b=some o->h'.get? b=some o)->h'.get? S=some { cls:=.type "list",dict:=none,data:=.seq acc' c',slots:=#[] }->ItemsOf (fun i v=>∃ t,v = .int (0+(i:Int)*1) t) acc' n->R (.ok (.ret (.ref S))) { s with heap:=h',toks:=tk }) :
  codeAny (model prog w) A (.builtin "list.__iadd__" ⟨[.ref S,.ref r],[]⟩) R s:=by
 refine codeAny_builtin F.entry_list_iadd ?_;rw[Around.under_plainId F.plain_list_iadd _];show wpAny _ A.in1 (Builtin.List.listExtendWith (.ref S) (.ref r) (.ref S)) _ _ _;exact wpAny_extend_range (n:=n) hh hr (small_one (by decide) (by decide) (by omega) (by omega)) (by rw[rangeSize_one];split<;>omega) (by omega) S _ 0 hS h
theorem p5 {r:Addr}{n:Nat}{t u v:Tok}{Q:List Value->Shared->Prop}(hh:A.handled=none)(hr:IsRange s.heap r 0 n 1 t u v)(hn:n<=1000)
  (h:∀ vs h' tk,IntsAre vs (dO n)->Kp s.heap h'->s.heap.objs.size<=h'.objs.size->Q vs { s with heap:=h',toks:=tk }):wpAny (model prog w) A (collect (.ref r)) Q E s:=by
 unfold collect;refine wpAny_bind (wpAny_runValue (codeAny_builtin F.entry_proto_collect ?_));rw[Around.under_plainId F.plain_proto_collect _];show wpAny _ A.in1 (newList [] >>= fun l=>again (.builtin "list.__iadd__" ⟨[l,.ref r],[]⟩)) _ _ s;refine wpAny_bind (wpAny_newObj_type ?_);refine wpAny_pure ⟨plainId_quiet F.plain_list_iadd _,uo (s:={ s with heap:=s.heap.push { cls:=.type "list",data:=.seq #[] } }) hh (Heap.get?_push_of_some _ hr) hn (Heap.get?_push_size _ rfl) fun h' tk acc c' hk hS hacc=>?_⟩;show wpAny _ A (load s.heap.objs.size >>= _) _ _ _;refine wpAny_bind (wpAny_load hS (wpAny_pure ?_));exact h acc.toList h' tk (qy hacc) (fun b o e=>hk b o (bh (Heap.lt_size e)) (Heap.get?_push_of_some _ e)) (gp (Heap.lt_size hS))
end
noncomputable def uN (m k:Int):Int:=((k+1)*(m%2147483398+1)*40692+k*k)%2147483399
section
variable {prog:Program}{w:World}{A:Around}{E:Value->Shared->Prop}{s:Shared}
theorem mR {env:Env}{x:Str}{p:Pos}{mm:Str->Option Value}{v:Value}{Q:Value->Shared->Prop}(hk:env.scope.kind = .function)(k1:env.kindOf x=some .local)(hn:s.heap.Ns env.locals mm)(h1:mm x=some v)(hd:(x==("__debug__" : Str))=false) (q:Q v s):wpAny (model prog w) A (eval (.Name x p) env) Q E s :=
 wpAny_Name (wpAny_loadName_local hk k1 hn h1 q) hd
theorem xR {env:Env}{x:Str}{p:Pos}{c:Addr}{v:Value}{Q:Value->Shared->Prop}(hk:env.scope.kind = .function)(k1:env.kindOf x=some .free)(hn:env.cells.lookup x=some c)(h1:s.heap.IsCell c (some v))(hd:(x==("__debug__" : Str))=false) (hc:(x==("__classdict__" : Str))=false) (q:Q v s):wpAny (model prog w) A (eval (.Name x p) env) Q E s :=
 wpAny_Name (wpAny_loadName_free hk k1 hn h1 q hc) hd
noncomputable abbrev m8 (p:Nat->Pos):Expr :=
 .BinOp (.BinOp (.BinOp (.BinOp (.BinOp (.Name "_law_k" (p 0)) .Add (.Constant (.int 1) 0 (p 1)) (p 2)) .Mult (.BinOp (.BinOp (.Name "_law_m" (p 3)) .Mod (.Constant (.int 2147483398) 0 (p 4)) (p 5)) .Add (.Constant (.int 1) 0 (p 6)) (p 7)) (p 8)) .Mult (.Constant (.int 40692) 0 (p 9)) (p 10)) .Add (.BinOp (.Name "_law_k" (p 11)) .Mult (.Name "_law_k" (p 12)) (p 13)) (p 14)) .Mod (.Constant (.int 2147483399) 0 (p 15)) (p 16)
def Tk (s s':Shared):Prop:=∃ tk,s'={ s with toks:=tk }
theorem Tk.trans {a b c:Shared}(h:Tk a b)(h':Tk b c):Tk a c:=by
 obtain⟨x,rfl⟩:=h;obtain⟨y,rfl⟩:=h';exact⟨y,rfl⟩
theorem Tk.hp {a b:Shared}(h:Tk a b):b.heap=a.heap:=by
 obtain⟨x,rfl⟩:=h;rfl
theorem D1 {env:Env}{i:Int}{n:Nat}{p:Pos}{Q:Value->Shared->Prop}(h:∀ t s',Tk s s'->Q (.int i t) s'):wpAny (model prog w) A (eval (.Constant (.int i) n p) env) Q E s:=wpAny_Constant_int (h _ _ ⟨_,rfl⟩)
theorem xm {a b:Int}{t u:Tok}{Q:Value->Shared->Prop}(h:∀ t s',Tk s s'->Q (.int (a+b) t) s'):wpAny (model prog w) A (binaryOp .Add (.int a t) (.int b u)) Q E s:=add_int (h _ _ ⟨_,rfl⟩)
theorem wA {a b:Int}{t u:Tok}{Q:Value->Shared->Prop}(c:yR a b)(h:∀ t s',Tk s s'->Q (.int (a*b) t) s'):wpAny (model prog w) A (binaryOp .Mult (.int a t) (.int b u)) Q E s:=mul_int (h _ _ ⟨_,rfl⟩) c.ok
theorem zW {a b:Int}{t u:Tok}{Q:Value->Shared->Prop}(c:0<b)(h:∀ t s',Tk s s'->Q (.int (a%b) t) s'):wpAny (model prog w) A (binaryOp .Mod (.int a t) (.int b u)) Q E s :=
 mod_int' (by omega) (by rw[Int.fmod_eq_emod_of_nonneg a (by omega)];exact h _ _ ⟨_,rfl⟩)
theorem B2 {p:Nat->Pos}{env:Env}{mm:Str->Option Value}{c:Addr}{k m:Int}{t u:Tok}{Q:Value->Shared->Prop}(hk:env.scope.kind = .function)(k1:env.kindOf "_law_k" = some .local) (k2:env.kindOf "_law_m" = some .free) (hn:s.heap.Ns env.locals mm) (h1:mm "_law_k" = some (.int k t)) (hc:env.cells.lookup ("_law_m" : Str)=some c) (h2:s.heap.IsCell c (some (.int m u)))
  (hb:0<=k/\k<1000) (q:∀ t s',Tk s s'->Q (.int (uN m k) t) s'):wpAny (model prog w) A (eval (m8 p) env) Q E s:=by
 unfold uN at q;refine wpAny_BinOp (wpAny_BinOp (wpAny_BinOp (wpAny_BinOp (wpAny_BinOp (mR hk k1 hn h1 (by decide) (D1 fun _ s1 e1=>xm fun _ s2 e2=>?_))))));have e2:=e1.trans e2;refine wpAny_BinOp (wpAny_BinOp (xR hk k2 hc (by rw[e2.hp];exact h2) (by decide) (by decide) (D1 fun _ s3 e3=>zW (by decide) fun _ s4 e4=>D1 fun _ s5 e5=>xm fun _ s6 e6=>wA (.inl (by omega)) fun _ s7 e7=>D1 fun _ s8 e8=>wA (.inr (by omega)) fun _ s9 e9=>?_)));have e9:=((((((e2.trans e3).trans e4).trans e5).trans e6).trans e7).trans e8).trans e9;refine wpAny_BinOp (mR hk k1 (by rw[e9.hp];exact hn) h1 (by decide) (mR hk k1 (by rw[e9.hp];exact hn) h1 (by decide) (wA (.inl (by omega)) fun _ t1 g1=>xm fun _ t2 g2=>D1 fun _ t3 g3=>zW (by decide) fun _ t4 g4=>?_)));exact q _ _ ((((e9.trans g1).trans g2).trans g3).trans g4)
end
section
variable {prog:Program}{w:World}{A:Around}{E:Value->Shared->Prop}{s:Shared}
noncomputable abbrev oC (p:Pos):Arguments:={ posonlyargs:=[],args:=[{ arg:="_law_k",annotation:=none,pos:=p }],vararg:=none,kwonlyargs:=[],kw_defaults:=[],kwarg:=none,defaults:=[] }
noncomputable abbrev j9:Scope:={ kind:=.function,names:=[("_law_k",.local),("_law_m",.free)],isGenerator:=false,isCoroutine:=false,more:=[] }
theorem vo {f c' cm:Addr}{qual:Str}{ap:Pos}{p:Nat->Pos}{pm ctv:Value}{k m:Int}{t u:Tok}(hr:A.depth<recursionLimit)(ho:s.heap.get? f=some (PySem.W.kla_obj "<lambda>" qual (oC ap) (m8 p) j9 [("_law_m",cm)] pm c' ctv)) (hcd:s.heap.CodeRec (.ref c') qual) (hl:s.heap.NoLimit) (hc:s.heap.IsCell cm (some (.int m u))) (hb:0<=k/\k<1000) :
  wpAny (model prog w) A (call (.ref f) [.int k t]) (fun v s'=>∃ h' tk' t',v = .int (uN m k) t'/\s'={ s with heap:=h',toks:=tk' }/\Kp s.heap h') (fun _ _=>False) s:=by
 refine wpAny_call (PySem.W.kla_callFunE hr ho rfl rfl rfl rfl hcd ?_);have hbind:bindArgs (PySem.W.kla_fn "<lambda>" qual (oC ap) (m8 p) j9 [("_law_m",cm)] pm (.ref c') ctv) ⟨[.int k t],[]⟩=pure [(("_law_k" : Str),Value.int k t)]:=rfl;rw[hbind];refine wpAny_pure (wpAny_newFunctionEnv (show ∀ x∈j9.names,x.2≠.cell by decide) (fun x hx=>by rw[List.mem_singleton.mp hx];rfl) (fun h₁ hns hsb=>⟨hl.fresh _ hsb,PySem.W.kla_codeExpr ?_⟩) rfl);have hk:Kp s.heap h₁:=fun b o e=>hsb.extBut b o (bh (Heap.lt_size e)) (Heap.get?_push_of_some _ e)
 have hc1:h₁.IsCell cm (some (.int m u)):=by
  obtain⟨o,e,d⟩:=hc;exact⟨o,hk _ _ e,d⟩
 refine B2 rfl rfl rfl hns rfl rfl hc1 hb fun t s' e=>?_
 obtain⟨tk,rfl⟩:=e;exact⟨h₁,tk,t,rfl,rfl,hk⟩
end
end Tm
end
section
namespace Pc
open PySem PySem.Spec PyProof.Rows L2
theorem jR {K:PySem.W.Frag}{h:Heap}{C:Addr}{bmB:List Value}{newId:String}(kin:K.In h)(q:PySem.W.excIn K C bmB newId=true) :
  ∃ bm N nm qn bs hdct sn sub ab col dd k0 k1 k2 k3 k5 mN,h.get? C=some (excClassObj nm qn C N bs bm hdct sn sub ab col dd k0 k1 k2 k3 k5 newId)/\h.Ns N mN/\mN "__init__" = none/\OwnTail h bmB bm:=by
 unfold PySem.W.excIn at q;split at q
 ·rename_i dd cd sl ho;split at q
  ·rename_i C' bm k0 k1 k2 k3 n k5 hm hs;simp only[Bool.and_eq_true,beq_iff_eq,Bool.not_eq_true'] at q;obtain⟨⟨⟨⟨⟨rfl,rfl⟩,hdel⟩,ht⟩,hok⟩,hni⟩:=q;obtain⟨nm,bs,mro,ns,qn,hd,sn,sub,ab,col,del⟩:=cd;dsimp only at hm hdel hok hni;subst hm hdel;have hsl:sl = #[k0,k1,k2,k3,some (.builtin n),k5]:=by
    obtain⟨l⟩:=sl;simp only at hs;rw[hs]
   subst hsl;exact⟨bm,ns,nm,qn,bs,hd,sn,sub,ab,col,dd,k0,k1,k2,k3,k5,_,kin _ _ ho,.of_isNs (PySem.W.isNs_of_in kin hok),PySem.W.nsMap_none_of_in kin hok hni,PySem.W.tail_of_in kin ht⟩
  ·cases q
 ·cases q
section
variable {X:Cx}
theorem xy {x:Str}{C:Addr}{bmB:List Value}{B newId initId:String}{np cpos pos:Pos}{e:Expr}{es:List Expr}{t:TA}{W:Hp->Prop}(hc:X.calm=true)(hg:Gl X x)(hm:X.mg x=some (.ref C))(q:PySem.W.excIn X.K C bmB newId=true)(FB:ExcBaseFacts B newId initId bmB)(ha:PA X (e::es) t)
  (hw:∀(pins:List (Addr×Obj)) (σ:L2.St) (H:Hp) (s:Shared) (h':Heap) (a:Addr) (us:List Value),W H->Inv X pins σ H s->Heap.MadeExcOf s.heap h' a (.ref C) us->X.xe (.ref a) { s with heap:=h' })
  (hl:∀ σ H Q,t σ H Q->t σ H fun vs H'=>vs.length<=sizeLine/\Q vs H')
  (he:starEach (e::es) X.env=(false,eval e X.env)::starEach es X.env:=by rfl) (hpl:(backTo cpos (starEach es X.env)).any (·.1)=false:=by rfl) (hd:(x==("__debug__" : Str))=false:=by decide) :
  PS X (.Raise (some (.Call (.Name x np) (e::es) [] cpos)) none pos) (fun D σ H=>t σ H fun vs H'=>W H'):=by
 intro pins s σ H D I h;obtain⟨bm,N,nm,qn,bs,hdct,sn,sub,ab,col,dd,k0,k1,k2,k3,k5,mN,hC,hN,hni,T⟩:=jR I.ok.mod.kin q;refine wpAny_Raise_call_subT (C:=C) (nm:=nm) (q:=qn) (N:=N) (bs:=bs) (bm:=bm) (hdct:=hdct) (sn:=sn) (sub:=sub) (ab:=ab) (col:=col) (dd:=dd) (k0:=k0) (k1:=k1) (k2:=k2) (k3:=k3) (k5:=k5)
  FB (mN:=mN) (T.hasType FB.hasBase) (I.ok.hd hc) (by rw[he];show (false || (backTo cpos (starEach es X.env)).any (·.1))=false;rw[hpl];rfl) hni (gW I hg hm ⟨rfl,?_⟩ hd)
 have ha':=ha cpos pins s σ H _ I (hl σ H _ h);rw[he] at ha' ⊢;refine Calls.evalArgs_plain (wpAny_mono ha' (fun us s₂ h₂=>?_) fun _ _ y=>y);obtain⟨vs,H2,I2,r2,l2,w2⟩:=h₂;exact⟨rfl,by rw[<-r2.length];exact l2,I2.bk _ _ hC,hN.keeps I2.bk,T.keeps I2.bk,fun h' a hx=>hw pins σ H2 s₂ h' a us w2 I2 hx⟩
end
def Bf (B:Heap)(fr:List Addr)(H':Hp)(h h':Heap):Prop:=∀ b o,h'.get? b=some o->b∈fr\/B.get? b=some o\/(h.get? b=none/\H' b=none)
noncomputable def xN (P:Program)(w:World):qb:=fun outer H s E e s'=>∃ a C a0 H' B,e = .ref a/\s'.os=s.os/\AllBare s'.gens/\Un (gI outer) [] H H' s.heap s'.heap/\hV P w H' s'.heap /\
 Heap.FlyingW B outer a C a0 s'.heap/\Bf B (gI outer) H' s.heap s'.heap/\E C none H'
theorem oA {P:Program}{w:World}{H:Hp}{h h':Heap}(x:hV P w H h)(k:∀ b o,H b≠none->h.get? b=some o->h'.get? b=some o):hV P w H h':=fun a o e =>
 (x a o e).stay (fun b u hb q=>k b u (by rcases hb with rfl | hb<;>(intro z;simp_all)) q) (fun _ q=>q) fun _ _ q=>q
theorem pO {P:Program}{w:World}{K:PySem.W.Frag}{mg:Str->Option Value}{base:Heap}{N:List Str}{qual:Str}{scope:Scope}{f:Addr}{cd:Value}{A:Around}{outer:List Env}{s:Shared}{H:Hp}{E:XK}
  {pins:List (Addr×Obj)}{σ:L2.St}{H1:Hp}{s1:Shared}{h2:Heap}{a:Addr}{C:Value}{us:List Value}(I:Inv (eN (xN P w) P w K mg base N qual scope f cd A outer s H E) pins σ H1 s1)
  (hx:Heap.MadeExcOf s1.heap h2 a C us) (hE:E C none H1):(eN (xN P w) P w K mg base N qual scope f cd A outer s H E).xe (.ref a) { s1 with heap:=h2 }:=by
 have hst:=I.stack;have hin:∀ env∈(envOfC qual scope s.heap.objs.size f cd::outer),∀ b,env.frame=some b->b∈gI (envOfC qual scope s.heap.objs.size f cd::outer):=fun env he b hb=>List.mem_filterMap.mpr ⟨env,he,hb⟩
 show wpAny (model P w) (A.deeper (envOfC qual scope s.heap.objs.size f cd)) (leaving (envOfC qual scope s.heap.objs.size f cd) (.ref a)) _ _ _;refine wpAny_leaves_madeW (base:=PySem.W.hideAll s1.heap (gI (envOfC qual scope s.heap.objs.size f cd::outer))) (h:=s1.heap) (outer:=outer) I.ok.frames rfl (fun b o q=>PySem.W.of_hideAll _ q) (PySem.W.funFrames_hide hst hin) hx fun h' t fl tup hbn uts=>?_
 have L0:∀ b o,s.heap.get? b=some o->b≠s.heap.objs.size:=fun b o e=>bh (Heap.lt_size e)
 have fr:gI (envOfC qual scope s.heap.objs.size f cd::outer)=s.heap.objs.size::gI outer:=rfl;have stay:∀ b o,s1.heap.get? b=some o->b≠s.heap.objs.size->b∉gI outer->h'.get? b=some o:=fun b o e h1 h2=>fl.1 b o (PySem.W.hideAll_get _ e (by
  rw[fr];intro z;rcases gc.mp z with z | z
  ·exact h1 z
  ·exact h2 z))
 have fslot:∀ b o,s1.heap.get? b=some o->b∈gI outer->∃ sl,h'.get? b=some { o with slots:=sl }:=fun b o e hb=>by
  obtain⟨_,o',e',hd⟩:=hst.mem (b:=b) (show b∈s.heap.objs.size::gI outer from ag _ hb);rw[e] at e';cases e';exact uts b o (hx.keeps b o e) hd
 have bs:=I.base;have nofr:∀ b,H1 b≠none->b≠s.heap.objs.size/\b∉gI outer:=fun b hb=>by
  have:=I.stkFree;refine⟨fun z=>hb (this b (show b∈s.heap.objs.size::gI outer by rw[z];exact aq)),fun z=>hb (this b (show b∈s.heap.objs.size::gI outer from ag _ z))⟩
 refine⟨a,C,.ref t,H1,_,rfl,I.os,I.bare,⟨fun b o e n hf _=>?_,fun b o e n hf _=>?_,fun b o e n _=>bs.free b o e n (by simp[eN]),fun b o e _=>?_,bs.tups,bs.frzs,bs.tbls⟩,oA I.hok fun b o hb e=>stay b o e (nofr b hb).1 (nofr b hb).2,fl,fun b o e=>?_,hE⟩
 ·exact stay b o (bs.keep b o e n hf (by simp[eN])) (L0 b o e) hf
 ·obtain⟨sl,e1⟩:=bs.slot b o e n hf (by simp[eN]);obtain⟨sl',e2⟩:=fslot b _ e1 hf;exact⟨sl',e2⟩
 ·obtain⟨o1,e1⟩:=bs.there b o e (by simp[eN]);by_cases hf:b∈gI outer
  ·obtain⟨sl',e2⟩:=fslot b _ e1 hf;exact⟨_,e2⟩
  ·exact⟨o1,stay b o1 e1 (L0 b o e) hf⟩
 ·by_cases hf:b∈gI outer
  ·exact .inl hf
  ·cases e1:s1.heap.get? b with
   |none =>
    refine .inr (.inr ⟨?_,?_⟩)
    ·cases e0:s.heap.get? b with
     |none=>rfl
     |some o0 =>
      obtain⟨o1,e2⟩:=bs.there b o0 e0 (by simp[eN]);rw[e1] at e2;cases e2
    ·cases e0:H1 b with
     |none=>rfl
     |some u =>
      obtain⟨ob,e2⟩:=bU.live' (I.hok b u e0);rw[e1] at e2;cases e2
   |some o1 =>
    by_cases hL:b=s.heap.objs.size
    ·refine .inr (.inr ⟨?_,?_⟩)
     ·rw[hL];cases e0:s.heap.get? s.heap.objs.size with
      |none=>rfl
      |some o0=>exact absurd rfl (L0 _ _ e0)
     ·cases e0:H1 b with
      |none=>rfl
      |some u=>exact absurd hL (nofr b (by rw[e0];simp)).1
    ·have:=stay b o1 e1 hL hf;rw[e] at this;cases this;refine .inr (.inl (PySem.W.hideAll_get _ e1 ?_));rw[fr];intro z;rcases gc.mp z with z | z
     ·exact hL z
     ·exact hf z
structure zB (X:Cx)(H H':Hp)(s:Shared)(B h:Heap):Prop where
 un:Un (gI X.stack) [] H H' s.heap h
 hok:hV X.prog X.w H' h
 bf:Bf B (gI X.stack) H' s.heap h
section
variable {X:Cx}{pins:List (Addr×Obj)}{σ:L2.St}{H H':Hp}{s:Shared}{B h h':Heap}
theorem zB.frFree (F:zB X H H' s B h)(I:Inv X pins σ H s):∀ b∈gI X.stack,H' b=none:=fun b hb=>by
 obtain⟨_,o,e,_⟩:=I.stack.mem hb;exact F.un.free b o e (I.stkFree b hb) (by simp)
theorem zB.next (F:zB X H H' s B h)(I:Inv X pins σ H s)(st:B.StaysIn h')(fr:∀ b∈gI X.stack,∃ o,h.get? b=some o/\∀ vs,o.data≠.fields vs)(ut:h.UpToSlots h'):zB X H H' s B h':=by
 have keep:∀ b o,h.get? b=some o->b∉gI X.stack->(s.heap.get? b≠none\/H' b≠none)->h'.get? b=some o:=fun b o e hf hn=>by
  rcases F.bf b o e with z | z | ⟨z1,z2⟩
  ·exact absurd z hf
  ·exact st b o z
  ·rcases hn with hn | hn
   ·exact absurd z1 hn
   ·exact absurd z2 hn
 have slot:∀ b o,h.get? b=some o->b∈gI X.stack->∃ sl,h'.get? b=some { o with slots:=sl }:=fun b o e hf=>by
  obtain⟨o',e',hd⟩:=fr b hf;rw[e] at e';cases e';exact ut b o e hd
 refine⟨⟨fun b o e n hf _=>?_,fun b o e n hf _=>?_,fun b o e n hx=>F.un.free b o e n hx,fun b o e hx=>?_,F.un.tups,F.un.frzs,F.un.tbls⟩,oA F.hok fun b o hb e=>?_,fun b o e=>?_⟩
 ·exact keep b o (F.un.keep b o e n hf (by simp)) hf (.inl (by rw[e];simp))
 ·obtain⟨sl,e1⟩:=F.un.slot b o e n hf (by simp);obtain⟨sl',e2⟩:=slot b _ e1 hf;exact⟨sl',e2⟩
 ·obtain⟨o1,e1⟩:=F.un.there b o e (by simp);by_cases hf:b∈gI X.stack
  ·obtain⟨sl',e2⟩:=slot b _ e1 hf;exact⟨_,e2⟩
  ·exact⟨o1,keep b o1 e1 hf (.inl (by rw[e];simp))⟩
 ·exact keep b o e (fun z=>hb (F.frFree I b z)) (.inr hb)
 ·by_cases hf:b∈gI X.stack
  ·exact .inl hf
  ·cases e1:h.get? b with
   |none =>
    refine .inr (.inr ⟨?_,?_⟩)
    ·cases e0:s.heap.get? b with
     |none=>rfl
     |some o0 =>
      obtain⟨o1,e2⟩:=F.un.there b o0 e0 (by simp);rw[e1] at e2;cases e2
    ·cases e0:H' b with
     |none=>rfl
     |some u =>
      obtain⟨ob,e2⟩:=bU.live' (F.hok b u e0);rw[e1] at e2;cases e2
   |some o1 =>
    rcases F.bf b o1 e1 with z | z | z
    ·exact absurd z hf
    ·have:=st b o1 z;rw[e] at this;cases this;exact .inr (.inl z)
    ·exact .inr (.inr z)
theorem zB.inv {g':Array GenState}{d':Drawn}{t':Nat}(F:zB X H H' s B h)(I:Inv X pins σ H s)(hg:AllBare g'):Inv X pins σ H' { s with heap:=h,gens:=g',drawn:=d',toks:=t' } :=
 I.call (ch:=[]) F.un F.hok hg fun b z=>nomatch z
theorem B8 {E:XK}{e:Value}{s':Shared}(c:xN X.prog X.w X.stack H s E e s'):∃ a C a0 H' B,e = .ref a/\s'.os=s.os/\AllBare s'.gens/\zB X H H' s B s'.heap/\Heap.FlyingW B X.stack a C a0 s'.heap/\E C none H':=by
 obtain⟨a,C,a0,H',B,e1,e2,e3,e4,e5,e6,e7,e8⟩:=c;exact⟨a,C,a0,H',B,e1,e2,e3,⟨e4,e5,e7⟩,e6,e8⟩
theorem iC {a:Addr}{C a0:Value}(f:Heap.FlyingW B X.stack a C a0 h):∀ b∈gI X.stack,∃ o,h.get? b=some o/\∀ vs,o.data≠.fields vs:=fun b hb=>(f.2.2.1.mem hb).2
theorem oB {a L:Addr}{C a0:Value}(f:Heap.HeldW B X.stack a C a0 L h):∀ b∈gI X.stack,∃ o,h.get? b=some o/\∀ vs,o.data≠.fields vs:=fun b hb=>(f.2.2.1.mem hb).2
noncomputable abbrev markX (X:Cx)(a:Addr):Cx:={ X with A:=X.A.mark (some (.ref a)),calm:=false,xe:=fun _ _=>False }
theorem vm (I:Inv X pins σ H s)(a:Addr)(hf:(X.A.mark (some (.ref a))).frames=some X.stack):Inv (markX X a) pins σ H s :=
 ⟨⟨I.ok.mod,I.ok.kind,I.ok.glob,I.ok.blt,I.ok.above,I.ok.inj,I.ok.has,I.ok.cab,fun z=>(by cases z),hf,I.ok.stk,I.ok.exf,I.ok.bs,I.ok.bsz,I.ok.noex,I.ok.exfs,I.ok.funs,I.ok.frf,I.ok.jt⟩,I.os,I.bare,I.base,I.loc,I.cell,I.free,I.freeC,I.pin,I.hok,I.len⟩
end
section
variable {M:Model}{A:Around}{E:Value->Shared->Prop}{prog:Program}{w:World}
theorem oS {nm q:Str}{C N:Addr}{bs bm:List Value}{hdct:Bool}{sn:List Str}{sub:List Value}{ab:Bool}{col:Option Bool}{dd:Option Addr}{k0 k1 k2 k3 k5:Option Value}{newId:String}
  {nm' q':Str}{C' N':Addr}{bs' bm':List Value}{hdct':Bool}{sn':List Str}{sub':List Value}{ab':Bool}{col':Option Bool}{dd':Option Addr}{j0 j1 j2 j3 j5:Option Value}{newId':String}
  {h:Heap}{g:Array GenState}{d:Drawn}{t:Nat}{os:OsState}{e:Addr}{oe:Obj}{Q:Bool->Shared->Prop}
  (hC:h.get? C=some (excClassObj nm q C N bs bm hdct sn sub ab col dd k0 k1 k2 k3 k5 newId)) (hC':h.get? C'=some (excClassObj nm' q' C' N' bs' bm' hdct' sn' sub' ab' col' dd' j0 j1 j2 j3 j5 newId')) (he:h.get? e=some oe) (hcls:oe.cls = .ref C)
  (hbase:bm'.contains (.type "BaseException")=true) (hq:Q ((Value.ref C::bm).contains (.ref C')) ⟨h,g,d,t,os⟩):wpAny M A (excMatches (.ref e) (.ref C')) Q E ⟨h,g,d,t,os⟩:=by
 have hcB:(Value.ref C'::bm').contains (.type "BaseException")=true:=by rw[gj,hbase,Bool.or_true]
 have f:=tc_notTuple;unfold excMatches
 repeat (first | (with_reducible refine wpAny_loadPart_at he ?_;rw[hcls]) | with_reducible refine wpAny_loadPart_at hC' ?_ | (with_reducible refine wpAny_isSubtype_exc hC' ?_;rw[hcB]) | (with_reducible refine wpAny_isSubtype_exc hC ?_) | wp_step)
 cases hb:(Value.ref C::bm).contains (.ref C')<;>(rw[hb] at hq;first | exact hq | (wp_walk;exact hq))
end
section
variable {X:Cx}{pins:List (Addr×Obj)}{σ:L2.St}{H:Hp}{s:Shared}{D:Ends}
noncomputable def kM (X:Cx)(pins:List (Addr×Obj))(σ:L2.St)(W:Value->Hp->Prop)(e:Value)(s1:Shared):Prop :=
 ∃ H0 s0 a C a0 H' B,Inv X pins σ H0 s0/\e = .ref a/\s1.os=s0.os/\AllBare s1.gens/\zB X H0 H' s0 B s1.heap/\Heap.FlyingW B X.stack a C a0 s1.heap/\W C H'
def xB (K:PySem.W.Frag)(C Cd:Addr):Prop:=∃(bmB:List Value) (newId:String) (cd:ClassData) (c0:Value) (dd:Option Addr) (sl:Array (Option Value)),PySem.W.excIn K C bmB newId=true/\K.lookup C=some ⟨c0,dd,.cls cd,sl⟩/\cd.mro.contains (.ref Cd)=true
end
section
variable {X:Cx}{pins:List (Addr×Obj)}{σ:L2.St}{H:Hp}{s:Shared}{D:Ends}
theorem nR {M:Model}{A:Around}{E:Value->Shared->Prop}{i:Nat}{x:Str}{v:V}{Q:Unit->Shared->Prop}(I:Inv X pins σ H s)(hN:X.N.Nodup)(hi:X.N[i]? = some x)(hk:X.env.scope.names.lookup x=some .local)(hv:σ[i]? = some (some v))
  (h:∀ s',Inv X pins (σ.set i none) H s'->Q () s'):wpAny M A (unbindName X.env x) Q E s:=by
 obtain⟨m,hn,hl⟩:=id I.loc;have hcls:(X.env.scope.kind == .class || (X.env.scope.kind == .module&&X.env.locals != X.env.globals))=false:=by rw[I.ok.kind];rfl
 have hiσ:i<σ.length:=by rw[I.len];exact (List.getElem?_eq_some_iff.mp hi).1
 have cne:=I.cne;have tracked:∀{a:Addr}{h':Heap},(∃ o,s.heap.get? a=some o/\H a=none)->Heap.SameBut a s.heap h'->hV X.prog X.w H h':=fun {a h'} ha hs b ob e=>by
  obtain⟨_,_,hfree⟩:=ha;refine (I.hok b ob e).stay (fun c w' hc q=>(hs.2 c ?_).trans q) (fun _ q=>q) fun _ _ q=>q
  rintro rfl;rcases hc with rfl | hc
  ·rw[hfree] at e;cases e
  ·rw[hfree] at hc;cases hc
 have hm:∃ u,m x=some u:=by
  obtain⟨u,_,q⟩:=hl i x v hi hv (.inl hk);rcases q with ⟨_,e⟩ | ⟨k,_⟩
  ·exact⟨u,e⟩
  ·have:X.env.kindOf x=some .local:=hk;rcases k with k | k<;>(rw[this] at k;cases k)
 obtain⟨u,hu⟩:=hm;refine wpAny_unbindName_local hk hn hu hcls fun h' u' hn' hs=>?_
 obtain⟨oL,_,_,hoL,_⟩:=id hn;refine h _ ⟨I.ok,I.os,I.bare,⟨fun b o e n hb hx=>?_,fun b o e n hb hx=>?_,I.base.free,fun b o e hx=>?_,I.base.tups,I.base.frzs,I.base.tbls⟩,⟨_,hn',fun j y v' e1 e2 e3=>?_⟩,fun y c e=>?_,I.free,I.freeC,fun p hp=>?_,tracked ⟨oL,hoL,I.free⟩ hs,by simpa using I.len⟩
 ·exact (hs.2 b (bh (av (Heap.lt_size e) I.ok.above))).trans (I.base.keep b o e n hb hx)
 ·obtain⟨sl,e1⟩:=I.base.slot b o e n hb hx;exact⟨sl,(hs.2 b (bh (av (Heap.lt_size e) I.ok.above))).trans e1⟩
 ·obtain⟨o',e1⟩:=I.base.there b o e hx;exact⟨o',(hs.2 b (bh (av (Heap.lt_size e) I.ok.above))).trans e1⟩
 ·by_cases hj:j=i
  ·subst hj;rw[List.getElem?_set_self hiσ] at e2;cases e2
  ·rw[List.getElem?_set_ne (eg hj)] at e2;obtain⟨u',r',q⟩:=hl j y v' e1 e2 e3;refine⟨u',r',?_⟩;rcases q with ⟨k,e⟩ | ⟨k,c,e,z⟩
   ·refine .inl ⟨k,?_⟩;have:y≠x:=fun e=>hj (kP hN e1 (e ▸ hi))
    simp[this,e]
   ·exact .inr ⟨k,c,e,z.sameBut hs (cne y c e)⟩
 ·obtain⟨w',z⟩:=I.cell y c e;exact⟨w',z.sameBut hs (cne y c e)⟩
 ·obtain⟨e,n,ne,nf,d⟩:=I.pin p hp;exact⟨(hs.2 p.1 ne).trans e,n,ne,nf,d⟩
theorem uL {M:Model}{A:Around}{E:Value->Shared->Prop}{i:Nat}{x:Str}{pos:Pos}{Q:Unit->Shared->Prop}(I:Inv X pins σ H s)(hN:X.N.Nodup)(hi:X.N[i]? = some x)(hk:X.env.scope.names.lookup x=some .local)
  (h:∀ s',Inv X pins (σ.set i none) H s'->Q () s'):wpAny M A (do bindName X.env x .none;unbindBehindTheSuite X.env x pos) Q E s:=by
 refine wpAny_bind (wpAny_bindName (fM I hN hi (.inl hk) (show RelV .non .none from rfl) (fun s1 I1=>?_) (.inr hk)));unfold unbindBehindTheSuite;refine wpAny_onRaise (nR I1 hN hi hk (List.getElem?_set_self (by rw[I.len];exact (List.getElem?_eq_some_iff.mp hi).1)) fun s2 I2=>h s2 ?_);rw[List.set_set] at I2;exact I2
noncomputable abbrev pL (X:Cx)(a:Addr)(o:Obj):Cx:={ X with A:=X.A.mark (some (.ref a)),calm:=false,xe:=fun _ _=>False,pn:=(a,o)::X.pn }
theorem uu (I:Inv X pins σ H s)(a:Addr)(o:Obj)(hf:(X.A.mark (some (.ref a))).frames=some X.stack)(ha:s.heap.get? a=some o/\H a=none/\a≠X.env.locals/\a∉X.fs/\∀ v,o.data≠.cell v):Inv (pL X a o) pins σ H s :=
 ⟨⟨I.ok.mod,I.ok.kind,I.ok.glob,I.ok.blt,I.ok.above,I.ok.inj,I.ok.has,I.ok.cab,fun z=>(by cases z),hf,I.ok.stk,I.ok.exf,I.ok.bs,I.ok.bsz,I.ok.noex,I.ok.exfs,I.ok.funs,I.ok.frf,I.ok.jt⟩,I.os,I.bare,I.base,I.loc,I.cell,I.free,I.freeC,fun p hp=>by
  rcases gc.mp hp with rfl | hp
  ·exact ha
  ·exact I.pin p hp,I.hok,I.len⟩
end
inductive jK (h:Heap) (bmB:List Value) (ns:List Str):List Value->Prop
 | base:jK h bmB ns bmB
 | own {A:Addr}{c0:Value}{dd:Option Addr}{cd:ClassData}{sl:Array (Option Value)}{mA:Str->Option Value}{tl:List Value} :
   h.get? A=some { cls:=c0,dict:=dd,data:=.cls cd,slots:=sl }->h.Ns cd.ns mA->(∀ n∈ns,mA n=none)->jK h bmB ns tl->jK h bmB ns (.ref A::tl)
noncomputable def nP:List Str:=["__getattribute__","__getattr__","__class__"]
section
variable {M:Model}{A:Around}{E:Value->Shared->Prop}{h:Heap}{g:Array GenState}{d:Drawn}{t:Nat}{os:OsState}
theorem tF {bmB tl:List Value}{ns:List Str}{n:Str}{y:Option Value}{Q:Option Value->Shared->Prop}(hn:n∈ns)(T:jK h bmB ns tl)(hrest:lookupAlong bmB n=pure y)(hq:Q y ⟨h,g,d,t,os⟩) :
  wpAny M A (lookupAlong tl n) Q E ⟨h,g,d,t,os⟩:=by
 induction T with
 |base=>rw[hrest];exact wpAny_pure hq
 |own hA hN hni _ ih =>
  rw[lookupAlong_cons];refine wpAny_bind (wpAny_classOwn_cls hA hN ?_);rw[hni n hn];exact ih
variable {nm q:Str}{C N:Addr}{bs bm bmB:List Value}{hdct:Bool}{sn:List Str}{sub:List Value}{ab:Bool}{col:Option Bool}{dd:Option Addr}{k0 k1 k2 k3 k5:Option Value}{B newId:String}
theorem ki {mN:Str->Option Value}{ns:List Str}{n:Str}{y:Option Value}{Q:Option Value->Shared->Prop}(hn:n∈ns)
  (hC:h.get? C=some (excClassObj nm q C N bs bm hdct sn sub ab col dd k0 k1 k2 k3 k5 newId)) (hN:h.Ns N mN) (hmN:∀ n∈ns,mN n=none) (T:jK h bmB ns bm) (hbm:mroOf (.type B)=pure bmB)
  (hB:typeLookup (.type B) n=pure y) (hq:Q y ⟨h,g,d,t,os⟩):wpAny M A (typeLookup (.ref C) n) Q E ⟨h,g,d,t,os⟩:=by
 have hrest:lookupAlong bmB n=pure y:=by rw[typeLookup_eq,hbm] at hB;exact hB
 rw[typeLookup_eq];refine wpAny_bind (wpAny_mroOf_exc hC ?_);rw[lookupAlong_cons];refine wpAny_bind (wpAny_classOwn_exc hC hN ?_);rw[hmN n hn];exact tF hn T hrest hq
end
theorem wL:typeLookup (.type "ValueError") "__class__" = pure (some (.builtin "object.__class__")):=by rw[typeLookup_type,builtinLookup_eq_fast];kernel_rfl
noncomputable abbrev jZ:List Value:=[.type "ValueError",.type "Exception",.type "BaseException",.type "object"]
section
variable {prog:Program}{w:World}{A:Around}{E:Value->Shared->Prop}{h:Heap}{g:Array GenState}{d:Drawn}{t:Nat}{os:OsState}{a:Addr}{o:Obj}
 {nm q:Str}{C N:Addr}{bs bm:List Value}{hdct:Bool}{sn:List Str}{sub:List Value}{ab:Bool}{col:Option Bool}{dd:Option Addr}{k0 k1 k2 k3 k5:Option Value}{newId:String}{mN:Str->Option Value}
theorem y9 {R:Result->Shared->Prop}(hC:h.get? C=some (excClassObj nm q C N bs bm hdct sn sub ab col dd k0 k1 k2 k3 k5 newId))(T:OwnTail h jZ bm)(hx:h.get? a=some o)(hc:o.cls = .ref C)(hq:R (.ok (.ret (.ref C))) ⟨h,g,d,t,os⟩) :
  codeAny (model prog w) A (.call (.builtin "getset_descriptor.__get__") ⟨[.builtin "object.__class__",.ref a,.ref C],[]⟩) R ⟨h,g,d,t,os⟩:=by
 have hT5:(⟨h,g,d,t,os⟩:Shared).TypeIs (.builtin "object.__class__") "getset_descriptor":=F.typeOf_object_class;have hcB:(Value.ref C::bm).contains (.type (".".intercalate ("object.__class__".cutAt '.').dropLast))=true:=by
  rw[F.owner_object_class,gj,T.hasType (show jZ.contains (.type "object")=true by decide)];rfl
 refine codeAny_call_builtin F.slot_gs_get.plain F.entry_gs_get (F.slot_gs_get.check _ _ _ _ _ _ _ _ hT5 (F.args_gs_get _ _ _) ?_)
 repeat (any_goals (first | assumption | (with_reducible refine wpAny_loadPart_at hx ?_;rw[hc]) | (with_reducible refine wpAny_isSubtype_exc hC ?_;rw[hcB]) | wp_step))
 refine⟨Code.quiet_builtin _ (by decide +kernel),codeAny_builtin F.entry_object_class ?_⟩
 repeat (any_goals (first | assumption | (with_reducible refine wpAny_loadPart_at hx ?_;rw[hc]) | wp_step))
theorem vZ {M:Model}{nameV:Value}{Q:Unit->Shared->Prop}(hC:h.get? C=some (excClassObj nm q C N bs bm hdct sn sub ab col dd k0 k1 k2 k3 k5 newId))(T:OwnTail h jZ bm)
  (hx:h.get? a=some o) (hc:o.cls = .ref C) (hq:Q () ⟨h,g,d,t,os⟩):wpAny M A (checkBuiltinCall "BaseException.__getattribute__" ⟨[.ref a,nameV],[]⟩) Q E ⟨h,g,d,t,os⟩:=by
 have hk:builtinKind "BaseException.__getattribute__" = some .slot:=by decide +kernel
 have hsplit:splitId "BaseException.__getattribute__" = some ("BaseException","__getattribute__"):=by decide +kernel
 have hcB:(Value.ref C::bm).contains (.type "BaseException")=true:=by rw[gj,T.hasType (show jZ.contains (.type "BaseException")=true by decide)];rfl
 have ha:=F.args_bexc_ga (.ref a) nameV;simp only[checkBuiltinCall,hk,hsplit];refine wpAny_bind ?_
 ·unfold isInstance
  repeat (first | (with_reducible refine wpAny_loadPart_at hx ?_;rw[hc]) | (with_reducible refine wpAny_isSubtype_exc hC ?_;rw[hcB]) | wp_step)
  exact hq
theorem tP {tk:Tok}{Q:Fin->Shared->Prop}(hC:h.get? C=some (excClassObj nm q C N bs bm hdct sn sub ab col dd k0 k1 k2 k3 k5 newId))(hN:h.Ns N mN)(hmN:∀ n∈nP,mN n=none)(T:OwnTail h jZ bm)(TN:jK h jZ nP bm)
  (hx:h.get? a=some o) (hc:o.cls = .ref C) (hq:Q (.done (.ret (.ref C))) ⟨h,g,d,t,os⟩) :
  wpAny (model prog w) A (Builtin.«object.__getattribute__» ⟨[.ref a,.str "__class__" tk],[]⟩) Q E ⟨h,g,d,t,os⟩:=by
 have hT5:(⟨h,g,d,t,os⟩:Shared).TypeIs (.builtin "object.__class__") "getset_descriptor":=F.typeOf_object_class;have f5:=F.typeOf_object_class;have f6:=F.slot_gs_get.lookup;have f7:=F.slot_gs_set.lookup;have hmA:("__class__" : Str)∈nP:=.tail _ (.tail _ (.head _))
 repeat (any_goals (first | assumption | (with_reducible refine wpAny_loadPart_at hx ?_;rw[hc]) | with_reducible refine ki hmA hC hN hmN TN F.attrBase_ValueError.mro wL ?_ | wp_step))
 refine y9 hC T hx hc ?_
 repeat (any_goals (first | assumption | wp_step))
theorem wH {tk:Tok}{R:Result->Shared->Prop}(hC:h.get? C=some (excClassObj nm q C N bs bm hdct sn sub ab col dd k0 k1 k2 k3 k5 newId))(hN:h.Ns N mN)(hmN:∀ n∈nP,mN n=none)(T:OwnTail h jZ bm)(TN:jK h jZ nP bm)
  (hx:h.get? a=some o) (hc:o.cls = .ref C) (hq:R (.ok (.ret (.ref C))) ⟨h,g,d,t,os⟩) :
  codeAny (model prog w) A (.call (.builtin "BaseException.__getattribute__") ⟨[.ref a,.str "__class__" tk],[]⟩) R ⟨h,g,d,t,os⟩ :=
 codeAny_call_builtin F.attrBase_ValueError.ga.plain F.entry_bexc_ga (vZ hC T hx hc (tP hC hN hmN T TN hx hc hq))
theorem BM {tk:Tok}{fill expr:Bool}{Q:Value->Shared->Prop}(hC:h.get? C=some (excClassObj nm q C N bs bm hdct sn sub ab col dd k0 k1 k2 k3 k5 newId))(hN:h.Ns N mN)(hmN:∀ n∈nP,mN n=none)(T:OwnTail h jZ bm)(TN:jK h jZ nP bm)
  (hx:h.get? a=some o) (hc:o.cls = .ref C) (hq:Q (.ref C) ⟨h,g,d,t,os⟩) :
  wpAny (model prog w) A (getAttrBy (.ref a) (.str "__class__" tk) fill expr) Q E ⟨h,g,d,t,os⟩:=by
 have f3:=F.attrBase_ValueError.ga.bind (.ref a);have hx0:(expr&&onTheHeap (Value.builtin "BaseException.__getattribute__"))=false:=by cases expr<;>rfl
 have hx2:(Value.builtin "BaseException.__getattribute__" == Value.builtin "object.__getattribute__")=false:=by decide +kernel
 have hx1:(onTheHeap (Value.ref C)&&Value.builtin "BaseException.__getattribute__" == Value.builtin "object.__getattribute__")=false:=by rw[hx2];rfl
 have hm1:("__getattribute__" : Str)∈nP:=.head _;have hm2:("__getattr__" : Str)∈nP:=.tail _ (.head _)
 repeat (any_goals (first | assumption | (with_reducible refine wpAny_loadPart_at hx ?_;rw[hc]) | with_reducible refine ki hm1 hC hN hmN TN F.attrBase_ValueError.mro F.attrBase_ValueError.ga.lookup ?_ | with_reducible refine ki hm2 hC hN hmN TN F.attrBase_ValueError.mro F.attrBase_ValueError.noGetattr ?_ | wp_step))
 refine wH hC hN hmN T TN hx hc ?_
 repeat (any_goals (first | assumption | wp_step))
theorem wz {Q:Option Value->Shared->Prop}(hC:h.get? C=some (excClassObj nm q C N bs bm hdct sn sub ab col dd k0 k1 k2 k3 k5 newId))(hN:h.Ns N mN)(hmN:∀ n∈nP,mN n=none)(T:OwnTail h jZ bm)(TN:jK h jZ nP bm)
  (hx:h.get? a=some o) (hc:o.cls = .ref C) (hq:Q (some (.ref C)) ⟨h,g,d,t+1,os⟩):wpAny (model prog w) A (getAttr? (.ref a) "__class__") Q E ⟨h,g,d,t,os⟩:=by
 unfold getAttr? getAttrBy?
 repeat (any_goals (first | assumption | with_reducible apply BM hC hN hmN T TN hx hc | wp_step))
end
section
variable {prog:Program}{w:World}{A:Around}{E:Value->Shared->Prop}{h:Heap}{g:Array GenState}{d:Drawn}{t:Nat}{os:OsState}{a:Addr}{o:Obj}
 {nm q:Str}{C N:Addr}{bs bm:List Value}{hdct:Bool}{sn:List Str}{sub:List Value}{ab:Bool}{col:Option Bool}{dd:Option Addr}{k0 k1 k2 k3 k5:Option Value}{newId:String}{mN:Str->Option Value}
 {nm' q':Str}{C' N':Addr}{bs' bm':List Value}{hdct':Bool}{sn':List Str}{sub':List Value}{ab':Bool}{col':Option Bool}{dd':Option Addr}{j0 j1 j2 j3 j5:Option Value}{newId':String}
theorem t8:isSubtype (.type "type") (.type "type")=pure true:=by rw[isSubtype_type];kernel_rfl
theorem oQ {dep:Int}{tk:Tok}{Q:Fin->Shared->Prop}(hC:h.get? C=some (excClassObj nm q C N bs bm hdct sn sub ab col dd k0 k1 k2 k3 k5 newId))(hN:h.Ns N mN)(hmN:∀ n∈nP,mN n=none)(T:OwnTail h jZ bm)(TN:jK h jZ nP bm)
  (hD:h.get? C'=some (excClassObj nm' q' C' N' bs' bm' hdct' sn' sub' ab' col' dd' j0 j1 j2 j3 j5 newId')) (hx:h.get? a=some o) (hc:o.cls = .ref C)
  (hq:∀ t',Q (.done (.ret (.bool ((Value.ref C::bm).contains (.ref C'))))) ⟨h,g,d,t',os⟩) :
  wpAny (model prog w) A (Builtin.«isinstance.nested» ⟨[.ref a,.ref C',.int dep tk],[]⟩) Q E ⟨h,g,d,t,os⟩:=by
 have f:=t8;by_cases e:(Value.ref C==Value.ref C')=true
 ·have hq1:=hq t;have:(Value.ref C::bm).contains (.ref C')=true:=by
   rw[gj,gh.mp e];simp
  rw[this] at hq1
  repeat (any_goals (first | assumption | (with_reducible refine wpAny_loadPart_at hx ?_;rw[hc]) | wp_step))
 ·have e':(Value.ref C==Value.ref C')=false:=by simpa using e
  cases hb:(Value.ref C::bm).contains (.ref C') with
  |true =>
   have hq1:=hq t;rw[hb] at hq1
   repeat (any_goals (first | assumption | (with_reducible refine wpAny_loadPart_at hx ?_;rw[hc]) | with_reducible refine wpAny_loadPart_at hD ?_ | (with_reducible refine wpAny_isSubtype_exc hC ?_;rw[hb]) | wp_step))
  |false =>
   have hq1:=hq (t+1);rw[hb] at hq1
   repeat (any_goals (first | assumption | (with_reducible refine wpAny_loadPart_at hx ?_;rw[hc]) | with_reducible refine wpAny_loadPart_at hD ?_ | with_reducible refine wpAny_loadPart_at hC ?_ | (with_reducible refine wpAny_isSubtype_exc hC ?_;rw[hb]) | with_reducible apply wz hC hN hmN T TN hx hc | wp_step))
theorem xh {dep:Int}{tk:Tok}{Q:Fin->Shared->Prop}(hC:h.get? C=some (excClassObj nm q C N bs bm hdct sn sub ab col dd k0 k1 k2 k3 k5 newId))(T:OwnTail h jZ bm)
  (hx:h.get? a=some o) (hc:o.cls = .ref C) (hq:Q (.done (.ret (.bool true))) ⟨h,g,d,t,os⟩) :
  wpAny (model prog w) A (Builtin.«isinstance.nested» ⟨[.ref a,.type "ValueError",.int dep tk],[]⟩) Q E ⟨h,g,d,t,os⟩:=by
 have hb:(Value.ref C::bm).contains (.type "ValueError")=true:=by rw[gj,T.hasType (show jZ.contains (.type "ValueError")=true by decide)];rfl
 have hty:typeOf (.type "ValueError")=pure (.type "type"):=by kernel_rfl
 have e':(Value.ref C==Value.type "ValueError")=false:=rfl
 repeat (any_goals (first | assumption | (with_reducible refine wpAny_loadPart_at hx ?_;rw[hc]) | (with_reducible refine wpAny_isSubtype_exc hC ?_;rw[hb]) | wp_step))
end
noncomputable def rW (K:PySem.W.Frag):List Value->Bool
 |[]=>jZ == []
 |v::r=>(v::r)==jZ || match v with
  |.ref A=>(match K.lookup A with
   |some ⟨_,_,.cls cd,_⟩=>PySem.W.nsOkIn K cd.ns&&nP.all (fun n=>PySem.W.nsIn K cd.ns n==some none)&&rW K r
   |_=>false)
  |_=>false
noncomputable def kL (K:PySem.W.Frag)(C:Addr):Bool:=PySem.W.excIn K C jZ "ValueError.__new__" && (match K.lookup C with
 |some ⟨_,_,.cls cd,_⟩=>PySem.W.nsOkIn K cd.ns&&nP.all (fun n=>PySem.W.nsIn K cd.ns n==some none)&&rW K cd.mro.tail
 |_=>false)
noncomputable def dY (K:PySem.W.Frag)(C D:Addr):Bool:=match K.lookup C with
 |some ⟨_,_,.cls cd,_⟩=>cd.mro.contains (.ref D)
 |_=>false
theorem nW {K:PySem.W.Frag}{h:Heap}(kin:K.In h):∀{l:List Value},rW K l=true->jK h jZ nP l
 | [],e=>by
  have e:(jZ==([]:List Value))=true:=e;rw[<-gh.mp e];exact .base
 | v::r,e=>by
  unfold rW at e;rcases Bool.or_eq_true_iff.mp e with q | q
  ·rw[gh.mp q];exact .base
  ·split at q
   ·split at q
    ·rename_i ho;simp only[Bool.and_eq_true,List.all_eq_true,beq_iff_eq] at q;exact .own (kin _ _ ho) (.of_isNs (PySem.W.isNs_of_in kin q.1.1)) (fun n hn=>PySem.W.nsMap_none_of_in kin q.1.1 (q.1.2 n hn)) (nW kin q.2)
    ·cases q
   ·cases q
structure Fc (K:PySem.W.Frag)(h:Heap)(C:Addr)(bm:List Value):Prop where
 ex:∃ nm q N bs hdct sn sub ab col dd k0 k1 k2 k3 k5 mN,h.get? C=some (excClassObj nm q C N bs bm hdct sn sub ab col dd k0 k1 k2 k3 k5 "ValueError.__new__")/\h.Ns N mN/\∀ n∈nP,mN n=none
 tail:OwnTail h jZ bm
 tn:jK h jZ nP bm
 over:∀ D,dY K C D=(Value.ref C::bm).contains (.ref D)
theorem zt {K:PySem.W.Frag}{h:Heap}{C:Addr}(kin:K.In h)(q:kL K C=true):∃ bm,Fc K h C bm:=by
 unfold kL at q;rw[ah] at q;obtain⟨bm,N,nm,qn,bs,hdct,sn,sub,ab,col,dd,k0,k1,k2,k3,k5,mN,hC,hN,hni,T⟩:=jR kin q.1;have q2:=q.2;split at q2
 ·rename_i c0 d0 cd sl ho;simp only[Bool.and_eq_true,List.all_eq_true,beq_iff_eq] at q2;obtain⟨⟨e1,e2⟩,e3⟩:=q2;have hk:=kin _ _ ho;rw[hC] at hk;have hcd:cd.mro = .ref C::bm/\cd.ns=N:=by
   injection hk with hk
   injection hk with _ _ hdat _
   injection hdat with hdat
   subst hdat;exact⟨rfl,rfl⟩
  refine⟨bm,⟨nm,qn,N,bs,hdct,sn,sub,ab,col,dd,k0,k1,k2,k3,k5,mN,hC,hN,fun n hn=>PySem.W.ns_none_of kin hN (by rw[<-hcd.2];exact e2 n hn)⟩,T,?_,fun D=>?_⟩
  ·rw[hcd.1] at e3;exact nW kin e3
  ·unfold dY;rw[ho];show cd.mro.contains (.ref D)=_;rw[hcd.1]
 ·cases q2
noncomputable def lF (K:PySem.W.Frag)(D:Addr):Bool:=match K.lookup D with
 |some ⟨.type "type",_,.cls cd,sl⟩=>(match cd.mro,sl.toList with
  | .ref C'::_,[_,_,_,_,some (.builtin _),_]=>C'==D && !cd.hasDel
  |_,_=>false)
 |_=>false
theorem pQ {K:PySem.W.Frag}{h:Heap}{D:Addr}(kin:K.In h)(q:lF K D=true) :
  ∃ bm N nm qn bs hdct sn sub ab col dd k0 k1 k2 k3 k5 newId,h.get? D=some (excClassObj nm qn D N bs bm hdct sn sub ab col dd k0 k1 k2 k3 k5 newId):=by
 unfold lF at q;split at q
 ·rename_i dd cd sl ho;split at q
  ·rename_i C' bm k0 k1 k2 k3 n k5 hm hs;simp only[Bool.and_eq_true,beq_iff_eq,Bool.not_eq_true'] at q;obtain⟨rfl,hdel⟩:=q;obtain⟨nm,bs,mro,ns,qn,hd,sn,sub,ab,col,del⟩:=cd;dsimp only at hm hdel;subst hm hdel;have hsl:sl = #[k0,k1,k2,k3,some (.builtin n),k5]:=by
    obtain⟨l⟩:=sl;simp only at hs;rw[hs]
   subst hsl;exact⟨bm,ns,nm,qn,bs,hd,sn,sub,ab,col,dd,k0,k1,k2,k3,k5,n,kin _ _ ho⟩
  ·cases q
 ·cases q
def Bj (K:PySem.W.Frag)(C:Addr):Prop:=∀{h:Heap},K.In h->∃ bm,Fc K h C bm
theorem B4 {K:PySem.W.Frag}{C:Addr}(q:kL K C=true):Bj K C:=fun kin=>zt kin q
section
variable {prog:Program}{w:World}{A:Around}{E:Value->Shared->Prop}{K:PySem.W.Frag}
theorem zN {s:Shared}{a C D:Addr}{o:Obj}{Q:Value->Shared->Prop}(kin:K.In s.heap)(qC:Bj K C)(qD:lF K D=true)(hx:s.heap.get? a=some o)(hc:o.cls = .ref C)(hq:∀ t',Q (.bool (dY K C D)) { s with toks:=t' }) :
  wpAny (model prog w) A (call (.builtin "isinstance") [.ref a,.ref D]) Q E s:=by
 obtain⟨bm,FC⟩:=qC kin;obtain⟨nm,q,N,bs,hdct,sn,sub,ab,col,dd,k0,k1,k2,k3,k5,mN,hC,hN,hmN⟩:=FC.ex;obtain⟨bm',N',nm',q',bs',hdct',sn',sub',ab',col',dd',j0,j1,j2,j3,j5,nI,hD⟩:=pQ kin qD;obtain⟨h,g,d,t,os⟩:=s;refine call_isinstance_of (oQ hC hN hmN FC.tail FC.tn hD hx hc fun t'=>?_) (by intro e;cases e);rw[<-FC.over D];exact hq t'
theorem y8 {s:Shared}{a C:Addr}{o:Obj}{Q:Value->Shared->Prop}(kin:K.In s.heap)(qC:Bj K C)(hx:s.heap.get? a=some o)(hc:o.cls = .ref C)(hq:Q (.bool true) s) :
  wpAny (model prog w) A (call (.builtin "isinstance") [.ref a,.type "ValueError"]) Q E s:=by
 obtain⟨bm,FC⟩:=qC kin;obtain⟨nm,q,N,bs,hdct,sn,sub,ab,col,dd,k0,k1,k2,k3,k5,mN,hC,hN,hmN⟩:=FC.ex;obtain⟨h,g,d,t,os⟩:=s;exact call_isinstance_of (xh hC FC.tail hx hc hq) (by intro e;cases e)
theorem x9 {a C D:Addr}{o:Obj}(qC:Bj K C)(qD:lF K D=true)(hc:o.cls = .ref C):Answers (fun s=>K.In s.heap/\s.heap.get? a=some o) (.ref a) (.ref D) (dY K C D):=by
 intro dep tk prog w A R s hs;obtain⟨⟨kin,hx⟩,hq⟩:=hs;obtain⟨bm,FC⟩:=qC kin;obtain⟨nm,q,N,bs,hdct,sn,sub,ab,col,dd,k0,k1,k2,k3,k5,mN,hC,hN,hmN⟩:=FC.ex;obtain⟨bm',N',nm',q',bs',hdct',sn',sub',ab',col',dd',j0,j1,j2,j3,j5,nI,hD⟩:=pQ kin qD;obtain⟨h,g,d,t,os⟩:=s;refine oQ hC hN hmN FC.tail FC.tn hD hx hc fun t'=>?_
 rw[<-FC.over D];exact hq t'
theorem rY {a C:Addr}{o:Obj}(qC:Bj K C)(hc:o.cls = .ref C):∀{Ds:List Addr},(∀ D∈Ds,lF K D=true)->AnswersAll (fun s=>K.In s.heap/\s.heap.get? a=some o) (.ref a) (Ds.map Value.ref) (Ds.map (dY K C))
 |[],_=>trivial
 |D::Ds,h=>⟨x9 qC (h D aq) hc,rY qC hc fun x hx=>h x (ag _ hx)⟩
theorem zE {s:Shared}{a C tp:Addr}{o ot:Obj}{n:Nat}{Ds:List Addr}{Q:Value->Shared->Prop}(kin:K.In s.heap)(qC:Bj K C)(qD:∀ D∈Ds,lF K D=true)(hx:s.heap.get? a=some o)(hc:o.cls = .ref C)
  (ht:s.heap.get? tp=some ot) (htc:ot.cls = .type "tuple") (htd:ot.data = .seq (Ds.map Value.ref).toArray n) (hq:∀ t',Q (.bool ((Ds.map (dY K C)).any id)) { s with toks:=t' }) :
  wpAny (model prog w) A (call (.builtin "isinstance") [.ref a,.ref tp]) Q E s:=by
 refine call_isinstance_of ?_ (by intro e;cases e);obtain⟨h,g,d,t,os⟩:=s;have hT2:(⟨h,g,d,t,os⟩:Shared).TypeIs (.ref tp) "tuple":=⟨_,ht,htc⟩;have f1:=F.isi_sub_tuple;have ne:(Value.ref C==Value.ref tp)=false:=by
  rw[beq_eq_false_iff_ne];intro e;cases e;obtain⟨bm,FC⟩:=qC kin;obtain⟨nm,q,N,bs,hdct,sn,sub,ab,col,dd,k0,k1,k2,k3,k5,mN,hC,hN,hmN⟩:=FC.ex;rw[ht] at hC;cases hC;cases htd
 repeat (any_goals (first | assumption | (with_reducible refine wpAny_loadPart_at hx ?_;rw[hc]) | with_reducible refine wpAny_seqItems ht htd ?_ | wp_step))
 refine wpAny_arrayLoop ?_;simp only[Option.getD_some,List.toList_toArray];refine isinstance_items (dep:=0) (P:=fun s=>K.In s.heap/\s.heap.get? a=some o) (fun s tk h=>h) (Ds.map Value.ref) (Ds.map (dY K C)) _ _ (rY qC hc qD) ⟨kin,hx⟩ fun tk'=>?_
 cases hv:(Ds.map (dY K C)).any id with
 |true =>
  simp only[if_true]
  repeat (any_goals (first | assumption | wp_step))
  exact hv ▸ hq tk'
 |false =>
  simp only[Bool.false_eq_true,if_false]
  repeat (any_goals (first | assumption | wp_step))
  exact hv ▸ hq tk'
end
section
variable {X:Cx}{pins:List (Addr×Obj)}{σ:L2.St}{H:Hp}{s:Shared}{D:Ends}{k:Nat}{f:Addr}{fd:FuncData}{ps:List Str}{sp:Sp}{dvs:List V}{ds:List Value}{W:Value->Hp->Prop}
end
section
variable {X:Cx}{a C:Addr}{o:Obj}
def EU (K:PySem.W.Frag)(a C:Addr):List V->Hp->VK->Prop:=fun xs H Q =>
 (∃ D,xs=[.ref a,.ref D]/\lF K D=true/\Q (.bl (dY K C D)) H)\/(xs=[.ref a,.ty "ValueError"]/\Q (.bl true) H) \/
  ∃(p:Addr) (Ds:List Addr),xs=[.ref a,.ref p]/\H p=some (.tup (Ds.map V.ref))/\(∀ D∈Ds,lF K D=true)/\Q (.bl ((Ds.map (dY K C)).any id)) H
theorem l9:∀{Ds:List Addr}{us:List Value},aL (Ds.map V.ref) us->us=Ds.map Value.ref
 |[],_,.nil=>rfl
 | D::Ds,_,.cons r v=>by
  rw[l9 v];have r:_=Value.ref D:=r;rw[r];rfl
end
def Df.Bd (d:Df):Prop:=∀(kV doc pm:Value) (an:Option Addr) (cdv ct:Value) (us:List Value),us.length=d.ps.length->bindArgs (PySem.W.fnOf d.nm d.nm (dP d.st) (bL d.st) (aH d.st) .none kV doc pm an cdv ct) ⟨us,[]⟩=pure (d.ps.zip us)
def Df.OkX (p:Pg)(fo:List Str)(d:Df):Prop:=d.Ok p\/(d.Bd/\d.nm∈fo)
theorem Df.OkX.bd {p:Pg}{fo:List Str}{d:Df}(h:d.OkX p fo):d.Bd:=by
 rcases h with h | h
 ·exact h.bd
 ·exact h.1
theorem iO {p:Pg}{d:Df}{n:Nat}(h:d.okB p n=true):cW d.N d.ps (aH d.st):=by
 unfold Df.okB at h;simp only[Bool.and_eq_true,decide_eq_true_eq,Bool.not_eq_true',List.all_eq_true] at h;obtain⟨⟨⟨⟨⟨⟨h1,h2⟩,h3⟩,h4⟩,h5⟩,h6⟩,h7⟩:=h;exact⟨h1,h2,h3,h4,h5,fun x hx=>iJ (h6 x hx),h7⟩
section
variable {p:Pg}{P:Program}{w:World}{K:Frag}{mg:Str->Option Value}{base:Heap}
def r8 (p:Pg)(P:Program)(w:World)(K:Frag)(mg:Str->Option Value)(base:Heap)(n:Nat):Prop:=∀(i:Nat) (d:Df),p.dfs[i]? = some d->∀ f fd,L2.ur K d.nm d.nm d.st f fd->iP P w K mg base uw n f fd d.ps (zH K d.ps.length (p.run n i))
def mO (p:Pg)(fo:List Str)(P:Program)(w:World)(K:Frag)(mg:Str->Option Value)(base:Heap):Prop:=∀(n i:Nat) (d:Df),p.dfs[i]? = some d->d.nm∈fo->r8 p P w K mg base n->∀ f fd,L2.ur K d.nm d.nm d.st f fd->iP P w K mg base uw (n+1) f fd d.ps (zH K d.ps.length (p.run (n+1) i))
theorem xQ {fo:List Str}(hp:∀ d∈p.dfs,d.OkX p fo)(hi:p.In K mg)(hh:xM w K)(hf:mO p fo P w K mg base):∀ n,r8 p P w K mg base n:=by
 intro n
 induction n with
 |zero =>
  intro i d hd f fd F;refine⟨fun vs H Q E h=>mV h,fun A outer s H args us vs Q E hr he hb hv hs=>?_⟩;obtain⟨ds,G,_,_,r,h,_⟩:=hs;cases h
 |succ n ih =>
  intro i d hd f fd F;rcases hp d (List.mem_of_getElem? hd) with ⟨⟨m,hb⟩,S,_⟩ | ⟨_,hn⟩
  rotate_left
  ·exact hf n i d hd hn ih f fd F
  refine F.ok S (fun vs H Q E h=>mV h) fun cdv A outer s H vs Q E hr hs=>?_
  have C:pK (eN uw P w K mg base d.N d.nm (aH d.st) f cdv A outer s H E).nox (p.sc d) ⟨p.run n,p.gl,p.fuel⟩:=by
   refine⟨⟨rfl,S.nd,fun x h=>pZ h,fun x h=>⟨iJ h,.inl rfl⟩,fun x h=>rZ h,fun x h=>h,?_,rfl,fun j x hj=>?_,fun j x hj=>hi.gl j x hj,fun x h=>hi.blt x h⟩,rfl,S.kind,PassesOwn.never⟩
   ·exact⟨Nat.lt_of_le_of_lt (Nat.add_le_add_left (by decide:40<=64) _) hr.units,hh⟩
   ·obtain⟨e,he,hx⟩:=lU hj;obtain⟨f',fd',F',M'⟩:=hi.fn j e he;have B':=F'.binds (hp e (List.mem_of_getElem? he)).bd;subst hx;refine⟨f',fd',e.ps,n,ih j e he f' fd' F',hr,M',F'.kp,B',fun ds r h=>?_⟩;have h:p.run n j ds = .ok r:=h;cases n with
    |zero=>cases h
    |succ n =>
     unfold Pg.run Pc.run at h;have:p.fns[j]? = some ⟨e.ps.length,e.N.length,e.body⟩:=by unfold Pg.fns;rw[List.getElem?_map,he];rfl
     rw[this] at h;dsimp only at h;by_cases hl:ds.length=e.ps.length
     ·exact hl
     ·rw[if_neg hl] at h;cases h
  refine⟨_,(z7 C m).2 _ _ hb,?_⟩;obtain⟨ds,G,hl,rs,r,hrun,k⟩:=hs;unfold Pg.run Pc.run at hrun;have:p.fns[i]? = some ⟨d.ps.length,d.N.length,d.body⟩:=by unfold Pg.fns;rw[List.getElem?_map,hd];rfl
  rw[this] at hrun;dsimp only at hrun;rw[if_pos hl] at hrun;have hN:ds.length<=d.N.length:=by
   rw[hl,<-S.pre,eo];exact Nat.min_le_right _ _
  obtain⟨F0,re,hF⟩:=entry rs hN;refine⟨fun a=>H a≠none,fun a=>H a=none\/a∈G,aD ds d.N.length,F0,re,fun j a ha=>.inr (hF j a ha),fun a h=>.inl (Classical.not_not.mp h),?_⟩;show post K _ _ _ _ H _ (aC ⟨p.run n,p.gl,p.fuel⟩ d.body (aD ds d.N.length));have hrun:(match aC ⟨p.run n,p.gl,p.fuel⟩ d.body (aD ds d.N.length) with
   |.rt d fr=>Rs.ok (d,fr)
   |.nx _=>.ok (.non,true)
   |.xc e _=>.exc e
   |_=>.bad) = .ok r:=hrun
  cases hq:aC ⟨p.run n,p.gl,p.fuel⟩ d.body (aD ds d.N.length) with
  |rt dd fr =>
   rw[hq] at hrun;cases hrun;intro v H' G' rp ev z fz;exact k v H' G' (iI ev) rp z fun hf=>let ⟨a,b⟩:=fz hf;⟨a,fun x hx=>⟨Classical.not_not.mp (b x hx).1,(b x hx).2⟩⟩
  |nx e =>
   rw[hq] at hrun;cases hrun;intro σ' H' F' af;exact k .non H' [] (iI af.ev) .non (fun _ h=>(nomatch h)) fun _=>⟨cy,fun _ h=>(nomatch h)⟩
  |bk e=>rw[hq] at hrun;cases hrun
  |ct e=>rw[hq] at hrun;cases hrun
  |xc e e'=>rw[hq] at hrun;cases hrun
  |bad=>rw[hq] at hrun;cases hrun
end
theorem E4 {l:PySem.W.OpenLaw}{q:Program}{loose:List Str}{XP:(Str->Option Value)->Heap->Prop}{YP:World->Heap->Prop}{d:DefRec}{K:Params->PySem.W.Frag}(p:Pg)(fo:List Str)(n i:Nat)(x:Str)(e:Df)(hn:l.most=some 63)(hdf:d.params.defaults=[])
  (hY:∀(w:World) (h:Heap),YP w h->(K w.params).In h/\(K w.params).lookup L2.jP=none/\h.get? L2.jP=some L2.jO/\isCodeTable h L2.jP) (hd:p.dfs[i]? = some e) (hps:e.ps=[x]) (hnm:d.name=e.nm) (hr:eM n callerA) (ok:rl (Df.OkX p fo) p.dfs) (st:∀ w:World,qF p (K w.params)) (hL:∀ w:World,noL (K w.params)=true) (hH:∀ w:World,xM w (K w.params))
  (hf:∀(w:World) (mg:Str->Option Value) (h base:Heap),(K w.params).In h->h.Ns mainGlobals mg->p.In (K w.params) mg->mO p fo l.prog w (K w.params) mg base)
  (law:∀ ns:List Int,ns.length<=63->∃ fr,p.run n i [.lst (ns.map D.int)] = .ok (.bl true,fr)) :
  PySem.W.WalkO q loose XP YP l.row.toRowW d [] (fun f vs=>PySem.call f vs):=by
 refine L2.yY (n:=63) (k:=n) (x:=x) (CX:=fun _=>uw) (sp:=fun w=>zH (K w.params) 1 (p.run n i)) hn (by decide) hdf hr hY (fun w mg fa h KX G hm=>?_) (fun w H a ns hl _ hS=>?_) fun _ _ _ _ _ z=>z
 ·have I:=(st w).isin KX G;obtain⟨f,fd,F,m⟩:=I.fn i e hd;rw[hnm,m] at hm;obtain rfl:f=fa:=by cases hm;rfl
  refine⟨fd,fun s u=>?_,fun base kb nb=>?_⟩
  ·obtain⟨oc,od,kV,doc,pm,an,cdv,ct,osl,rfl,lk,hcd⟩:=F.ex;have:=(eB ok e (List.mem_of_getElem? hd)).bd kV doc pm an cdv ct [u] (by rw[hps];rfl);rw[hps] at this;exact .of_eq this
  ·have:=xQ (P:=l.prog) (w:=w) (base:=base) (eB ok) I (hH w) (hf w mg h base KX G I) n i e hd f fd F;rw[hps] at this;exact this
 ·obtain⟨fr,h⟩:=law ns hl;exact Ci (hL w) hS h
def Cls (K:Frag)(x:Str)(C:Addr):Prop:=PySem.W.nsIn K mainGlobals x=some (some (.ref C))/\kL K C=true
theorem nM {K:Frag}{C:Addr}(h:kL K C=true):PySem.W.excIn K C jZ "ValueError.__new__" = true:=by
 unfold kL at h;rw[ah] at h;exact h.1
theorem u6 {K:Frag}{C D:Addr}(h:kL K C=true)(o:dY K C D=true):xB K C D:=by
 unfold dY at o;split at o
 ·rename_i c0 dd cd sl hl;exact⟨_,_,cd,c0,dd,sl,nM h,hl,o⟩
 ·cases o
structure lj (k:Nat)(A:Around):Prop where
 hd:A.handled=none
 dp:A.depth+3*k+6<recursionLimit
 un:A.units+16*k+203<cLine
theorem lj.of {k:Nat}{A:Around}(r:eM (k+1) A)(env:Env):lj k (A.deeper env) :=
 ⟨r.hd,by have:=r.dp;show A.depth+1+3*k+6<_;omega,by have:=r.un;show A.units+3+16*k+203<_;omega⟩
theorem lj.deeper {k:Nat}{A:Around}(r:lj k A)(env:Env):eM k (A.deeper env) :=
 ⟨r.hd,by have:=r.dp;show A.depth+1+3*k+5<_;omega,by have:=r.un;show A.units+3+16*k+200<_;omega⟩
structure kR (P:Program)(w:World)(K:PySem.W.Frag)(mg:Str->Option Value)(base:Heap)(CX:qb)(RP:Around->Prop)(f:Addr)(fd:FuncData)(ps:List Str)(sp:Sp):Prop where
 len:∀ vs H Q E,sp vs H Q E->vs.length=ps.length
 run:∀(A:Around) (outer:List Env) (s:Shared) (H:Hp) (args:PySem.Args) (us:List Value) (vs:List V) (Q:VK) (E:XK),RP A->vv P w K mg base A outer s H->BindsTo s fd args (ps.zip us)->aL vs us->sp vs H Q E ->
  codeAny (model P w) A (.call (.ref f) args) (CR CX outer P w H s Q E) s
section
variable {P:Program}{w:World}{K:PySem.W.Frag}{mg:Str->Option Value}{base:Heap}{f:Addr}{fd:FuncData}{ps N:List Str}{sp:Sp}
theorem kR.plain {CX:qb}{k:Nat}(F:kR P w K mg base CX (eM k) f fd ps sp):iP P w K mg base CX k f fd ps sp:=⟨F.len,F.run⟩
theorem wO {CX:qb}{RP:Around->Prop}{x qual:Str}{st:Stmt}(F:L2.ur K x qual st f fd)(S:cW N ps (aH st))(hRP:∀ A,RP A->A.handled=none/\A.depth<recursionLimit)(len:∀ vs H Q E,sp vs H Q E->vs.length=ps.length)
  (hbody:∀(cdv:Value) (A:Around) (outer:List Env) (s:Shared) (H:Hp) (vs:List V) (Q:VK) (E:XK),RP A->sp vs H Q E ->
   ∃ t,iG (eN CX P w K mg base N qual (aH st) f cdv A outer s H E) (bL st) t/\t { nx:=fun _ H'=>Q .non H',rt:=Q } (L2.start N vs) H):kR P w K mg base CX RP f fd ps sp:=by
 obtain⟨oc,od,kV,doc,pm,an,cdv,ct,osl,rfl,lk,hcd⟩:=F.ex;refine⟨len,fun A outer s H args us vs Q E hr e0 hb r hsp=>?_⟩;have hl:=len _ _ _ _ hsp;have KX:K.In s.heap:=e0.mod.kin.keeps fun b o e=>(e0.bs b o e).1
 have lim:s.heap.NoLimit:=e0.mod.nolimit.keeps fun b o e=>(e0.bs b o e).1
 have hkind:∀ y∈ps.zip us,(aH st).names.lookup y.1=some .local\/((aH st).names.lookup y.1=some .cell/\((cellsFrom (s.heap.objs.size+1) (aH st).names []).lookup y.1).isSome=true):=fun ⟨n,v⟩ hy=>by
  rcases S.par n (i7 hy).1 with q | q
  ·exact .inl q
  ·exact .inr ⟨q,iz _ _ _ (.inl q)⟩
 refine codeAny_call_function (hRP A hr).2 (KX _ _ lk) rfl S.co S.gen rfl (PySem.W.codeRec_of KX hcd) (hb _ _ _ _ ?_);refine wpAny_newFunctionEnv_cells S.kind hkind fun env he s1 x=>?_
 subst he;refine⟨lim.keeps x.toInCall.keep,codeAny_func ?_⟩;obtain⟨t,ht,hq⟩:=hbody cdv A outer s H vs Q E hr hsp;have I:Inv (eN CX P w K mg base N qual (aH st) f cdv A outer s H E) [] (L2.start N vs) H s1:=lG S (hRP A hr).1 e0 hl r x;refine wpAny_mono (ht [] s1 (L2.start N vs) H _ I hq) (fun fl s' hs=>?_) fun e s' hs=>hs
 have fin:∀{σ':L2.St}{H':Hp}{v:V}{u:Value},Inv (eN CX P w K mg base N qual (aH st) f cdv A outer s H E) [] σ' H' s'->RelV v u->Q v H'->CE outer P w H s Q u s' :=
  fun {σ' H' v u} J rv q=>⟨v,H',J.os,J.bare,J.base,J.hok,rv,q⟩
 cases fl with
 |ret u =>
  obtain⟨v,σ',H',J,rv,q⟩:=hs;exact fin J rv q
 |next =>
  obtain⟨σ',H',J,q⟩:=hs;exact fin (v:=V.non) (u:=Value.none) J rfl q
 |brk =>
  obtain⟨_,_,_,q⟩:=hs;exact False.elim q
 |cont =>
  obtain⟨_,_,_,q⟩:=hs;exact False.elim q
end
section
variable {X:Cx}{pins:List (Addr×Obj)}{σ:L2.St}{H:Hp}{s:Shared}{D:Ends}{RP:Around->Prop}{f:Addr}{fd:FuncData}{ps:List Str}{sp:Sp}{dvs:List V}{ds:List Value}{W:Value->Hp->Prop}
theorem zb {Q:VK}{us:List Value}{vs:List V}(F:kR X.prog X.w X.K X.mg X.base (xN X.prog X.w) RP f fd ps sp)(hr:RP X.A)(hb:Binds X.K fd ps ds)(hd:aL dvs ds)
  (I:Inv X pins σ H s) (r:aL vs us) (h:sp (vs++dvs) H Q (fun C _ H'=>W C H')):wpAny (model X.prog X.w) X.A (call (.ref f) us) (EP X pins σ Q) (kM X pins σ W) s:=by
 have r2:aL (vs++dvs) (us++ds):=r.append hd;have hl:(us++ds).length=ps.length:=by rw[<-r2.length];exact F.len _ _ _ _ h
 refine wpAny_call (codeAny_mono (F.run X.A X.stack s H ⟨us,[]⟩ (us++ds) (vs++dvs) Q _ hr I.env0 (hb s us I.kIn hl) r2 h) fun r s' hq=>?_);cases r with
 |error e =>
  have hq:xN X.prog X.w X.stack H s (fun C _ H'=>W C H') e s':=hq;obtain⟨a,C,a0,H',B,e1,e2,e3,e4,e5,e6⟩:=B8 (X:=X) hq;exact⟨H,s,a,C,a0,H',B,I,e1,e2,e3,e4,e5,e6⟩
 |ok fl =>
  cases fl with
  |ret u=>exact I.after hq
  |next=>exact False.elim hq
  |brk=>exact False.elim hq
  |cont=>exact False.elim hq
theorem tV {x:Str}{p pos:Pos}{e:Expr}{es:List Expr}{t:TA}{Q:VK}(F:kR X.prog X.w X.K X.mg X.base (xN X.prog X.w) RP f fd ps sp)(hr:RP X.A)(hg:Gl X x)(hm:X.mg x=some (.ref f))(hk:PySem.W.keepIn X.K (.ref f)=true)(hb:Binds X.K fd ps ds)(hd:aL dvs ds)
  (I:Inv X pins σ H s) (ha:PA X.nox (e::es) t) (h:t σ H fun vs H1=>sp (vs++dvs) H1 Q (fun C _ H'=>W C H')) (hdb:(x==("__debug__" : Str))=false:=by decide)
  (he:starEach (e::es) X.env=(false,eval e X.env)::starEach es X.env:=by rfl) (hpl:(backTo pos (starEach es X.env)).any (·.1)=false:=by rfl) :
  wpAny (model X.prog X.w) X.A (eval (.Call (.Name x p) (e::es) [] pos) X.env) (EP X pins σ Q) (kM X pins σ W) s:=by
 refine wpAny_Call_Name_kw (gW I hg hm ?_ hdb);refine PySem.W.callWith_K (h₀:=X.base) I.ok.mod.kin hk (wpAny_mono (ha pos pins s σ H _ (I.wish _) h) (fun us s1 ⟨vs,H1,I1,r,q⟩=>⟨I1.unwish.kIn,?_⟩) fun _ _ z=>False.elim z) he hpl;exact zb F hr hb hd I1.unwish r q
end
section
variable {X:Cx}{S:Sc}{T:Tb}
theorem PS.nox {st:Stmt}{t:TS}(h:PS X.nox st t):PS X st t:=fun pins s σ H D I hw=>by
 have:=h pins s σ H D (I.wish _) hw;refine wpAny_mono this (fun f s1 q=>?_) fun _ _ z=>z.elim
 cases f with
 |next=>obtain⟨σ',H',J,q⟩:=q;exact⟨σ',H',J.unwish,q⟩
 |brk=>obtain⟨σ',H',J,q⟩:=q;exact⟨σ',H',J.unwish,q⟩
 |cont=>obtain⟨σ',H',J,q⟩:=q;exact⟨σ',H',J.unwish,q⟩
 |ret u=>obtain⟨v,σ',H',J,r,q⟩:=q;exact⟨v,σ',H',J.unwish,r,q⟩
def DY (K:Frag)(T:Tb)(cs:bW)(u:TS):TS:=fun D σ H=>∃ P Z env F,RE K P env σ H F/\(∀ i,∀ a∈F i,Z a)/\(∀ a,¬ P a->Z a)/\post K P Z env F H { D with nx:=u D } (aC T cs env)
theorem oj {rest:List Stmt}{u:TS}(C:pK X.nox S T)(hu:iG X rest u):∀(m:Nat) (l:List Stmt) (cs:bW),qc m S l=some cs->iG X (l++rest) (DY X.K T cs u)
 |0,l,cs,h=>by cases h
 | m+1,[],cs,h=>by
  cases h;refine i9 hu fun D σ H ⟨P,Z,env,F,re,hz,zp,h⟩=>?_
  unfold aC at h;exact h σ H F (After.same re hz (aE.refl _))
 | m+1,st::l,cs,h=>by
  have h:((cS m S st).bind fun c=>(qc m S l).map fun r=>bW.cons c r)=some cs:=h;obtain⟨c,h1,h⟩:=ae.mp h;obtain⟨r,h2,rfl⟩:=aa.mp h;refine i9 (gK (PS.nox ((z7 C m).1 _ _ h1)) (oj C hu m l r h2)) fun D σ H ⟨P,Z,env,F,re,hz,zp,h⟩=>⟨P,Z,env,F,re,hz,zp,?_⟩
  unfold aC at h;cases hs:aT T c env with
  |nx env' =>
   rw[hs] at h;exact fun σ' H' F' af=>⟨P,Z,env',F',af.re,af.z,zp,post.trans af h⟩
  |bk env'=>rw[hs] at h;exact h
  |ct env'=>rw[hs] at h;exact h
  |rt d fr=>rw[hs] at h;exact h
  |xc e env'=>rw[hs] at h;exact h
  |bad=>rw[hs] at h;exact h
end
section
variable {p:Pg}{P:Program}{w:World}{K:Frag}{mg:Str->Option Value}{base:Heap}
theorem AY {fo:List Str}{n:Nat}{CX:qb}{N:List Str}{nm:Str}{sc:Scope}{ps:List Str}{f:Addr}{cdv:Value}{A:Around}{outer:List Env}{s:Shared}{H:Hp}{E:XK}(hp:∀ d∈p.dfs,d.OkX p fo)(hi:p.In K mg)(hh:xM w K)(ih:r8 p P w K mg base n)(S:cW N ps sc)
  (hr:eM n (A.deeper (envOfC nm sc s.heap.objs.size f cdv))):pK (eN CX P w K mg base N nm sc f cdv A outer s H E).nox ⟨N,sc,p.dfs.map (·.nm),p.qB,p.dS⟩ ⟨p.run n,p.gl,p.fuel⟩:=by
 refine⟨⟨rfl,S.nd,fun x h=>pZ h,fun x h=>⟨iJ h,.inl rfl⟩,fun x h=>rZ h,fun x h=>h,?_,rfl,fun j x hj=>?_,fun j x hj=>hi.gl j x hj,fun x h=>hi.blt x h⟩,rfl,S.kind,PassesOwn.never⟩
 ·exact⟨Nat.lt_of_le_of_lt (Nat.add_le_add_left (by decide:40<=64) _) hr.units,hh⟩
 ·obtain⟨e,he,hx⟩:=lU hj;obtain⟨f',fd',F',M'⟩:=hi.fn j e he;have B':=F'.binds (hp e (List.mem_of_getElem? he)).bd;subst hx;refine⟨f',fd',e.ps,n,ih j e he f' fd' F',hr,M',F'.kp,B',fun ds r h=>?_⟩;have h:p.run n j ds = .ok r:=h;cases n with
  |zero=>cases h
  |succ n =>
   unfold Pg.run Pc.run at h;have:p.fns[j]? = some ⟨e.ps.length,e.N.length,e.body⟩:=by unfold Pg.fns;rw[List.getElem?_map,he];rfl
   rw[this] at h;dsimp only at h;by_cases hl:ds.length=e.ps.length
   ·exact hl
   ·rw[if_neg hl] at h;cases h
def spR (K:Frag)(n:Nat)(C:Addr)(f:List D->Fl):Sp:=fun vs H Q E=>∃ ds G,ds.length=n/\aG K H ds vs G/\(match f ds with
 |.rt d fr=>∀ v H' G',aE H H'->Rep K H' d v G'->(∀ a∈G',H a=none\/a∈G)->(fr=true->G'.Nodup/\∀ a∈G',H a=none/\∃ vs:ML,H' a=some vs.o)->Q v H'
 |.nx _=>∀ H',aE H H'->E (.ref C) none H'
 |_=>False)
theorem zg {n:Nat}{C:Addr}{f:List D->Fl}{vs:List V}{H:Hp}{Q:VK}{E:XK}(h:spR K n C f vs H Q E):vs.length=n:=by
 obtain⟨ds,G,h1,h2,_⟩:=h;rw[<-h1,h2.len]
theorem raiser {fo:List Str}{n m:Nat}{d:Df}{l rest:List Stmt}{cs:bW}{C f:Addr}{fd:FuncData}(hp:∀ d∈p.dfs,d.OkX p fo)(hi:p.In K mg)(hh:xM w K)(ih:r8 p P w K mg base n)(S:cW d.N d.ps (aH d.st))(F:L2.ur K d.nm d.nm d.st f fd)
  (hl:bL d.st=l++rest) (hc:qc m (p.sc d) l=some cs)
  (hu:∀(cdv:Value) (A:Around) (outer:List Env) (s:Shared) (H:Hp) (E:XK),iG (eN (xN P w) P w K mg base d.N d.nm (aH d.st) f cdv A outer s H E) rest (fun D σ H'=>E (.ref C) none H')) :
  kR P w K mg base (xN P w) (lj n) f fd d.ps (spR K d.ps.length C fun ds=>aC ⟨p.run n,p.gl,p.fuel⟩ cs (aD ds d.N.length)):=by
 refine wO F S (fun A r=>⟨r.hd,by have:=r.dp;omega⟩) (fun vs H Q E h=>zg h) fun cdv A outer s H vs Q E hr hs=>?_
 refine⟨_,by rw[hl];exact oj (AY hp hi hh ih S (hr.deeper _)) (hu cdv A outer s H E) m l cs hc,?_⟩;obtain⟨ds,G,hlen,rs,k⟩:=hs;dsimp only at k;have hN:ds.length<=d.N.length:=by
  rw[hlen,<-S.pre,eo];exact Nat.min_le_right _ _
 obtain⟨F0,re,hF⟩:=entry rs hN;refine⟨fun a=>H a≠none,fun a=>H a=none\/a∈G,aD ds d.N.length,F0,re,fun j a ha=>.inr (hF j a ha),fun a h=>.inl (Classical.not_not.mp h),?_⟩;show post K _ _ _ _ H _ (aC ⟨p.run n,p.gl,p.fuel⟩ cs (aD ds d.N.length));cases hq:aC ⟨p.run n,p.gl,p.fuel⟩ cs (aD ds d.N.length) with
 |rt dd fr =>
  rw[hq] at k;intro v H' G' rp ev z fz;exact k v H' G' (iI ev) rp z fun hf=>let ⟨a,b⟩:=fz hf;⟨a,fun x hx=>⟨Classical.not_not.mp (b x hx).1,(b x hx).2⟩⟩
 |nx e =>
  rw[hq] at k;intro σ' H' F' af;exact k H' (iI af.ev)
 |bk e=>rw[hq] at k;exact k.elim
 |ct e=>rw[hq] at k;exact k.elim
 |xc e e'=>rw[hq] at k;exact k.elim
 |bad=>rw[hq] at k;exact k.elim
end
section
variable {X:Cx}{pins:List (Addr×Obj)}{σ:L2.St}{H:Hp}{s:Shared}{D:Ends}{W:Value->Hp->Prop}
theorem zj {i:Nat}{x:Str}{e:Expr}{pos pos':Pos}{Q:VK}(hN:X.N.Nodup)(hi:X.N[i]? = some x)(hx:Loc X.env.scope x)(I:Inv X pins σ H s)(h:wpAny (model X.prog X.w) X.A (eval e X.env) (EP X pins σ Q) (kM X pins σ W) s)(hq:∀ v H',Q v H'->D.nx (σ.set i (some v)) H')
  (hs:swapsWith e (some (.Name x pos')) pos.line X.env=pure false:=by rfl) (hf:X.fn x=true\/X.env.scope.names.lookup x=some .local:=by first | exact .inl rfl | exact .inr rfl | assumption) :
  wpAny (model X.prog X.w) X.A (execs [.Assign [.Name x pos'] e pos] X.env) (SP X pins D) (kM X pins σ W) s:=by
 refine wpAny_execs_cons (wpAny_mono (Q:=SP X pins D) (wpAny_Assign_Name (cC h fun v s1 ⟨y,H1,I1,r1,q1⟩=>fM I1 hN hi hx r1 (fun s2 I2=>⟨_,H1,I2,hq _ _ q1⟩) hf) hs) (fun f s1 q=>?_) fun _ _ z=>z);cases f with
 |next=>exact wpAny_execs_nil q
 |ret v=>exact q
 |brk=>exact q
 |cont=>exact q
end
section
variable {X:Cx}{pins:List (Addr×Obj)}{σ:L2.St}{H:Hp}{s:Shared}{D:Ends}
noncomputable abbrev CD (X:Cx)(a:Addr)(o:Obj):Cx:={ X with pn:=(a,o)::X.pn }
theorem qE {a:Addr}{o:Obj}(I:Inv (pL X a o) pins σ H s)(ok:X.Ok):Inv (CD X a o) pins σ H s :=
 ⟨⟨ok.mod,ok.kind,ok.glob,ok.blt,ok.above,ok.inj,ok.has,ok.cab,ok.hd,ok.frames,ok.stk,ok.exf,ok.bs,ok.bsz,ok.noex,ok.exfs,ok.funs,ok.frf,ok.jt⟩,I.os,I.bare,I.base,I.loc,I.cell,I.free,I.freeC,I.pin,I.hok,I.len⟩
variable {a C:Addr}{o:Obj}
end
end Pc
end
section
namespace Pc
open PySem PySem.Spec PyProof.Rows L2 Tm
theorem pM {a b:Int}{t u:Tok}{c:Value}(l:List Value)(h:TriplesOk l):TriplesOk (l ++ [.int a t,.int b u,c]):=by
 fun_induction TriplesOk l with
 |case1=>trivial
 |case2 _ _ _ _ _ _ ih=>exact ih h
 |case3=>exact False.elim h
theorem uH {p:Pos}{cv c:Value}{a b:Int}{t u:Tok}(l:List Value)(h:TriplesOk l)(q:codeAmong p (l ++ [.int a t,.int b u,c])=some cv):codeAmong p l=some cv\/cv=c:=by
 fun_induction TriplesOk l with
 |case1 =>
  have q:(if (a==(p.line:Int)&&b==(p.col:Int))=true then some c else none)=some cv:=q;split at q
  ·cases q;exact .inr rfl
  ·cases q
 |case2 i _ j _ z r ih =>
  have q:(if (i==(p.line:Int)&&j==(p.col:Int))=true then some z else codeAmong p (r ++ [.int a t,.int b u,c]))=some cv:=q;show (if (i==(p.line:Int)&&j==(p.col:Int))=true then some z else codeAmong p r)=some cv\/cv=c;split at q
  ·rw[if_pos ‹_›];exact .inl q
  ·rw[if_neg ‹_›];exact ih h q
 |case3=>exact False.elim h
section
variable {X:Cx}{pins:List (Addr×Obj)}{σ:L2.St}{H:Hp}{s:Shared}
theorem Inv.jt (I:Inv X pins σ H s):JT H:=I.base.frzs _ _ _ I.ok.jt
theorem zI {h':Heap}{c:Addr}{ps:Array Value}{a b:Int}{t u:Tok}{tk:Nat}(I:Inv X pins σ H s)(hx:∀ b o,b≠jP->s.heap.get? b=some o->h'.get? b=some o)(hc:s.heap.objs.size<=c)(hP:s.heap.get? jP=some { cls:=.none,data:=.fields ps })(hT:xl H s.heap jP)
  (hP':h'.get? jP=some { cls:=.none,data:=.fields (ps ++ #[.int a t,.int b u,.ref c]) }) (hr:h'.CodeRec (.ref c) jQ):Inv X pins σ (upd H c (.own jP)) { s with heap:=h',toks:=tk }:=by
 have hJ:JT H:=Inv.jt I;have hn:H c=none:=I.hok.fresh hc;have nc:∀ b o,s.heap.get? b=some o->b≠c:=fun b o e=>bh (av (Heap.lt_size e) hc)
 have nj:∀ b,H b=none->b≠jP:=fun b e z=>by rw[z,hJ] at e;cases e
 refine I.step (g':=s.gens) (d':=s.drawn) (ch:=[]) (fun b hb=>nomatch hb) (fun b o' _ _ _ e n=>hx b o' (nj b n) e) (fun b o' _ _ _ e n=>⟨o'.slots,hx b o' (nj b n) e⟩) (fun b o' _ e n=>by rw[aF (nc b o' e)];exact n) (fun b o' _ e=>?_)
  (fun b xs e=>by rw[aF (aS e hn)];exact e) (fun b ob u e=>by rw[aF (aS e hn)];exact e) (fun b ps e=>⟨#[],by rw[aF (aS e hn),e];simp⟩) (fun m' hm=>?_) (fun b v e=>?_) I.bare
 ·by_cases hb:b=jP
  ·exact⟨_,hb ▸ hP'⟩
  ·exact⟨o',hx b o' hb e⟩
 ·obtain⟨o1,es,ep,e1,e2⟩:=hm;exact⟨o1,es,ep,hx _ _ (nj _ I.free) e1,e2⟩
 ·by_cases hb:b=c
  ·subst hb;rw[aK] at e;cases e;obtain⟨c',oc,vs,t,e3,e4,e5⟩:=hr;cases e3;exact⟨oc,e4⟩
  ·rw[aF hb] at e;by_cases hj:b=jP
   ·subst hj;rw[hJ] at e;cases e;obtain⟨ps',e1,e2,e3⟩:=hT;rw[hP] at e1;cases e1;refine⟨trivial,_,hP',?_,fun p cv q=>?_⟩
    ·rw[de];exact pM _ e2
    ·rw[de] at q;rcases uH _ e2 q with q | rfl
     ·obtain⟨d,rfl,d2,d',od,vs,t,f1,f2,f3⟩:=e3 p cv q;cases f1;exact⟨d,rfl,by rw[aF (aS d2 hn)];exact d2,d,od,vs,t,rfl,hx _ _ (fun z=>by rw[z,hJ] at d2;cases d2) f2,f3⟩
     ·exact⟨c,rfl,aK,hr⟩
   ·refine (I.hok b v e).stay (fun d w hd q=>hx d w ?_ q) (fun d q=>?_) fun d xs q=>?_
    ·rcases hd with z | z
     ·rw[z];exact hj
     ·intro z';rw[z',hJ] at z;cases z
    ·rw[aF (aS q hn)];exact q
    ·rw[aF (aS q hn)];exact q
structure Lam (X:Cx)(cc bm:Addr):Prop where
 code:X.env.code = .ref cc
 hd:∀ h:Heap,X.K.In h->PySem.W.CodeHd h cc jP
 mb:X.mg "__builtins__" = some (.ref bm)
 bo:∃ o,List.lookup bm X.K=some o/\o.cls = .type "module"/\o.dict=some builtinsNs/\o.data = .plain
 b0:bm≠builtinsNs
 bg:bm≠mainGlobals
 bj:bm≠jP
 qual:X.env.qual ++ "<lambda>" = jQ
theorem AO {cc bm cm:Addr}{ap lp:Pos}{p:Nat->Pos}{E:Value->Shared->Prop}{Q:Value->Shared->Prop}(I:Inv X pins σ H s)(L:Lam X cc bm)(hcl:closureFor j9 X.env=pure [(("_law_m" : Str),cm)])
  (h:∀ f c ctv pm h' tk H1,Inv X pins σ H1 { s with heap:=h',toks:=tk }->aE H H1->(∀ b o,b≠jP->s.heap.get? b=some o->h'.get? b=some o)->h'.get? f=some (PySem.W.kla_obj "<lambda>" jQ (oC ap) (m8 p) j9 [("_law_m",cm)] pm c ctv)->h'.CodeRec (.ref c) jQ->Q (.ref f) { s with heap:=h',toks:=tk }) :
  wpAny (model X.prog X.w) X.A (eval (.Lambda (oC ap) (m8 p) j9 lp) X.env) Q E s:=by
 refine PySem.W.kla_eval rfl ?_;rw[L.qual];have hT:xl H s.heap jP:=(I.hok jP _ (Inv.jt I)).2;obtain⟨ps,hP,h3,hc⟩:=id hT;obtain⟨ob,b1,b2,b3,b4⟩:=L.bo;have hb:s.heap.BuiltinsAt X.mg jP:=⟨bm,ob,L.mb,L.b0,L.bg,L.bj,I.kIn _ _ b1,b2,b3,b4⟩;have hg:=I.mod.glob.keeps I.bk;have hne:mainGlobals≠jP:=fun z=>by
  obtain⟨o,es,ep,e1,e2,_⟩:=hg;rw[z,hP] at e1;cases e1;cases e2
 cases hq:codeAmong lp ps.toList with
 |none =>
  refine PySem.W.kla_makeFunction hcl I.ok.glob hg L.code (L.hd _ I.kIn) hP h3 hq hne hb fun c ctv h' tk hx hge hlt hrec htb=>?_
  have hx':∀ b o,b≠jP->s.heap.get? b=some o->(h'.push (PySem.W.kla_obj "<lambda>" jQ (oC ap) (m8 p) j9 [(("_law_m" : Str),cm)] ((X.mg "__name__").getD .none) c ctv)).get? b=some o:=fun b o hb e=>Heap.get?_push_of_some _ (hx b o hb e)
  have hr':(h'.push (PySem.W.kla_obj "<lambda>" jQ (oC ap) (m8 p) j9 [(("_law_m" : Str),cm)] ((X.mg "__name__").getD .none) c ctv)).CodeRec (.ref c) jQ:=by
   obtain⟨c',oc,vs,t,e1,e2,e3⟩:=hrec;exact⟨c',oc,vs,t,e1,Heap.get?_push_of_some _ e2,e3⟩
  exact h _ c ctv _ _ tk _ (zI I hx' hge hP hT (Heap.get?_push_of_some _ htb) hr') (aE.new (I.hok.fresh hge)) hx' (Heap.get?_push_size _ rfl) hr'
 |some cv =>
  obtain⟨c,rfl,_,hrec⟩:=hc lp cv hq;refine PySem.W.kla_makeFunctionHit hcl I.ok.glob hg L.code (L.hd _ I.kIn) hP h3 hq hb fun ctv h' tk hk hsz=>?_
  have hk':∀ b o,s.heap.get? b=some o->(h'.push (PySem.W.kla_obj "<lambda>" jQ (oC ap) (m8 p) j9 [(("_law_m" : Str),cm)] ((X.mg "__name__").getD .none) c ctv)).get? b=some o:=fun b o e=>Heap.get?_push_of_some _ (hk b o e)
  refine h _ c ctv _ _ tk H (I.kept hk') (aE.refl _) (fun b o _ e=>hk' b o e) (Heap.get?_push_size _ rfl) ?_;obtain⟨c',oc,vs,t,e1,e2,e3⟩:=hrec;exact⟨c',oc,vs,t,e1,hk' _ _ e2,e3⟩
end
noncomputable def yf (n:Nat)(m i:Int):Int:=(n:Int)*uN m i+i
noncomputable def bA (n:Nat)(m:Int):List Int:=(bZ ((dO n).map (yf n m))).map fun r=>r%(n:Int)
theorem oD {n:Nat}{i:Int}(h:i∈dO n):((dO n).idxOf i:Int)=i:=by
 obtain⟨h1,h2⟩:=ku.mp h;have e:(dO n)[i.toNat]'(by rw[eD];omega)=i:=by simp[dO];omega
 have:=(nu n).idxOf_getElem i.toNat (by rw[eD];omega);rw[e] at this;rw[this];omega
theorem vY {n:Nat}{m i:Int}(h:i∈dO n):yf n m i%(n:Int)=i:=by
 obtain⟨h1,h2⟩:=ku.mp h;unfold yf;rw[Int.add_comm,Int.add_mul_emod_self_left];exact Int.emod_eq_of_lt h1 h2
theorem jo {n:Nat}{m:Int}{out:List Value}(o:Out (uN m) (dO n) out):IntsAre out (bA n m):=by
 obtain⟨ns,h1,h2,h3⟩:=o;have hm:∀ x∈ns,x∈dO n:=fun x hx=>h2.mem_iff.mp hx
 have e:ns.map (yf n m)=bZ ((dO n).map (yf n m)):=by
  refine PySem.W.lks_uniq ((h2.map _).trans (bQ _).symm) ?_ (hU _);rw[List.pairwise_map];refine iq (fun {x y} hx hy h=>?_) h3;rw[oD (hm x hx),oD (hm y hy),eD] at h;exact h
 have e2:bA n m=ns:=by
  unfold bA;rw[<-e,dm]
  conv=>rhs;rw[<-List.map_id ns]
  exact fh fun x hx=>vY (hm x hx)
 rw[e2];exact h1
section
variable {X:Cx}
def El:TE:=fun σ H Q=>∃(n:Nat) (m:Int),σ[0]? = some (some (.int (n:Int)))/\σ[2]? = some (some (.int m))/\n<=1000/\∀ l H1,aE H H1->H l=none->H1 l=some (.lst ((bA n m).map V.int))->Q (.ref l) H1
theorem yk {cc bm cm:Addr}{p0 p1 p2 p3 p4 kp ap lp:Pos}{p:Nat->Pos}(L:Lam X cc bm)(hcl:closureFor j9 X.env=pure [(("_law_m" : Str),cm)]) (hcm:X.env.cells.lookup ("_law_m" : Str)=some cm) (hc:X.calm=true) (hg:Gl X "sorted") (hm:X.mg "sorted" = none) (hg':Gl X "range") (hm':X.mg "range" = none)
  (hN0:X.N[0]? = some ("_law_count" : Str)) (hN2:X.N[2]? = some ("_law_m" : Str)) (hv0:xJ X.env.scope "_law_count") (hv2:X.env.scope.names.lookup ("_law_m" : Str)=some .cell) (hr:X.A.depth+2<recursionLimit) :
  PE X (.Call (.Name "sorted" p0) [.Call (.Name "range" p1) [.Name "_law_count" p2] [] p3] [⟨some "key",.Lambda (oC ap) (m8 p) j9 lp,kp⟩] p4) El:=by
 intro pins s σ H Q I h;obtain⟨n,m,e0,e2,hn,h⟩:=h;refine wpAny_Call_Name_kw (eI I hg hm boot_sorted (PyProof.Rows.callWith_kw ?_ rfl rfl));show wpAny _ _ (spliced ((false,eval (.Call (.Name "range" p1) [.Name "_law_count" p2] [] p3) X.env) :: [])) _ _ s;refine Calls.spliced_cons (Call_ (eI I hg' hm' boot_range (bz (cC ((aX (kT hN0 hv0) eK) p3 pins s σ H (fun vs H'=>vs=[.int (n:Int)]/\H'=H) I ⟨_,e0,rfl,rfl⟩) fun us s1 ⟨vs,H1,I1,r1,q1,q2⟩=>?_) rfl rfl)));subst q1 q2;obtain⟨u,rfl,t,rfl⟩:=r1.one;refine call_range_1 (Calls.spliced_nil (kws_cons ?_));have I2:Inv X pins σ H1 { s1 with heap:=s1.heap.push { cls:=.type "range",data:=.fields #[.int 0 s1.toks,.int (n:Int) t,.int 1 (s1.toks+1)] },toks:=s1.toks+1+1 }:=I1.kept fun b o e=>Heap.get?_push_of_some _ e
 refine AO I2 L hcl fun f c ctv pm h' tk H2 I3 sm hx hf hcr=>kws_nil ?_
 dsimp only at hx I3;show wpAny _ _ (call (.builtin "sorted") [.ref s1.heap.objs.size] [(("key" : Str),.ref f)]) _ _ _;have hjr:s1.heap.objs.size≠jP:=fun z=>by
  have:=I1.hok.lt (Inv.jt I1);rw[z] at this;exact absurd this (dz _)
 have hrg:IsRange h' s1.heap.objs.size 0 (n:Int) 1 s1.toks t (s1.toks+1):=hx _ _ hjr (IsRange.new ..);obtain⟨mm,hn3,hl3⟩:=id I3.loc;obtain⟨um,rm,look⟩:=hl3 2 "_law_m" (.int m) hN2 e2 (.inr (.inl hv2));obtain⟨tm,rfl⟩:=rm;have hcell:h'.IsCell cm (some (.int m tm)):=by
  rcases look with ⟨k,_⟩ | ⟨_,c0,e,z⟩
  ·rw[show X.env.kindOf "_law_m" = some .cell from hv2] at k;cases k
  ·rw[hcm] at e;cases e;exact z
 refine tL (s:={ s1 with heap:=h',toks:=tk }) (g:=uN m) (ns:=dO n) rfl (nu n) (by rw[eD];exact hn) (fun R hR=>p5 (I3.ok.hd hc) hrg hn hR) (fun i t2 h2 tk2 hi hk=>?_) fun D h2 tk2 cz out hk hD ho hO=>?_
 ·refine vo (s:={ s1 with heap:=h2,toks:=tk2 }) (c':=c) (u:=tm) ?_ (hk _ _ hf) ?_ (I3.nolimit.keeps hk) ?_ ?_
  ·show X.A.depth<_;omega
  ·obtain⟨c',oc,vs,t,e1,e2,e3⟩:=hcr;exact⟨c',oc,vs,t,e1,hk _ _ e2,e3⟩
  ·obtain⟨o,z1,z2⟩:=hcell;exact⟨o,hk _ _ z1,z2⟩
  ·have:=ku.mp hi;omega
 ·have hB:∀ b o,h'.get? b=some o->b≠D:=fun b o e z=>by rw[z,hD] at e;cases e
  have hI:=pI (t':=tk2) (o:=.lst ((bA n m).map V.int)) (B:=D) (h':=h2) I3 hn3 (hn3.keeps hk) (fun b o _ e=>hk b o e) hB ⟨?_,_,cz,jk (jo hO),by rw[ie];exact ho⟩
  ·refine⟨.ref D,_,hI,rfl,h D _ ?_ ?_ aK⟩
   ·exact sm.trans (aE.new (aE.no (H:=H2) (aE.refl _) (by
     cases e:H2 D with
     |none=>rfl
     |some u =>
      obtain⟨ob,q⟩:=bU.live' (I3.hok D u e);exact absurd rfl (hB D ob q))))
   ·cases e:H1 D with
    |none=>rfl
    |some u =>
     obtain⟨ob,q⟩:=bU.live' (I3.hok D u (sm _ _ e));exact absurd rfl (hB D ob q)
  ·have:=(jo hO).length;obtain⟨ns',a1,a2,_⟩:=hO;have:=a1.length;rw[ai,sizeLine_eq,<-(jo ⟨ns',a1,a2,‹_›⟩).length,a1.length,a2.length_eq,eD];omega
end
end Pc
end
section
namespace Fl64
noncomputable def dbl (a:Nat):Nat:=if 64<=2*a then (2*a)^^^67 else 2*a
noncomputable def Fe:Nat->Nat->Nat->Nat->Nat
 |0,p,_,_=>p
 |n+1,p,d,l=>if l=0 then p else Fe n (if l%2=1 then p^^^d else p) (dbl d) (l / 2)
noncomputable def tm (a b:Nat):Nat:=Fe 6 0 a b
noncomputable def allB (n:Nat)(f:Nat->Bool):Bool:=match n with
 |0=>true
 |k+1=>f k&&allB k f
end Fl64
end
section
namespace Pc
open PySem
noncomputable abbrev sI (i:Int):Slot:=some (.int i,.own)
noncomputable abbrev sN (i:Nat):Slot:=some (.int (i:Int),.own)
noncomputable def ret (f:Fl):Rs (D×Bool):=match f with
 |.rt d fr=>.ok (d,fr)
 |.nx _=>.ok (.non,true)
 |.xc e _=>.exc e
 |_=>.bad
theorem mS {fns:List Fn}{gl:Nat->D}{fuel n i:Nat}{F:Fn}{ds:List D}(h:fns[i]? = some F)(hl:ds.length=F.ps):Pc.run fns gl fuel (n+1) i ds=ret (aC ⟨Pc.run fns gl fuel n,gl,fuel⟩ F.body (aD ds F.slots)):=by
 unfold Pc.run;rw[h];dsimp only;rw[if_pos hl];rfl
theorem iN {a m:Int}(h0:0<=a)(h1:a<m):∃ n:Nat,a=(n:Int)/\(n:Int)<m:=⟨a.toNat,by omega,by omega⟩
noncomputable abbrev sS (S:List D):Slot:=some (.lst S,.sh [])
theorem wX {x:Int}(h0:0<=x)(h1:x<2147483648):small x=true:=du ⟨by omega,by omega⟩
theorem rj {n k:Nat}(h:k<n):fE n (k:Int)=some k:=by
 unfold fE;rw[if_pos (by omega),if_pos (by omega),dh]
theorem fP:∀(n:Nat) (a:Int) (i:Nat) (d:D),(aQ a 1 n)[i]? = some d->i<n/\d = .int (a+i)
 |0,a,i,d,h=>by simp[aQ] at h
 |n+1,a,0,d,h=>by simp[aQ] at h;exact⟨by omega,by rw[<-h];simp⟩
 | n+1,a,i+1,d,h=>by
  rw[aQ,List.getElem?_cons_succ] at h;obtain⟨h1,h2⟩:=fP n (a+1) i d h;refine⟨by omega,?_⟩;rw[h2];congr 1;omega
theorem kf (env:En):lock [] env=env:=by
 unfold lock;have:∀(l:En) (k:Nat),(l.mapIdx fun i (s:Slot)=>match s with
  | some (d,.own)=>if ([]:List Nat).contains i then some (d,.lk) else some (d,.own)
  |s=>s)=l:=fun l k=>by
  rw[List.mapIdx_eq_iff];intro i;cases h:l[i]? with
  |none=>rfl
  |some s =>
   cases s with
   |none=>rfl
   |some p=>obtain⟨d,t⟩:=p;cases t<;>rfl
 exact this env 0
theorem qV (e0 env:En):unlock [] e0 env=env:=by
 unfold unlock;rw[List.mapIdx_eq_iff];intro i;cases h:env[i]? with
 |none=>rfl
 |some s =>
  cases s with
  |none=>rfl
  |some p =>
   obtain⟨d,t⟩:=p;cases t with
   |lk =>
    simp only[Option.map_some];split<;>rfl
   |own=>rfl
   |sh R=>rfl
theorem eR {T:Tb}{t:jL}{it:qa}{b:bW}{env e:En}{l:List D}(hit:eA T it env = .ok (l,[]))(h:bR t [] (aC T b) l env = .nx e):aT T (.forr t it b) env = .nx e:=by
 rw[aT,hit,aP];dsimp only;rw[kf,h];dsimp only;rw[qV]
noncomputable abbrev sq (M:List (List D)):D:=.lst (M.map D.lst)
noncomputable def sE:D->Bool
 |.int _=>true
 |.non=>true
 |_=>false
structure cN (n:Nat)(M:List (List D)):Prop where
 len:M.length=n
 row:∀ r∈M,r.length=n
 cell:∀ r∈M,∀ d∈r,sE d=true
noncomputable def ent (M:List (List D))(r c:Nat):D:=(M.getD r []).getD c .non
noncomputable def lR (M:List (List D)):List (List D):=M.map List.reverse
noncomputable def gH (M:List (List D))(c:Nat):List D:=M.reverse.map fun r=>r.getD c .non
noncomputable def fN (M:List (List D)):List (List D):=(List.range M.length).map (gH M)
noncomputable def cB:Nat->List (List D)->List (List D)
 |0,M=>M
 |k+1,M=>cB k (fN M)
theorem fI:∀{l:List D},D.flats l=true↔∀ d∈l,d.flat=true
 |[]=>by simp[D.flats]
 |d::r=>by simp[D.flats,fI (l:=r)]
theorem gQ {d:D}(h:sE d=true):d.flat=true:=by
 cases d<;>simp_all [sE,D.flat]
theorem cN.flat {n:Nat}{M:List (List D)}(h:cN n M):∀ r∈M,D.flats r=true:=fun r hr=>fI.mpr fun d hd=>gQ (h.cell r hr d hd)
theorem Bh {d:D}(h:sE d=true)(k:Nat):D.eqf (k+1) d d=some true:=by
 cases d<;>simp_all [sE,D.eqf]
theorem kN {f:D->D->Option Bool}:∀{l:List D},(∀ d∈l,f d d=some true)->p9 f l l=some true
 |[],_=>rfl
 | d::r,h=>by
  rw[p9,h d aq,kN fun x hx=>h x (ag _ hx)];rfl
theorem ED {n:Nat}{M:List (List D)}(h:cN n M):D.eqf 40 (sq M) (sq M)=some true:=by
 unfold sq;rw[D.eqf,if_pos rfl];refine kN fun d hd=>?_
 obtain⟨r,hr,rfl⟩:=gr.mp hd;rw[D.eqf,if_pos rfl];exact kN fun x hx=>Bh (h.cell r hr x hx) _
theorem gC {n:Nat}{M:List (List D)}(h:cN n M){r c:Nat}(hr:r<n)(hc:c<n):∃ row,M[r]? = some row/\row.length=n/\row[c]? = some (ent M r c)/\M.getD r []=row:=by
 have h1:r<M.length:=by rw[h.len];exact hr
 have h2:(M[r]).length=n:=h.row _ (fi h1);have h3:M.getD r []=M[r]:=by rw[List.getD_eq_getElem?_getD,List.getElem?_eq_getElem h1];rfl
 refine⟨M[r],List.getElem?_eq_getElem h1,h2,?_,h3⟩;unfold ent;rw[h3,List.getD_eq_getElem?_getD,List.getElem?_eq_getElem (by omega)];rfl
theorem Bi {n:Nat}{M N:List (List D)}(h:cN n M)(h':cN n N)(e:∀ r c,r<n->c<n->ent M r c=ent N r c):M=N:=by
 apply ec
 ·rw[h.len,h'.len]
 ·intro r hr hr';have hn:r<n:=by rw[<-h.len];exact hr
  apply ec
  ·rw[h.row _ (fi hr),h'.row _ (fi hr')]
  ·intro c hc hc';have cn:c<n:=by rw[<-h.row _ (fi hr)];exact hc
   have:=e r c hn cn;unfold ent at this;rw[List.getD_eq_getElem?_getD,List.getD_eq_getElem?_getD,List.getD_eq_getElem?_getD,List.getD_eq_getElem?_getD,List.getElem?_eq_getElem hr,List.getElem?_eq_getElem hr'] at this;simpa[hc,hc'] using this
theorem nh {n:Nat}{M:List (List D)}(h:cN n M):cN n (lR M) where
 len:=by simp[lR,h.len]
 row:=fun r hr=>by
  simp only[lR,List.mem_map] at hr;obtain⟨s,hs,rfl⟩:=hr;rw[gb,h.row s hs]
 cell:=fun r hr d hd=>by
  simp only[lR,List.mem_map] at hr;obtain⟨s,hs,rfl⟩:=hr;exact h.cell s hs d (by simpa using hd)
theorem sy {n:Nat}{M:List (List D)}(h:cN n M){r c:Nat}(hr:r<n)(hc:c<n):ent (lR M) r c=ent M r (n - 1 - c):=by
 obtain⟨row,h1,h2,h3,h4⟩:=gC h hr (c:=n - 1 - c) (by omega);have e1:(lR M).getD r []=row.reverse:=by
  unfold lR;rw[List.getD_eq_getElem?_getD,List.getElem?_map,h1];rfl
 unfold ent;rw[e1,h4,List.getD_eq_getElem?_getD,List.getD_eq_getElem?_getD,List.getElem?_reverse (by omega),h2]
theorem uk (M:List (List D))(c:Nat):(gH M c).length=M.length:=by simp[gH]
theorem jj {n:Nat}{M:List (List D)}(h:cN n M):cN n (fN M) where
 len:=by simp[fN,h.len]
 row:=fun r hr=>by
  simp only[fN,List.mem_map] at hr;obtain⟨s,hs,rfl⟩:=hr;rw[uk,h.len]
 cell:=fun r hr d hd=>by
  simp only[fN,List.mem_map] at hr;obtain⟨c,hs,rfl⟩:=hr;simp only[gH,List.mem_map,List.mem_reverse] at hd;obtain⟨row,hrow,rfl⟩:=hd;rw[List.getD_eq_getElem?_getD];cases q:row[c]? with
  |none=>rfl
  |some d=>exact h.cell row hrow d (List.mem_of_getElem? q)
theorem uD {n:Nat}{M:List (List D)}(h:cN n M){r c:Nat}(hr:r<n)(hc:c<n):ent (fN M) r c=ent M (n - 1 - c) r:=by
 have e1:(fN M).getD r []=gH M r:=by
  unfold fN;rw[List.getD_eq_getElem?_getD,List.getElem?_map,List.getElem?_range (by rw[h.len];exact hr)];rfl
 obtain⟨row,h1,h2,h3,h4⟩:=gC h (r:=n - 1 - c) (c:=r) (by omega) hr;have e2:(gH M r)[c]? = some (row.getD r .non):=by
  unfold gH;rw[List.getElem?_map,List.getElem?_reverse (by rw[h.len];exact hc),h.len,h1];rfl
 unfold ent;rw[e1,h4,List.getD_eq_getElem?_getD,e2];rfl
theorem dH {n:Nat}:∀(k:Nat) {M:List (List D)},cN n M->cN n (cB k M)
 |0,_,h=>h
 |k+1,_,h=>dH k (jj h)
noncomputable def ko (n:Nat):Nat->Nat×Nat->Nat×Nat
 |0,p=>p
 |k+1,p=>let q:=ko n k p;(n - 1 - q.2,q.1)
theorem jU {n:Nat}(hn:0<n):∀(k:Nat) (p:Nat×Nat),p.1<n->p.2<n->(ko n k p).1<n/\(ko n k p).2<n
 |0,_,h1,h2=>⟨h1,h2⟩
 | k+1,p,h1,h2=>by
  have:=jU hn k p h1 h2;unfold ko;exact⟨by show n - 1 - _<n;omega,this.1⟩
theorem eF {n:Nat}:∀(k:Nat) {M:List (List D)},cN n M->∀{r c:Nat},r<n->c<n->ent (cB k M) r c=ent M (ko n k (r,c)).1 (ko n k (r,c)).2
 |0,_,_,_,_,_,_=>rfl
 | k+1,M,h,r,c,hr,hc=>by
  have:=jU (n:=n) (by omega) k (r,c) hr hc;unfold cB;rw[eF k (jj h) hr hc,uD h this.1 this.2];rfl
noncomputable def gJ (t:Nat)(M:List (List D)):List (List D):=cB (t%4) (if 4<=t then lR M else M)
noncomputable def cK (t:Nat)(M:List (List D)):List (List D):=if 4<=t then lR (cB ((4 - t%4)%4) M) else cB ((4 - t%4)%4) M
theorem jw {n:Nat}{M:List (List D)}(h:cN n M)(t:Nat):cN n (gJ t M):=by
 unfold gJ;refine dH _ ?_;split
 ·exact nh h
 ·exact h
theorem jh {n:Nat}{M:List (List D)}(h:cN n M)(t:Nat):cN n (cK t M):=by
 unfold cK;split
 ·exact nh (dH _ h)
 ·exact dH _ h
noncomputable def dU (n t:Nat)(p:Nat×Nat):Nat×Nat:=let q:=ko n (t%4) p;if 4<=t then (q.1,n - 1 - q.2) else q
theorem mF {n:Nat}{M:List (List D)}(h:cN n M)(t:Nat){r c:Nat}(hr:r<n)(hc:c<n):ent (gJ t M) r c=ent M (dU n t (r,c)).1 (dU n t (r,c)).2:=by
 have q:=jU (n:=n) (by omega) (t%4) (r,c) hr hc;unfold gJ dU;by_cases ht:4<=t
 ·simp only[if_pos ht];rw[eF _ (nh h) hr hc,sy h q.1 q.2]
 ·simp only[if_neg ht];rw[eF _ h hr hc]
theorem xb {n:Nat}(hn:0<n)(t:Nat)(p:Nat×Nat)(h1:p.1<n)(h2:p.2<n):(dU n t p).1<n/\(dU n t p).2<n:=by
 have q:=jU hn (t%4) p h1 h2;unfold dU;by_cases ht:4<=t
 ·simp only[if_pos ht];exact⟨q.1,by omega⟩
 ·simp only[if_neg ht];exact q
noncomputable def og (n t:Nat)(p:Nat×Nat):Nat×Nat:=if 4<=t then ko n ((4 - t%4)%4) (p.1,n - 1 - p.2) else ko n ((4 - t%4)%4) p
theorem tZ {n:Nat}{M:List (List D)}(h:cN n M)(t:Nat){r c:Nat}(hr:r<n)(hc:c<n):ent (cK t M) r c=ent M (og n t (r,c)).1 (og n t (r,c)).2:=by
 unfold cK og;by_cases ht:4<=t
 ·simp only[if_pos ht];rw[sy (dH _ h) hr hc,eF _ h hr (by omega)]
 ·simp only[if_neg ht];rw[eF _ h hr hc]
theorem kD {f:D->Rs (Option (D×Rt))}{g:D->D×Rt}:∀{l:List D},(∀ d∈l,f d = .ok (some (g d)))->dI f l = .ok (l.map g)
 |[],_=>rfl
 | d::l,h=>by
  simp only[List.map_cons,dI];rw[h d aq,kD fun j hj=>h j (ag _ hj)];rfl
theorem iT {T:Tb}{own:Nat}{pick:List Nat}{t:jL}{it:qa}{e:Ex}{env:En}{l:List D}{R:List Nat}{g:D->D×Rt}(hit:eA T it env = .ok (l,R))(hl:l.length<=lim)(hg:∀ d∈l,bH (aV [] t d (bX env own pick)) (lD T .none) (ev T e) = .ok (some (g d)))(hf:∀ d∈l,((g d).1.flat || dE (g d).2)=true) :
  ev T (.comp own pick t it .none e) env = .ok (.lst (l.map fun d=>(g d).1),.mv []):=by
 rw[ev,hit,aA,kD hg,aA];dsimp only;rw[if_pos hl,if_pos]
 ·rw[dm];rfl
 ·rw[List.all_map,dq];exact hf
noncomputable abbrev sM (M:List (List D)):Slot:=some (sq M,.sh [])
noncomputable def bIM (g:Nat):bW:=(.cons (.ret (.cmp .GtE (.var 0) (.glb g)))
  .nil)
noncomputable def bMI:bW:=(.cons (.ret (.comp 1 [] (.nm 0) (.seq (.var 0)) .none (.blt .lrev (.cons (.var 0) .nil))))
  .nil)
noncomputable def bCU:bW:=(.cons (.ret (.comp 1 [1] (.nm 0) (.rev (.var 0)) .none (.ix (.var 0) (.var 1))))
  .nil)
noncomputable def rG:Ex:=.comp 1 [] (.nm 0) (.seq (.var 0)) .none (.blt .list (.cons (.var 0) .nil))
noncomputable def wG (cu:Nat):bW:=(.cons (.asg (.nm 2) (.comp 1 [2] (.nm 0) (.rng1 (.blt .len (.cons (.var 2) .nil))) .none (.call cu (.cons (.var 1) (.cons (.var 0) .nil)))) false)
  .nil)
noncomputable def bQT (cu:Nat):bW:=(.cons (.asg (.nm 2) rG false)
  (.cons (.forr (.nm 3) (.rng1 (.var 1)) (wG cu))
  (.cons (.ret (.var 2))
  .nil)))
noncomputable def bTB (im mi qt g:Nat):bW:=(.cons (.asg (.nm 2) (.call qt (.cons (.var 0) (.cons (.bin .Mod (.bin .Sub (.glb g) (.bin .Mod (.var 1) (.glb g))) (.glb g)) .nil))) false)
  (.cons (.ret (.ite (.call im (.cons (.var 1) .nil)) (.call mi (.cons (.var 2) .nil)) (.var 2)))
  .nil))
theorem D3 {T:Tb}{g:Nat}(hg:T.gl g = .int 4)(t:Int):ret (aC T (bIM g) (aD [.int t] 1)) = .ok (.bl (decide (4<=t)),true):=by
 have hst:aD [.int t] 1=[sI t]:=rfl;rw[hst];simp[bIM,aC,aT,ev,aP,aA,aN,jG,D.flat,hg,sd,dD,ret]
theorem jB {l:List D}(h:D.flats l=true)(R:List Nat):gM (.lst l) R = .mv []:=by
 unfold gM;rw[if_pos];exact h
theorem gG {T:Tb}{e:Ex}{env:En}{d:D}(h:ev T e env = .ok (d,.mv [])):ret (aC T (.cons (.ret e) .nil) env) = .ok (d,true):=by
 rw[aC,aT,h,aP];rfl
theorem gY {n:Nat}(h:n<=1000):n<=lim:=dg h (by decide)
theorem Dy {T:Tb}{n:Nat}{M:List (List D)}(hM:cN n M)(hn:n<=1000):ret (aC T bMI (aD [sq M] 1)) = .ok (sq (lR M),true):=by
 have hst:aD [sq M] 1=[sM M]:=rfl;rw[hst];refine gG ?_;rw[iT (l:=M.map D.lst) (R:=[]) (g:=fun d=>match d with | .lst r=>(.lst r.reverse,.mv []) | _=>(.non,.mv [])) rfl (by rw[ai,hM.len];exact gY hn) (fun d hd=>?_) (fun d hd=>?_)]
 ·unfold lR sq;rw[dm,dm];rfl
 ·obtain⟨r,hr,rfl⟩:=gr.mp hd;have hf:D.flats r.reverse=true:=by
   rw[fI];intro d hd;exact fI.mp (hM.flat r hr) d (by simpa using hd)
  have hb:aV [] (.nm 0) (.lst r) (bX [sM M] 1 [])=some [some (.lst r,.sh [])]:=rfl;rw[hb];have he:ev T (.blt .lrev (.cons (.var 0) .nil)) [some (.lst r,.sh [])] = .ok (.lst r.reverse,.mv []):=by
   have h1:bN T (.cons (.var 0) .nil) [some (.lst r,.sh [])] = .ok [(.lst r,.sh [])]:=rfl;rw[ev,h1,aA];show (Rs.ok (D.lst r.reverse)).bind _=_;rw[aA,jB hf]
  simp only[bH,lD,aA,if_true,he]
 ·obtain⟨r,hr,rfl⟩:=gr.mp hd;simp[dE]
theorem Ae {T:Tb}{n:Nat}{M:List (List D)}(hM:cN n M)(hn:n<=1000)(r:En):ev T rG (sM M::r) = .ok (sq M,.mv []):=by
 unfold rG;rw[iT (l:=M.map D.lst) (R:=[]) (g:=fun d=>(d,.mv [])) rfl (by rw[List.length_map,hM.len];exact gY hn) (fun d hd=>?_) (fun d hd=>by simp[dE])]
 ·rw[show (fun d:D=>(d,Rt.mv []).1)=id from rfl,List.map_id]
 ·obtain⟨r',hr,rfl⟩:=gr.mp hd;have hb:aV [] (.nm 0) (.lst r') (bX (sM M::r) 1 [])=some [some (.lst r',.sh [])]:=rfl;rw[hb];have he:ev T (.blt .list (.cons (.var 0) .nil)) [some (.lst r',.sh [])] = .ok (.lst r',.mv []):=by
   have h1:bN T (.cons (.var 0) .nil) [some (.lst r',.sh [])] = .ok [(.lst r',.sh [])]:=rfl;rw[ev,h1,aA];show (Rs.ok (D.lst r')).bind _=_;rw[aA,jB (hM.flat r' hr)]
  simp only[bH,lD,aA,if_true,he]
theorem DP {T:Tb}{n:Nat}{M:List (List D)}(hM:cN n M)(hn:n<=1000)(c:Nat)(hc:c<n):ret (aC T bCU (aD [sq M,.int c] 2)) = .ok (.lst (gH M c),true):=by
 have hst:aD [sq M,.int c] 2=[sM M,sN c]:=rfl;rw[hst];refine gG ?_;have hit:eA T (.rev (.var 0)) [sM M,sN c] = .ok ((M.map D.lst).reverse,[]):=rfl;have hflat:∀ r∈M,(r.getD c .non).flat=true:=fun r hr=>by
  rw[List.getD_eq_getElem?_getD];cases q:r[c]? with
  |none=>rfl
  |some d=>exact fI.mp (hM.flat r hr) d (List.mem_of_getElem? q)
 rw[iT (g:=fun d=>match d with | .lst r=>(r.getD c .non,.mv []) | _=>(.non,.mv [])) hit (by rw[gb,ai,hM.len];exact gY hn) (fun d hd=>?_) (fun d hd=>?_)]
 ·unfold gH;rw[<-List.map_reverse,dm];rfl
 ·obtain⟨r,hr,rfl⟩:=gr.mp (List.mem_reverse.mp hd);have hb:aV [] (.nm 0) (.lst r) (bX [sM M,sN c] 1 [1])=some [some (.lst r,.sh []),some (.int c,.sh [])]:=rfl;rw[hb];have he:ev T (.ix (.var 0) (.var 1)) [some (.lst r,.sh []),some (.int c,.sh [])] = .ok (r.getD c .non,.mv []):=by
   have h0:ev T (.var 0) [some (.lst r,.sh []),some (.int c,.sh [])] = .ok (.lst r,.sh []):=rfl;have h1:ev T (.var 1) [some (.lst r,.sh []),some (.int c,.sh [])] = .ok (.int c,.mv []):=rfl;have hlt:c<r.length:=by rw[hM.row r hr];exact hc
   have hx:t6 (.lst r) (.int (c:Int))=some (r.getD c .non):=by
    show (fE r.length (c:Int)).bind (fun j=>r[j]?)=_;rw[rj hlt,List.getD_eq_getElem?_getD,List.getElem?_eq_getElem hlt];simp[hlt]
   rw[ev,h0,aA,h1,aA,hx,aN,aA];unfold iF;rw[if_pos (hflat r hr)]
  simp only[bH,lD,aA,if_true,he]
 ·obtain⟨r,hr,rfl⟩:=gr.mp (List.mem_reverse.mp hd);simp only[hflat r hr,Bool.true_or]
theorem fQ (T:Tb)(env:En)(e:Ex)(j:Int)(r:Rt)(he:ev T e env = .ok (.int j,r))(h1:eZ j=true):eA T (.rng1 e) env = .ok (aQ 0 1 j.toNat,[]):=by
 rw[eA,he,aA];show (if eZ j=true then Rs.ok (aQ 0 1 j.toNat,[]) else .bad)=_;rw[if_pos h1]
theorem oV {n:Nat}(h:n<=1000):eZ (n:Int)=true:=by
 unfold eZ;exact du ⟨ij (by decide) (Int.natCast_nonneg n),Int.lt_of_le_of_lt (Int.ofNat_le.mpr h) (by decide)⟩
theorem uO (T:Tb){n:Nat}{M:List (List D)}(hM:cN n M)(hn:n<=1000)(i:Nat)(t:Tg)(env:En)(h:env[i]? = some (some (sq M,t))):eA T (.rng1 (.blt .len (.cons (.var i) .nil))) env = .ok ((List.range n).map fun (k:Nat)=>D.int (k:Int),[]):=by
 have hlen:iL .len [sq M]=some (.int (n:Int)):=by
  show some (D.int ((M.map D.lst).length:Int))=_;rw[ai,hM.len]
 have hr:aQ 0 1 n=(List.range n).map fun (k:Nat)=>D.int (k:Int):=by
  rw[mx];have:∀(m a:Nat),pD (a:Int) 1 m=(List.range' a m).map fun (k:Nat)=>(k:Int):=by
   intro m
   induction m with
   |zero=>intro a;rfl
   |succ m ih =>
    intro a;rw[pD,List.range'_succ,ba,<-ih (a+1)];simp
  have:=this n 0;rw[show ((0:Nat):Int)=0 from rfl] at this;rw[this,dm,List.range_eq_range'];rfl
 have he:∃ R,ev T (.blt .len (.cons (.var i) .nil)) env = .ok (.int (n:Int),R):=by
  have hv:∃ R,ev T (.var i) env = .ok (sq M,R):=by
   rw[ev,h];exact⟨_,rfl⟩
  obtain⟨R,hv⟩:=hv;have h1:bN T (.cons (.var i) .nil) env = .ok [(sq M,R)]:=by
   rw[bN,hv,aA];rfl
  rw[ev,h1,aA,show List.map (fun x:D×Rt=>x.1) [(sq M,R)]=[sq M] from rfl,hlen,aN,aA];exact⟨_,rfl⟩
 obtain⟨R,he⟩:=he;have:=fQ T env _ _ _ he (oV hn);rw[dh,hr] at this;exact this
def u0 (T:Tb)(n cu:Nat):Prop:=∀(M:List (List D)),cN n M->∀ c:Nat,c<n->T.cl cu [sq M,.int (c:Int)] = .ok (.lst (gH M c),true)
theorem BZ {T:Tb}{n cu:Nat}(hcu:u0 T n cu)(hn:n<=1000){M:List (List D)}(hM:cN n M)(S o:Slot)(q:Int)(hS:∃ N,S=sM N):aC T (wG cu) [S,sI q,some (sq M,.own),o] = .nx [S,sI q,some (sq (fN M),.own),o.map fun p=>(p.1,p.2.drop 2)]:=by
 obtain⟨N,rfl⟩:=hS;have he:ev T (.comp 1 [2] (.nm 0) (.rng1 (.blt .len (.cons (.var 2) .nil))) .none (.call cu (.cons (.var 1) (.cons (.var 0) .nil)))) [sM N,sI q,some (sq M,.own),o] = .ok (sq (fN M),.mv []):=by
  rw[iT (g:=fun d=>match d with | .int k=>(.lst (gH M k.toNat),.mv []) | _=>(.non,.mv [])) (uO T hM hn 2 .own _ rfl) (by rw[ai,List.length_range];exact gY hn) (fun d hd=>?_) (fun d hd=>?_)]
  ·unfold fN sq;rw[dm,dm,hM.len];rfl
  ·obtain⟨k,hk,rfl⟩:=gr.mp hd;have hk:k<n:=by simpa using hk
   have hb:aV [] (.nm 0) (.int (k:Int)) (bX [sM N,sI q,some (sq M,.own),o] 1 [2])=some [sN k,some (sq M,.sh [])]:=rfl;rw[hb];have he:ev T (.call cu (.cons (.var 1) (.cons (.var 0) .nil))) [sN k,some (sq M,.sh [])] = .ok (.lst (gH M k),.mv []):=by
    have h1:bN T (.cons (.var 1) (.cons (.var 0) .nil)) [sN k,some (sq M,.sh [])] = .ok [(sq M,.sh []),(.int (k:Int),.mv [])]:=rfl;rw[ev,h1,aA,show List.map (fun x:D×Rt=>x.1) [(sq M,.sh []),(.int (k:Int),.mv [])]=[sq M,.int (k:Int)] from rfl,hcu M hM k hk,aA];rfl
   simp only[bH,lD,aA,if_true,he,Int.toNat_natCast]
  ·obtain⟨k,hk,rfl⟩:=gr.mp hd;simp[dE]
 unfold wG;rw[aC,aT,he,aP];rfl
theorem pH (k:Nat)(M:List (List D)):cB (k+1) M=cB k (fN M):=rfl
theorem zl (N M:List (List D))(q a:Int)(o:Slot):aV [] (.nm 3) (.int a) [sM N,sI q,some (sq M,.own),o]=some [sM N,sI q,some (sq M,.own),sI a]:=by
 simp[aV,put,Tg.drop,aW,D.flat]
theorem vQ {b:En->Fl}{n:Nat}(N:List (List D))(q:Int)(hb:∀(M:List (List D)) (a:Int),cN n M->b [sM N,sI q,some (sq M,.own),sI a] = .nx [sM N,sI q,some (sq (fN M),.own),sI a])(k:Nat):∀(a:Int) {M:List (List D)}(o:Slot),cN n M->∃ o',bR (.nm 3) [] b (aQ a 1 k) [sM N,sI q,some (sq M,.own),o] = .nx [sM N,sI q,some (sq (cB k M),.own),o']:=by
 induction k with
 |zero=>exact fun a M o _=>⟨o,rfl⟩
 |succ k ih =>
  intro a M o hM;obtain⟨o',h⟩:=ih (a+1) (sI a) (jj hM);refine⟨o',?_⟩;rw[aQ,bR,zl];dsimp only;rw[hb M a hM];dsimp only;rw[h,pH]
theorem yb {T:Tb}{n cu:Nat}(hcu:u0 T n cu)(hn:n<=1000)(N:List (List D))(q:Int)(k:Nat)(a:Int){M:List (List D)}(o:Slot)(hM:cN n M):∃ o',bR (.nm 3) [] (aC T (wG cu)) (aQ a 1 k) [sM N,sI q,some (sq M,.own),o] = .nx [sM N,sI q,some (sq (cB k M),.own),o'] :=
 vQ N q (fun M a hM=>BZ hcu hn hM (sM N) (sI a) q ⟨N,rfl⟩) k a o hM
theorem Bo {T:Tb}{n cu:Nat}(hcu:u0 T n cu)(hn:n<=1000){M:List (List D)}(hM:cN n M)(Q:Int)(q:Nat)(e:Q.toNat=q)(ho:eZ Q=true):ret (aC T (bQT cu) (aD [sq M,.int Q] 4)) = .ok (sq (cB q M),true):=by
 have hst:aD [sq M,.int Q] 4=[sM M,sI Q,none,none]:=rfl;rw[hst];unfold bQT;have h1:aT T (.asg (.nm 2) rG false) [sM M,sI Q,none,none] = .nx [sM M,sI Q,some (sq M,.own),none]:=by
  rw[aT,Ae hM hn,aP];rfl
 obtain⟨o',h⟩:=yb hcu hn M Q q 0 none hM;have h2:aT T (.forr (.nm 3) (.rng1 (.var 1)) (wG cu)) [sM M,sI Q,some (sq M,.own),none] = .nx (unlock [] [sM M,sI Q,some (sq M,.own),none] [sM M,sI Q,some (sq (cB q M),.own),o']):=by
  have hv:ev T (.var 1) [sM M,sI Q,some (sq M,.own),none] = .ok (.int Q,.mv []):=rfl;have hit:=fQ T _ _ _ _ hv ho;rw[e] at hit;rw[aT,hit,aP];dsimp only;rw[kf,h]
 rw[aC,h1,aM,aC,h2,aM];generalize cB q M=N;rfl
theorem Dj {T:Tb}{n cu:Nat}(hcu:u0 T n cu)(hn:n<=1000){M:List (List D)}(hM:cN n M)(q:Nat)(hq:q<=1000):ret (aC T (bQT cu) (aD [sq M,.int q] 4)) = .ok (sq (cB q M),true):=Bo hcu hn hM q q (dh q) (oV hq)
def Du (T:Tb)(im:Nat):Prop:=∀ t:Nat,T.cl im [.int (t:Int)] = .ok (.bl (decide (4<=t)),true)
def Dh (T:Tb)(n mi:Nat):Prop:=∀(M:List (List D)),cN n M->T.cl mi [sq M] = .ok (sq (lR M),true)
def E7 (T:Tb)(n qt:Nat):Prop:=∀(M:List (List D)),cN n M->∀ q:Nat,q<=1000->T.cl qt [sq M,.int (q:Int)] = .ok (sq (cB q M),true)
theorem DE {T:Tb}{n im mi qt g:Nat}(hg:T.gl g = .int 4)(him:Du T im)(hmi:Dh T n mi)(hqt:E7 T n qt){M:List (List D)}(hM:cN n M)(t:Nat)(ht:t<=1000):ret (aC T (bTB im mi qt g) (aD [sq M,.int t] 3)) = .ok (sq (cK t M),true):=by
 have hst:aD [sq M,.int t] 3=[sM M,sI (t:Int),none]:=rfl;rw[hst];have h1:aT T (.asg (.nm 2) (.call qt (.cons (.var 0) (.cons (.bin .Mod (.bin .Sub (.glb g) (.bin .Mod (.var 1) (.glb g))) (.glb g)) .nil))) false) [sM M,sI (t:Int),none] = .nx [sM M,sI (t:Int),some (sq (cB ((4 - t%4)%4) M),.own)]:=by
  have ha:bN T (.cons (.var 0) (.cons (.bin .Mod (.bin .Sub (.glb g) (.bin .Mod (.var 1) (.glb g))) (.glb g)) .nil)) [sM M,sI (t:Int),none] = .ok [(sq M,.sh []),(.int (((4 - t%4)%4:Nat):Int),.mv [])]:=by
   have e:(4 - (t:Int)%4)%4=(((4 - t%4)%4:Nat):Int):=by omega
   rw[<-e];generalize (t:Int)=Q;simp[bN,ev,aA,hg,dR,Pc.binI,aN,dG,D.flat]
  rw[aT,ev,ha,aA,show List.map (fun x:D×Rt=>x.1) [(sq M,Rt.sh []),(D.int (((4 - t%4)%4:Nat):Int),Rt.mv [])]=[sq M,.int (((4 - t%4)%4:Nat):Int)] from rfl,hqt M hM _ (by omega),aA,aP];rfl
 have hN:=dH ((4 - t%4)%4) hM;unfold bTB cK;rw[aC,h1,aM];generalize cB ((4 - t%4)%4) M=N at hN;have hc:ev T (.call im (.cons (.var 1) .nil)) [sM M,sI (t:Int),some (sq N,.own)] = .ok (.bl (decide (4<=t)),.mv []):=by
  have h1:bN T (.cons (.var 1) .nil) [sM M,sI (t:Int),some (sq N,.own)] = .ok [(.int (t:Int),.mv [])]:=rfl;rw[ev,h1,aA,show List.map (fun x:D×Rt=>x.1) [(D.int (t:Int),Rt.mv [])]=[.int (t:Int)] from rfl,him t,aA];rfl
 by_cases h4:4<=t
 ·rw[if_pos h4];refine gG ?_;have hm:ev T (.call mi (.cons (.var 2) .nil)) [sM M,sI (t:Int),some (sq N,.own)] = .ok (sq (lR N),.mv []):=by
   have h1:bN T (.cons (.var 2) .nil) [sM M,sI (t:Int),some (sq N,.own)] = .ok [(sq N,.mv [2])]:=rfl;rw[ev,h1,aA,show List.map (fun x:D×Rt=>x.1) [(sq N,Rt.mv [2])]=[sq N] from rfl,hmi N hN,aA];rfl
  rw[ev,hc,aA];show (iS (some (decide (4<=t)))).bind _=_;rw[aN,aA,if_pos (by simpa using h4),hm]
 ·rw[if_neg h4];have he:ev T (.ite (.call im (.cons (.var 1) .nil)) (.call mi (.cons (.var 2) .nil)) (.var 2)) [sM M,sI (t:Int),some (sq N,.own)] = .ok (sq N,.mv [2]):=by
   rw[ev,hc,aA];show (iS (some (decide (4<=t)))).bind _=_;rw[aN,aA,if_neg (by simpa using h4)];rfl
  rw[aC,aT,he,aP];rfl
def aO (s:Slot):Prop:=s=none\/(∃ d,s=some (d,.own))\/(∃ d,s=some (d,.sh []))\/∃ d,s=some (d,.lk)
def Tame (env:En):Prop:=∀ s∈env,aO s
theorem aI:aO none:=.inl rfl
theorem aB (d:D):aO (some (d,.own)):=.inr (.inl ⟨d,rfl⟩)
theorem aZ (d:D):aO (some (d,.sh [])):=.inr (.inr (.inl ⟨d,rfl⟩))
theorem yz (d:D):aO (some (d,.lk)):=.inr (.inr (.inr ⟨d,rfl⟩))
theorem Tame.nil:Tame []:=fun _ h=>(nomatch h)
theorem Tame.cons {s:Slot}{e:En}(h:aO s)(t:Tame e):Tame (s::e):=fun x hx=>by
 rcases gc.mp hx with rfl | hx
 ·exact h
 ·exact t x hx
theorem Tame.set {e:En}{s:Slot}(t:Tame e)(h:aO s)(i:Nat):Tame (e.set i s):=fun x hx=>by
 rcases f9 hx with q | q
 ·exact t x q
 ·rw[q];exact h
theorem cO {env:En}(h:Tame env)(i:Nat)(d:D)(t:Tg):put env i d t=env.set i (some (d,t)):=by
 unfold put;have:env.map (fun (s:Slot)=>s.map fun (p:D×Tg)=>(p.1,p.2.drop i))=env:=by
  conv=>rhs;rw[<-List.map_id env]
  refine fh fun s hs=>?_
  rcases h s hs with rfl | ⟨d,rfl⟩ | ⟨d,rfl⟩ | ⟨d,rfl⟩<;>rfl
 rw[this]
theorem lI {env:En}(h:Tame env)(R:List Nat):kill R env=env.mapIdx fun i s=>if R.contains i then none else s:=by
 unfold kill;apply List.ext_getElem?;intro i;rw[List.getElem?_mapIdx,List.getElem?_mapIdx];cases q:env[i]? with
 |none=>rfl
 |some s =>
  rcases h s (List.mem_of_getElem? q) with rfl | ⟨d,rfl⟩ | ⟨d,rfl⟩ | ⟨d,rfl⟩
  ·simp
  ·simp[eV]
  ·simp[eV]
  ·simp[eV]
theorem pX {env:En}(h:Tame env)(x:Nat)(s:Slot):(kill [x] env).set x s=env.set x s:=by
 rw[lI h];apply List.ext_getElem?;intro i;by_cases hi:i=x
 ·subst hi;by_cases hl:i<env.length
  ·rw[List.getElem?_set_self (by simpa using hl),List.getElem?_set_self hl]
  ·rw[List.getElem?_eq_none (by simp;omega),List.getElem?_eq_none (by simp;omega)]
 ·rw[List.getElem?_set_ne (eg hi),List.getElem?_set_ne (eg hi),List.getElem?_mapIdx];cases q:env[i]? with
  |none=>rfl
  |some s=>simp[hi]
theorem vP {env:En}(h:Tame env)(x y:Nat)(s:Slot):(kill [x,y] env).set x s=(env.set y none).set x s:=by
 rw[lI h];apply List.ext_getElem?;intro i;by_cases hi:i=x
 ·subst hi;by_cases hl:i<env.length
  ·rw[List.getElem?_set_self (by simpa using hl),List.getElem?_set_self (by simpa using hl)]
  ·rw[List.getElem?_eq_none (by simp;omega),List.getElem?_eq_none (by simp;omega)]
 ·rw[List.getElem?_set_ne (eg hi),List.getElem?_set_ne (eg hi),List.getElem?_mapIdx];by_cases hy:i=y
  ·subst hy;by_cases hl:i<env.length
   ·rw[List.getElem?_set_self hl,List.getElem?_eq_getElem hl];simp
   ·rw[List.getElem?_eq_none (by omega),List.getElem?_eq_none (by simp;omega)];rfl
  ·rw[List.getElem?_set_ne (eg hy)];cases q:env[i]? with
   |none=>rfl
   |some s=>simp[hi,hy]
section
variable {T:Tb}{env:En}
theorem bO {i:Nat}{e:Ex}{d:D}(ht:Tame env)(hi:i<env.length)(h:ev T e env = .ok (d,.mv [])):aT T (.asg (.nm i) e false) env = .nx (env.set i (some (d,.own))):=by
 rw[aT,h,aP];show (if i<env.length then Fl.nx (put env i d .own) else .bad)=_;rw[if_pos hi,cO ht]
theorem fF {i:Nat}{d:D}(ht:Tame env)(hi:i<env.length):aV [] (.nm i) d env=some (env.set i (some (d,aW d []))):=by
 show (if i<env.length then some (put env i d (aW d [])) else none)=_;rw[if_pos hi,cO ht]
theorem gT {i:Nat}{d:D}(h:env[i]? = some (some (d,.own)))(hf:d.flat=false):ev T (.var i) env = .ok (d,.mv [i]):=by
 rw[ev,h];dsimp only;rw[hf];rfl
theorem aJ {i:Nat}{d:D}{t:Tg}(h:env[i]? = some (some (d,t)))(hf:d.flat=true):ev T (.var i) env = .ok (d,.mv []):=by
 rw[ev,h];dsimp only;rw[if_pos hf]
theorem pJ (xs:List D)(d:D):ug .append xs [d]=some (xs ++ [d]):=rfl
theorem zP {x:Nat}{e:Ex}{xs:List D}{d:D}(ht:Tame env)(hx:env[x]? = some (some (.lst xs,.own)))(h:ev T e env = .ok (d,.mv []))(hl:xs.length+1<=lim):aT T (.mut x .none .append (.cons e .nil)) env = .nx (env.set x (some (.lst (xs ++ [d]),.own))):=by
 have ho:ownAt env x=some (.lst xs):=by unfold ownAt;rw[hx]
 have hs:bN T (.cons e .nil) env = .ok [(d,.mv [])]:=by
  rw[bN,h,aA];rfl
 rw[aT,ho];simp only[jb,aP,D.at1,hs,List.map_cons,List.map_nil,pJ,aU,Rt.roots,List.flatten_cons,List.flatten_nil,List.append_nil,List.contains_nil,Bool.false_eq_true,if_false,nk.copies,eU,cU,Option.map_some];have:(xs ++ [d]).length<=lim:=by rw[dk];exact hl
 simp only[List.nodup_nil,decide_true,dD,List.all_nil,Bool.not_false,Bool.and_self,this,if_true,D.set1,Bool.true_and];rw[pX ht]
theorem vM {x y:Nat}{e:Ex}{xs:List D}{d d':D}(ht:Tame env)(hx:env[x]? = some (some (.lst xs,.own)))(hxy:y≠x)(hy:env[y]? = some (some (d',.own)))(h:ev T e env = .ok (d,.mv [y]))(hl:xs.length+1<=lim):aT T (.mut x .none .append (.cons e .nil)) env = .nx ((env.set y none).set x (some (.lst (xs ++ [d]),.own))):=by
 have ho:ownAt env x=some (.lst xs):=by unfold ownAt;rw[hx]
 have hs:bN T (.cons e .nil) env = .ok [(d,.mv [y])]:=by
  rw[bN,h,aA];rfl
 have hw:dD env [y]=true:=by simp[dD,hy]
 have hc:([y]:List Nat).contains x=false:=by simp[Ne.symm hxy]
 rw[aT,ho];simp only[jb,aP,D.at1,hs,List.map_cons,List.map_nil,pJ,aU,Rt.roots,List.flatten_cons,List.flatten_nil,List.append_nil,hc,Bool.false_eq_true,if_false,nk.copies,eU,cU,Option.map_some];have:(xs ++ [d]).length<=lim:=by rw[dk];exact hl
 have hn:([y]:List Nat).Nodup:=by simp
 simp only[hn,decide_true,hw,hc,Bool.not_false,Bool.and_self,this,if_true,D.set1,Bool.true_and];rw[vP ht]
theorem Ba {x:Nat}{p k e:Ex}{xs ys:List D}{d:D}{i l:Int}{j m:Nat}{R R':Rt}(ht:Tame env)(hx:env[x]? = some (some (.lst xs,.own)))(hp:ev T p env = .ok (.int i,R))(hi:Pc.fE xs.length i=some j)(hj:xs[j]? = some (.lst ys))(hk:ev T k env = .ok (.int l,R'))(hm:Pc.fE ys.length l=some m)(h:ev T e env = .ok (d,.mv []))(hl:ys.length<=lim) :
  aT T (.setix x (.some p) k e) env = .nx (env.set x (some (.lst (xs.set j (.lst (ys.set m d))),.own))):=by
 have ho:ownAt env x=some (.lst xs):=by unfold ownAt;rw[hx]
 have hat:D.at1 (.lst xs) (some i)=some ys:=by simp[D.at1,hi,hj]
 have hll:(ys.set m d).length<=lim:=by rw[da];exact hl
 rw[aT,ho];simp only[h,aP,jb,hp,aA,hat,hk,hm,eU,cU,Option.map_some,List.append_nil,List.nodup_nil,decide_true,dD,List.all_nil,List.contains_nil,Bool.not_false,Bool.and_self,hll,if_true,D.set1,hi,Bool.true_and];rw[pX ht]
theorem wQ {i j:Nat}{e:Ex}{x y:D}(ht:Tame env)(hi:i<env.length)(hj:j<env.length)(h:ev T e env = .ok (.tup [x,y],.mv [])):aT T (.asg (.tp [i,j]) e false) env = .nx ((env.set i (some (x,.own))).set j (some (y,.own))):=by
 rw[aT,h,aP];show uz (bindM (fun _=>Tg.own) [i,j] [x,y] env)=_;simp only[bindM,hi,if_true];rw[cO ht,if_pos (by rw[da];exact hj),cO (ht.set (aB x) i)];rfl
theorem ite_ff {c:Ex}{a:bW}{R:Rt}(h:ev T c env = .ok (.bl false,R)):aT T (.ite c a .nil) env = .nx env:=by
 rw[aT,h,aP];rfl
theorem wY {x:Nat}{d:D}(hx:env[x]? = some (some (d,.own))):lock [x] env=env.set x (some (d,.lk)):=by
 unfold lock;apply List.ext_getElem?;intro i;rw[List.getElem?_mapIdx];by_cases hi:i=x
 ·subst hi;have hl:i<env.length:=(List.getElem?_eq_some_iff.mp hx).1;rw[List.getElem?_set_self hl,hx];simp
 ·rw[List.getElem?_set_ne (eg hi)];cases q:env[i]? with
  |none=>rfl
  |some s =>
   cases s with
   |none=>rfl
   |some p =>
    obtain⟨d,t⟩:=p;cases t with
    |own=>simp[hi]
    |lk=>rfl
    |sh R=>rfl
theorem qO {x:Nat}{d d':D}{e:En}(hx:env[x]? = some (some (d,.own)))(he:e[x]? = some (some (d',.lk))):unlock [x] env e=e.set x (some (d',.own)):=by
 unfold unlock;apply List.ext_getElem?;intro i;rw[List.getElem?_mapIdx];by_cases hi:i=x
 ·subst hi;have hl:i<e.length:=(List.getElem?_eq_some_iff.mp he).1;rw[List.getElem?_set_self hl,he];simp[hx]
 ·rw[List.getElem?_set_ne (eg hi)];cases q:e[i]? with
  |none=>rfl
  |some s =>
   cases s with
   |none=>rfl
   |some p =>
    obtain⟨d,t⟩:=p;cases t with
    |own=>rfl
    |lk =>
     simp only[Option.map_some];split
     ·simp[hi]
     ·rfl
    |sh R=>rfl
theorem yq {t:jL}{it:qa}{b:bW}{e:En}{l:List D}{x:Nat}{d d':D}(hx:env[x]? = some (some (d,.own)))(hit:eA T it env = .ok (l,[x]))(h:bR t [x] (aC T b) l (env.set x (some (d,.lk))) = .nx e)(he:e[x]? = some (some (d',.lk))):aT T (.forr t it b) env = .nx (e.set x (some (d',.own))):=by
 rw[aT,hit,aP];dsimp only;rw[wY hx,h];dsimp only;rw[qO hx he]
end
end Pc
end
section
namespace Pc
noncomputable def ux (t:Nat):Nat:=if 4<=t then t else (4 - t)%4
theorem tR (n t r c:Nat)(ht:t<8)(hr:r<n)(hc:c<n):og n t (r,c)=dU n (ux t) (r,c):=by
 have:t=0\/t=1\/t=2\/t=3\/t=4\/t=5\/t=6\/t=7:=by omega
 have e1:n - 1 - (n - 1 - r)=r:=by omega
 have e2:n - 1 - (n - 1 - c)=c:=by omega
 rcases this with rfl | rfl | rfl | rfl | rfl | rfl | rfl | rfl<;>simp[dU,ko,og,ux,e1,e2]
theorem tw {n:Nat}{M:List (List D)}(h:cN n M){t:Nat}(ht:t<8):cK t M=gJ (ux t) M:=by
 refine Bi (jh h t) (jw h _) fun r c hr hc=>?_
 rw[tZ h t hr hc,mF h _ hr hc,tR n t r c ht hr hc]
theorem tab {n:Nat}{N:List (List D)}(h:cN n N):(List.range n).map (fun r=>(List.range n).map fun c=>ent N r c)=N:=by
 apply ec
 ·simp[h.len]
 ·intro r hr hr';apply ec
  ·simp[h.row _ (List.getElem_mem hr')]
  ·intro c hc hc';simp only[List.getElem_map,List.getElem_range];unfold ent;rw[List.getD_eq_getElem?_getD,List.getD_eq_getElem?_getD,List.getElem?_eq_getElem hr'];simp[hc']
end Pc
namespace Pc.Sm
open PySem Pc
noncomputable def b6:bW:=(.cons (.ret (.bin .Mod (.bin .Mult (.bin .Add (.bin .Add (.var 0) (.bin .Mult (.var 1) (.var 1))) (.cst (.int (1)))) (.var 2)) (.cst (.int (2305843009213693951)))))
  .nil)
noncomputable def e7:Ex:=.comp 1 [] (.nm 0) (.seq (.sl (.var 0) .none (.some (.cst (.int (63)))))) .none (.bin .Mod (.var 0) (.cst (.int (1000003))))
noncomputable def b7:bW:=(.cons (.ret (.call 6 (.cons (.blt .sum (.cons e7 .nil)) (.cons (.bin .Mod (.blt .len (.cons (.var 0) .nil)) (.cst (.int (64)))) (.cons (.var 1) .nil)))))
  .nil)
noncomputable def b8:bW:=(.cons (.ret (.ix (.lst (.cons (.cst (.int (15))) (.cons (.cst (.int (15))) (.cons (.cst (.int (15))) (.cons (.cst (.int (19))) (.cons (.cst (.int (15))) (.cons (.cst (.int (15))) (.cons (.cst (.int (23))) (.cons (.cst (.int (15))) (.cons (.cst (.int (19))) (.cons (.cst (.int (15))) (.cons (.cst (.int (27))) (.cons (.cst (.int (15))) (.cons (.cst (.int (15))) (.cons (.cst (.int (19))) (.cons (.cst (.int (15))) (.cons (.cst (.int (31))) .nil))))))))))))))))) (.bin .Mod (.var 0) (.cst (.int (16))))))
  .nil)
noncomputable def E6:bW:=(.cons (.asg (.nm 1) (.bin .Mod (.bin .Mult (.bin .Add (.var 1) (.var 5)) (.cst (.int (40692)))) (.cst (.int (2147483399)))) false)
  (.cons (.mut 4 .none .append (.cons (.ix (.lst (.cons (.cst (.int (0))) (.cons (.cst (.int (1))) (.cons (.cst (.int (0))) (.cons (.cst (.int (1))) (.cons (.cst .non) .nil)))))) (.bin .Mod (.bin .FloorDiv (.var 1) (.cst (.int (7)))) (.cst (.int (5))))) .nil))
  .nil))
noncomputable def s9:St:=.mut 2 .none .append (.cons (.var 4) .nil)
noncomputable def b9r:bW:=(.cons (.asg (.nm 4) (.lst .nil) false)
  (.cons (.forr (.nm 5) (.rng1 (.var 0)) E6)
  (.cons s9
  .nil)))
noncomputable def b9:bW:=(.cons (.asg (.nm 2) (.lst .nil) false)
  (.cons (.forr (.nm 3) (.rng1 (.var 0)) b9r)
  (.cons (.ret (.var 2))
  .nil)))
theorem yO (p:D×Rt):List.map (fun x:D×Rt=>x.1) [p]=[p.1]:=rfl
theorem D0 (p q:D×Rt):List.map (fun x:D×Rt=>x.1) [p,q]=[p.1,q.1]:=rfl
theorem iM {T:Tb}{f:Nat}{e1:Ex}{env:En}{d1 r:D}{R1:Rt}(h1:ev T e1 env = .ok (d1,R1))(h:T.cl f [d1] = .ok (r,true)):ev T (.call f (.cons e1 .nil)) env = .ok (r,.mv []):=by
 have:bN T (.cons e1 .nil) env = .ok [(d1,R1)]:=by
  rw[bN,h1,aA];rfl
 rw[ev,this,aA,yO,h,aA];rfl
theorem kW {T:Tb}{f:Nat}{e1 e2:Ex}{env:En}{d1 d2 r:D}{R1 R2:Rt}(h1:ev T e1 env = .ok (d1,R1))(h2:ev T e2 env = .ok (d2,R2))(h:T.cl f [d1,d2] = .ok (r,true)):ev T (.call f (.cons e1 (.cons e2 .nil))) env = .ok (r,.mv []):=by
 have:bN T (.cons e1 (.cons e2 .nil)) env = .ok [(d1,R1),(d2,R2)]:=by
  rw[bN,h1,aA,bN,h2,aA];rfl
 rw[ev,this,aA,D0,h,aA];rfl
theorem Cy {T:Tb}{e1 e2:Ex}{env:En}{d:D}{R1 R2:Rt}(h1:ev T e1 env = .ok (d,R1))(h2:ev T e2 env = .ok (d,R2))(he:D.eqf 40 d d=some true)(a:bW):aT T (.ite (.cmp .NotEq e1 e2) a .nil) env = .nx env:=by
 have h:ev T (.cmp .NotEq e1 e2) env = .ok (.bl false,.mv []):=by
  rw[ev,h1,aA,h2,aA];show (iS ((D.eqf 40 d d).map (!·))).bind _=_;rw[he];rfl
 rw[aT,h,aP];rfl
theorem Br {T:Tb}(c k f:Int)(hk:small k=true)(hf:small f=true):Pc.ret (aC T b6 (aD [.int c,.int k,.int f] 3)) = .ok (.int ((c+k*k+1)*f%2305843009213693951),true):=by
 have hst:aD [.int c,.int k,.int f] 3=[sI c,sI k,sI f]:=rfl;rw[hst];simp[b6,aC,aT,ev,aP,aA,aN,dR,Pc.binI,D.flat,dG,hk,hf,sd,dD,Pc.ret]
noncomputable def DG:List Nat:=[15,15,15,19,15,15,23,15,19,15,27,15,15,19,15,31]
noncomputable def e8:Ex:=(.lst (.cons (.cst (.int (15))) (.cons (.cst (.int (15))) (.cons (.cst (.int (15))) (.cons (.cst (.int (19))) (.cons (.cst (.int (15))) (.cons (.cst (.int (15))) (.cons (.cst (.int (23))) (.cons (.cst (.int (15))) (.cons (.cst (.int (19))) (.cons (.cst (.int (15))) (.cons (.cst (.int (27))) (.cons (.cst (.int (15))) (.cons (.cst (.int (15))) (.cons (.cst (.int (19))) (.cons (.cst (.int (15))) (.cons (.cst (.int (31))) .nil)))))))))))))))))
noncomputable def vL:List D:=DG.map fun (n:Nat)=>D.int (n:Int)
theorem cutA (ns:List D)(m:Nat)(hl:ns.length<=m)(M:Int)(hM:M=(m:Int)):slD (.lst ns) none (some M)=some (.lst ns):=by
 subst hM;show some (D.lst ((ns.drop 0).take ((if (m:Int)<0 then ((m:Int)+(ns.length:Int)).toNat else min (m:Int).toNat ns.length) - 0)))=_;rw[if_neg (by omega),dh,Nat.min_eq_right hl,Nat.sub_zero,List.drop_zero,List.take_length]
theorem sum_ints:∀(l:List Int) (a:Int),qx a (l.map D.int)=some (a+l.sum)
 |[],a=>by simp[qx]
 | x::r,a=>by
  rw[ba,qx,sum_ints r,List.sum_cons];congr 1;omega
theorem zM {T:Tb}(h6:∀ c k f:Int,small k=true->small f=true->T.cl 6 [.int c,.int k,.int f] = .ok (.int ((c+k*k+1)*f%2305843009213693951),true))(ns:List Int)(hl:ns.length<=63)(f:Int)(hf:small f=true):∃ X:Int,0<=X/\Pc.ret (aC T b7 (aD [.lst (ns.map D.int),.int f] 2)) = .ok (.int X,true):=by
 have hst:aD [.lst (ns.map D.int),.int f] 2=[sS (ns.map D.int),sI f]:=rfl;rw[hst];have hc:=cutA (ns.map D.int) 63 (by rw[ai];exact hl) 63 rfl;have hit:eA T (.seq (.sl (.var 0) .none (.some (.cst (.int (63)))))) [sS (ns.map D.int),sI f] = .ok (ns.map D.int,[]):=by
  have e1:ev T (.sl (.var 0) .none (.some (.cst (.int (63))))) [sS (ns.map D.int),sI f] = .ok (.lst (ns.map D.int),.mv []):=by
   simp only[ev,jb,List.getElem?_cons_zero,aA,hc,aN,qj]
  rw[eA,e1,aA];rfl
 have he:ev T e7 [sS (ns.map D.int),sI f] = .ok (.lst ((ns.map fun c=>c%1000003).map D.int),.mv []):=by
  unfold e7;rw[iT (g:=fun d=>match d with | .int c=>(.int (c%1000003),.mv []) | _=>(.non,.mv [])) hit (by rw[ai];exact gY (by omega)) (fun d hd=>?_) (fun d hd=>?_)]
  ·rw[dm,dm];rfl
  ·obtain⟨c,_,rfl⟩:=gr.mp hd;rfl
  ·obtain⟨c,_,rfl⟩:=gr.mp hd;rfl
 have hs:iL .sum [.lst ((ns.map fun c=>c%1000003).map D.int)]=some (.int (0+(ns.map fun c=>c%1000003).sum)):=by
  show (qx 0 ((ns.map fun c=>c%1000003).map D.int)).map D.int=_;rw[sum_ints];rfl
 generalize 0+(ns.map fun c=>c%1000003).sum=s at hs;generalize (ns.map fun c=>c%1000003).map D.int=L at he hs;have hlen:iL .len [.lst (ns.map D.int)]=some (.int (ns.length:Int)):=by
  show some (D.int ((ns.map D.int).length:Int))=_;rw[ai]
 have hN:small ((ns.length:Int)%64)=true:=wX (by omega) (by omega);generalize (ns.length:Int)=N at hlen hN;have e2:ev T (.blt .sum (.cons e7 .nil)) [sS (ns.map D.int),sI f] = .ok (.int s,.mv []):=by
  have h1:bN T (.cons e7 .nil) [sS (ns.map D.int),sI f] = .ok [(.lst L,.mv [])]:=by
   rw[bN,he,aA];rfl
  rw[ev,h1,aA,show List.map (fun x:D×Rt=>x.1) [(D.lst L,Rt.mv [])]=[.lst L] from rfl,hs,aN,aA];rfl
 have e3:ev T (.bin .Mod (.blt .len (.cons (.var 0) .nil)) (.cst (.int (64)))) [sS (ns.map D.int),sI f] = .ok (.int (N%64),.mv []):=by
  simp[ev,bN,aA,D.flat,hlen,aN,dR,Pc.binI,dG]
 have e4:bN T (.cons (.blt .sum (.cons e7 .nil)) (.cons (.bin .Mod (.blt .len (.cons (.var 0) .nil)) (.cst (.int (64)))) (.cons (.var 1) .nil))) [sS (ns.map D.int),sI f] = .ok [(.int s,.mv []),(.int (N%64),.mv []),(.int f,.mv [])]:=by
  rw[bN,e2,aA,bN,e3,aA];rfl
 refine⟨(s+N%64*(N%64)+1)*f%2305843009213693951,by omega,?_⟩;refine gG ?_;rw[ev,e4,aA,show List.map (fun x:D×Rt=>x.1) [(D.int s,Rt.mv []),(.int (N%64),.mv []),(.int f,.mv [])]=[.int s,.int (N%64),.int f] from rfl];have:=h6 s (N%64) f hN hf;rw[this,aA];rfl
def C3 (o:Slot):Prop:=o=none\/∃ c,o=sI c
noncomputable abbrev sO (L:List D):Slot:=some (.lst L,.own)
theorem qG (T:Tb)(n m m' row col:Int)(R L:List D)(v:D)(hm:(m+col)*40692%2147483399=m')(hv:t6 (.lst [.int 0,.int 1,.int 0,.int 1,.non]) (.int (m' / 7%5))=some v)(hf:v.flat=true)(hL:L.length+1<=lim) :
  aC T E6 [sI n,sI m,sO R,sI row,sO L,sI col] = .nx [sI n,sI m',sO R,sI row,sO (L ++ [v]),sI col]:=by
 have s1:small 40692=true:=by decide
 have g1:aT T (.asg (.nm 1) (.bin .Mod (.bin .Mult (.bin .Add (.var 1) (.var 5)) (.cst (.int (40692)))) (.cst (.int (2147483399)))) false) [sI n,sI m,sO R,sI row,sO L,sI col] = .nx [sI n,sI m',sO R,sI row,sO L,sI col]:=by
  simp[aT,ev,aA,aP,aN,dR,Pc.binI,D.flat,dG,qh,put,Tg.drop,s1,hm]
 have g0:ev T (.lst (.cons (.cst (.int (0))) (.cons (.cst (.int (1))) (.cons (.cst (.int (0))) (.cons (.cst (.int (1))) (.cons (.cst .non) .nil)))))) [sI n,sI m',sO R,sI row,sO L,sI col] = .ok (.lst [.int 0,.int 1,.int 0,.int 1,.non],.mv []):=rfl;have g2:ev T (.bin .Mod (.bin .FloorDiv (.var 1) (.cst (.int (7)))) (.cst (.int (5)))) [sI n,sI m',sO R,sI row,sO L,sI col] = .ok (.int (m' / 7%5),.mv []):=rfl;have g3:bN T (.cons (.ix (.lst (.cons (.cst (.int (0))) (.cons (.cst (.int (1))) (.cons (.cst (.int (0))) (.cons (.cst (.int (1))) (.cons (.cst .non) .nil)))))) (.bin .Mod (.bin .FloorDiv (.var 1) (.cst (.int (7)))) (.cst (.int (5))))) .nil) [sI n,sI m',sO R,sI row,sO L,sI col] = .ok [(v,.mv [])]:=by
  rw[bN,ev,g0,aA,g2,aA,hv,aN,aA];simp[iF,hf,bN,aA]
 unfold E6;rw[aC,g1,aM,aC,aT];simp[ownAt,jb,D.at1,aP,g3,ug,eU,cU,dD,kill,eV,D.set1,aU,Rt.roots,nk.copies,hL,aM,aC]
theorem A1 (T:Tb)(n m row:Int)(R L:List D)(o5:Slot)(h5:C3 o5)(hR:R.length+1<=lim):aT T s9 [sI n,sI m,sO R,sI row,sO L,o5] = .nx [sI n,sI m,sO (R ++ [.lst L]),sI row,none,o5]:=by
 have g:bN T (.cons (.var 4) .nil) [sI n,sI m,sO R,sI row,sO L,o5] = .ok [(.lst L,.mv [4])]:=rfl;rcases h5 with rfl | ⟨c,rfl⟩ <;>
  simp[s9,aT,ownAt,jb,D.at1,aP,g,ug,eU,cU,dD,kill,eV,D.set1,aU,Rt.roots,nk.copies,hR]
def JC (n row:Int)(R:List D)(k:Nat)(e:En):Prop:=∃(m:Int) (L:List D) (o5:Slot),L.length=k/\(∀ d∈L,sE d=true)/\C3 o5/\e=[sI n,sI m,sO R,sI row,sO L,o5]
theorem De (j:Int):∃ v:D,t6 (.lst [.int 0,.int 1,.int 0,.int 1,.non]) (.int (j%5))=some v/\sE v=true:=by
 obtain⟨k,hk,hk'⟩:=iN (a:=j%5) (m:=5) (by omega) (by omega);rw[hk];have:k=0\/k=1\/k=2\/k=3\/k=4:=by omega
 rcases this with rfl | rfl | rfl | rfl | rfl
 ·exact⟨_,rfl,rfl⟩
 ·exact⟨_,rfl,rfl⟩
 ·exact⟨_,rfl,rfl⟩
 ·exact⟨_,rfl,rfl⟩
 ·exact⟨_,rfl,rfl⟩
theorem qZ (T:Tb)(n row:Int)(R:List D)(k:Nat)(hk:k<1000)(c:Int)(e:En)(h:JC n row R k e):∃ e1 e2,aV [] (.nm 5) (.int c) e=some e1/\aC T E6 e1 = .nx e2/\JC n row R (k+1) e2:=by
 obtain⟨m,L,o5,h1,h2,h3,rfl⟩:=h;have hb:aV [] (.nm 5) (.int c) [sI n,sI m,sO R,sI row,sO L,o5]=some [sI n,sI m,sO R,sI row,sO L,sI c]:=by
  simp[aV,put,Tg.drop,aW,D.flat]
 obtain⟨v,v1,v2⟩:=De ((m+c)*40692%2147483399 / 7);refine⟨_,_,hb,qG T n m _ row c R L v rfl v1 (gQ v2) (by rw[h1];exact gY (by omega)),?_⟩;refine⟨_,_,_,by simp[h1],fun d hd=>?_,.inr ⟨_,rfl⟩,rfl⟩;rcases List.mem_append.mp hd with hd | hd
 ·exact h2 d hd
 ·rw[List.mem_singleton.mp hd];exact v2
theorem Av (T:Tb)(n:Nat)(hn:n<=1000)(r:En):eA T (.rng1 (.var 0)) (sN n::r) = .ok (aQ 0 1 n,[]):=by
 have:=fQ T (sI (n:Int)::r) (.var 0) (n:Int) (.mv []) rfl (oV hn);rw[dh] at this;exact this
theorem fJ:∀(n:Nat) (a s:Int),(aQ a s n).length=n
 |0,_,_=>rfl
 |n+1,a,s=>by rw[aQ,az,fJ]
def JR (n:Nat)(k:Nat)(e:En):Prop:=∃(m:Int) (M:List (List D)) (o3 o5:Slot),M.length=k/\(∀ r∈M,r.length=n)/\(∀ r∈M,∀ d∈r,sE d=true)/\C3 o3/\C3 o5/\e=[sN n,sI m,some (sq M,.own),o3,none,o5]
theorem qK (T:Tb)(n:Nat)(hn:n<=1000)(k:Nat)(hk:k<1000)(c:Int)(e:En)(h:JR n k e):∃ e1 e2,aV [] (.nm 3) (.int c) e=some e1/\aC T b9r e1 = .nx e2/\JR n (k+1) e2:=by
 obtain⟨m,M,o3,o5,h1,h2,h3,h4,h5,rfl⟩:=h;have hb:∃ o5',C3 o5'/\aV [] (.nm 3) (.int c) [sN n,sI m,some (sq M,.own),o3,none,o5]=some [sN n,sI m,some (sq M,.own),sI c,none,o5']:=by
  rcases h5 with rfl | ⟨z,rfl⟩
  ·exact⟨none,.inl rfl,by simp[aV,put,Tg.drop,aW,D.flat]⟩
  ·exact⟨sI z,.inr ⟨z,rfl⟩,by simp[aV,put,Tg.drop,aW,D.flat]⟩
 obtain⟨o5',h5',hb⟩:=hb;have g1:∃ o,C3 o/\aT T (.asg (.nm 4) (.lst .nil) false) [sN n,sI m,some (sq M,.own),sI c,none,o5'] = .nx [sN n,sI m,some (sq M,.own),sI c,sO [],o]:=by
  rcases h5' with rfl | ⟨z,rfl⟩
  ·exact⟨none,.inl rfl,rfl⟩
  ·exact⟨sI z,.inr ⟨z,rfl⟩,rfl⟩
 obtain⟨o,ho,g1⟩:=g1;obtain⟨e,q1,q2⟩:=gR (t:=.nm 5) (R:=[]) (b:=aC T E6) (JC n c (M.map D.lst)) (aQ 0 1 n) 0 [sN n,sI m,some (sq M,.own),sI c,sO [],o] ⟨m,[],o,rfl,fun _ h=>(nomatch h),ho,rfl⟩ (fun i d e hi hj=>by
  obtain⟨i1,rfl⟩:=fP _ _ _ _ hi;rw[eh] at hj ⊢;exact qZ T n c _ i (by omega) _ e hj)
 rw[fJ,eh] at q2;obtain⟨m',L,o',l1,l2,l3,rfl⟩:=q2;have g2:=eR (T:=T) (Av T n hn [sI m,some (sq M,.own),sI c,sO [],o]) q1;have g3:=A1 T n m' c (M.map D.lst) L o' l3 (by rw[ai,h1];exact gY (by omega));refine⟨_,[sI (n:Int),sI m',sO (M.map D.lst ++ [D.lst L]),sI c,none,o'],hb,?_,m',M ++ [L],sI c,o',by simp[h1],fun r hr=>?_,fun r hr=>?_,.inr ⟨c,rfl⟩,l3,by simp[sq]⟩
 ·unfold b9r;rw[aC,g1,aM,aC,g2,aM,aC,g3,aM];rfl
 ·rcases List.mem_append.mp hr with hr | hr
  ·exact h2 r hr
  ·rw[List.mem_singleton.mp hr];exact l1
 ·rcases List.mem_append.mp hr with hr | hr
  ·exact h3 r hr
  ·rw[List.mem_singleton.mp hr];exact l2
theorem uF {T:Tb}(n:Nat)(hn:n<=1000)(m:Int):∃ M,cN n M/\Pc.ret (aC T b9 (aD [.int (n:Int),.int m] 6)) = .ok (sq M,true):=by
 have hst:aD [.int (n:Int),.int m] 6=[sN n,sI m,none,none,none,none]:=rfl;rw[hst];have g1:aT T (.asg (.nm 2) (.lst .nil) false) [sN n,sI m,none,none,none,none] = .nx [sN n,sI m,some (sq [],.own),none,none,none]:=rfl;obtain⟨e,q1,q2⟩:=gR (t:=.nm 3) (R:=[]) (b:=aC T b9r) (JR n) (aQ 0 1 n) 0 [sN n,sI m,some (sq [],.own),none,none,none] ⟨m,[],none,none,rfl,fun _ h=>(nomatch h),fun _ h=>(nomatch h),.inl rfl,.inl rfl,rfl⟩ (fun i d e hi hj=>by
  obtain⟨i1,rfl⟩:=fP _ _ _ _ hi;rw[eh] at hj ⊢;exact qK T n hn i (by omega) _ e hj)
 rw[fJ,eh] at q2;obtain⟨m',M,o3,o5,l1,l2,l3,_,_,rfl⟩:=q2;have g2:=eR (T:=T) (Av T n hn [sI m,some (sq [],.own),none,none,none]) q1;refine⟨M,⟨l1,l2,l3⟩,?_⟩;unfold b9;rw[aC,g1,aM,aC,g2,aM];have g3:ev T (.var 2) [sN n,sI m',some (sq M,.own),o3,none,o5] = .ok (sq M,.mv [2]):=rfl;rw[aC,aT,g3,aP];rfl
theorem E3 (j:Int):∃ v:D,t6 (.lst [.int 0,.int 1,.non]) (.int (j%3))=some v/\sE v=true:=by
 obtain⟨k,hk,hk'⟩:=iN (a:=j%3) (m:=3) (by omega) (by omega);rw[hk];have:k=0\/k=1\/k=2:=by omega
 rcases this with rfl | rfl | rfl
 ·exact⟨_,rfl,rfl⟩
 ·exact⟨_,rfl,rfl⟩
 ·exact⟨_,rfl,rfl⟩
theorem zw {n:Nat}{M:List (List D)}(h:cN n M){i j:Nat}{row:List D}{v:D}(hr:M[i]? = some row)(hv:sE v=true):cN n (M.set i (row.set j v)) where
 len:=by rw[da];exact h.len
 row:=fun r hr'=>by
  rcases f9 hr' with q | q
  ·exact h.row r q
  ·rw[q,da];exact h.row row (List.mem_of_getElem? hr)
 cell:=fun r hr' d hd=>by
  rcases f9 hr' with q | q
  ·exact h.cell r q d hd
  ·rw[q] at hd;rcases f9 hd with q' | q'
   ·exact h.cell row (List.mem_of_getElem? hr) d q'
   ·rw[q'];exact hv
end Pc.Sm
end
section
namespace K39
open PySem Pc
noncomputable abbrev cM:Nat:=85
noncomputable abbrev yW:D:=.mpz [(((cM:Nat):Int),.tr)]
noncomputable def lT:List D->Option D
 |[.int n,.int k,.int m]=>if (0<=n/\n<=1000)/\0<=k then some (.lst ((bZ ((bA n.toNat m).take k.toNat)).map .int)) else none
 |_=>none
noncomputable def xcD:List D->Option D:=fun _=>some yW
noncomputable def A7:List D->Option D
 | [.mpz [(c,.tr)]]=>if c=((cM:Nat):Int) then some (.bl true) else none
 |_=>none
noncomputable def b0:bW:=(.cons (.ret (.blt .len (.cons (.comp 3 [0] (.tp [0,1,2]) (.seq (.call 12 (.cons (.blt .len (.cons (.var 0) .nil)) .nil))) (.some (.cmp .NotEq (.ix (.ix (.var 3) (.var 0)) (.var 1)) (.var 2))) (.var 2)) .nil)))
  .nil)
noncomputable def b1:bW:=(.cons (.asg (.nm 2) (.call 4 (.cons (.var 0) (.cons (.bin .Mod (.bin .Sub (.glb 0) (.bin .Mod (.var 1) (.glb 0))) (.glb 0)) .nil))) false)
  (.cons (.ret (.ite (.call 2 (.cons (.var 1) .nil)) (.call 3 (.cons (.var 2) .nil)) (.var 2)))
  .nil))
noncomputable def b2:bW:=(.cons (.ret (.cmp .GtE (.var 0) (.glb 0)))
  .nil)
noncomputable def b3:bW:=(.cons (.ret (.comp 1 [] (.nm 0) (.seq (.var 0)) .none (.blt .lrev (.cons (.var 0) .nil))))
  .nil)
noncomputable def b4:bW:=(.cons (.asg (.nm 2) (.comp 1 [] (.nm 0) (.seq (.var 0)) .none (.blt .list (.cons (.var 0) .nil))) false)
  (.cons (.forr (.nm 3) (.rng1 (.var 1)) (.cons (.asg (.nm 2) (.comp 1 [2] (.nm 0) (.rng1 (.blt .len (.cons (.var 2) .nil))) .none (.call 5 (.cons (.var 1) (.cons (.var 0) .nil)))) false)
  .nil))
  (.cons (.ret (.var 2))
  .nil)))
noncomputable def b5:bW:=(.cons (.ret (.comp 1 [1] (.nm 0) (.rev (.var 0)) .none (.ix (.var 0) (.var 1))))
  .nil)
noncomputable def b6:bW:=(.cons (.ret (.bin .Mod (.bin .Mult (.bin .Add (.bin .Add (.var 0) (.bin .Mult (.var 1) (.var 1))) (.cst (.int (1)))) (.var 2)) (.cst (.int (2305843009213693951)))))
  .nil)
noncomputable def b7:bW:=(.cons (.ret (.call 6 (.cons (.blt .sum (.cons (.comp 1 [] (.nm 0) (.seq (.sl (.var 0) .none (.some (.cst (.int (63)))))) .none (.bin .Mod (.var 0) (.cst (.int (1000003))))) .nil)) (.cons (.bin .Mod (.blt .len (.cons (.var 0) .nil)) (.cst (.int (64)))) (.cons (.var 1) .nil)))))
  .nil)
noncomputable def b8:bW:=(.cons (.ret (.ix (.lst (.cons (.cst (.int (15))) (.cons (.cst (.int (15))) (.cons (.cst (.int (15))) (.cons (.cst (.int (19))) (.cons (.cst (.int (15))) (.cons (.cst (.int (15))) (.cons (.cst (.int (23))) (.cons (.cst (.int (15))) (.cons (.cst (.int (19))) (.cons (.cst (.int (15))) (.cons (.cst (.int (27))) (.cons (.cst (.int (15))) (.cons (.cst (.int (15))) (.cons (.cst (.int (19))) (.cons (.cst (.int (15))) (.cons (.cst (.int (31))) .nil))))))))))))))))) (.bin .Mod (.var 0) (.cst (.int (16))))))
  .nil)
noncomputable def b9:bW:=(.cons (.asg (.nm 2) (.lst .nil) false)
  (.cons (.forr (.nm 3) (.rng1 (.var 0)) (.cons (.asg (.nm 4) (.lst .nil) false)
  (.cons (.forr (.nm 5) (.rng1 (.var 0)) (.cons (.asg (.nm 1) (.bin .Mod (.bin .Mult (.bin .Add (.var 1) (.var 5)) (.cst (.int (40692)))) (.cst (.int (2147483399)))) false)
  (.cons (.mut 4 .none .append (.cons (.ix (.lst (.cons (.cst (.int (0))) (.cons (.cst (.int (1))) (.cons (.cst (.int (0))) (.cons (.cst (.int (1))) (.cons (.cst .non) .nil)))))) (.bin .Mod (.bin .FloorDiv (.var 1) (.cst (.int (7)))) (.cst (.int (5))))) .nil))
  .nil)))
  (.cons (.mut 2 .none .append (.cons (.var 4) .nil))
  .nil))))
  (.cons (.ret (.var 2))
  .nil)))
noncomputable def b10:bW:=(.cons (.ret (.comp 1 [] (.nm 0) (.seq (.var 0)) .none (.blt .list (.cons (.var 0) .nil))))
  .nil)
noncomputable def C1:bW:=(.cons (.asg (.nm 2) (.bin .Sub (.blt .len (.cons (.var 0) .nil)) (.cst (.int (1)))) false)
  (.cons (.asg (.nm 3) (.lst .nil) false)
  (.cons (.forr (.nm 4) (.rng1 (.bin .Add (.var 2) (.cst (.int (1))))) (.cons (.asg (.nm 5) (.lst .nil) false)
  (.cons (.forr (.nm 6) (.rng1 (.bin .Add (.var 2) (.cst (.int (1))))) (.cons (.asg (.tp [7,8]) (.ix (.lst (.cons (.tup (.cons (.var 4) (.cons (.var 6) .nil))) (.cons (.tup (.cons (.bin .Sub (.var 2) (.var 6)) (.cons (.var 4) .nil))) (.cons (.tup (.cons (.bin .Sub (.var 2) (.var 4)) (.cons (.bin .Sub (.var 2) (.var 6)) .nil))) (.cons (.tup (.cons (.var 6) (.cons (.bin .Sub (.var 2) (.var 4)) .nil))) .nil))))) (.bin .Mod (.var 1) (.cst (.int (4))))) false)
  (.cons (.ite (.cmp .GtE (.var 1) (.cst (.int (4)))) (.cons (.asg (.nm 8) (.bin .Sub (.var 2) (.var 8)) false)
  .nil) .nil)
  (.cons (.mut 5 .none .append (.cons (.ix (.ix (.var 0) (.var 7)) (.var 8)) .nil))
  .nil))))
  (.cons (.mut 3 .none .append (.cons (.var 5) .nil))
  .nil))))
  (.cons (.ret (.var 3))
  .nil))))
noncomputable def b12:bW:=(.cons (.asg (.nm 1) (.bin .Add (.blt .lrng (.cons (.glb 1) .nil)) (.blt .lrng (.cons (.bin .Sub (.var 0) (.glb 1)) (.cons (.var 0) .nil)))) false)
  (.cons (.asg (.nm 2) (.lst .nil) false)
  (.cons (.forr (.nm 3) (.seq (.var 1)) (.cons (.forr (.nm 4) (.seq (.var 1)) (.cons (.mut 2 .none .append (.cons (.tup (.cons (.var 3) (.cons (.var 4) (.cons (.call 13 (.cons (.var 0) (.cons (.var 3) (.cons (.var 4) .nil)))) .nil)))) .nil))
  .nil))
  .nil))
  (.cons (.ret (.var 2))
  .nil))))
noncomputable def b13:bW:=(.cons (.asg (.nm 3) (.blt .min2 (.cons (.call 14 (.cons (.var 0) (.cons (.var 1) .nil))) (.cons (.call 14 (.cons (.var 0) (.cons (.var 2) .nil))) .nil))) false)
  (.cons (.ite (.cmp .GtE (.var 1) (.glb 1)) (.cons (.ret (.ix (.glb 4) (.var 3)))
  .nil) .nil)
  (.cons (.ite (.cmp .GtE (.var 2) (.glb 1)) (.cons (.ret (.ix (.glb 3) (.var 3)))
  .nil) .nil)
  (.cons (.ret (.ix (.glb 2) (.var 3)))
  .nil))))
noncomputable def b14:bW:=(.cons (.asg (.nm 2) (.ite (.cmp .Lt (.var 1) (.glb 1)) (.var 1) (.bin .Sub (.var 1) (.bin .Sub (.var 0) (.glb 1)))) false)
  (.cons (.ret (.blt .min2 (.cons (.var 2) (.cons (.bin .Sub (.bin .Sub (.glb 1) (.cst (.int (1)))) (.var 2)) .nil))))
  .nil))
noncomputable def b15:bW:=(.cons (.forr (.nm 1) (.rng1 (.glb 5)) (.cons (.asg (.nm 2) (.call 0 (.cons (.call 1 (.cons (.var 0) (.cons (.var 1) .nil))) .nil)) false)
  (.cons (.ite (.cmp .LtE (.var 2) (.glb 6)) (.cons (.ret (.tup (.cons (.var 1) (.cons (.var 2) .nil))))
  .nil) .nil)
  .nil)))
  (.cons (.expr (.neg (.cst .non)))
  .nil))
noncomputable def b16:bW:=(.cons (.asg (.nm 1) (.lst .nil) false)
  (.cons (.forr (.nm 2) (.rng1 (.var 0)) (.cons (.forr (.nm 3) (.rng1 (.var 0)) (.cons (.ite (.and (.or (.cmp .Lt (.var 2) (.cst (.int (5)))) (.cmp .GtE (.var 2) (.bin .Sub (.var 0) (.cst (.int (5)))))) (.or (.cmp .Lt (.var 3) (.cst (.int (5)))) (.cmp .GtE (.var 3) (.bin .Sub (.var 0) (.cst (.int (5))))))) (.cons (.asg (.nm 4) (.bin .Sub (.var 2) (.bin .Mult (.bin .Sub (.var 0) (.cst (.int (5)))) (.blt .int (.cons (.cmp .GtE (.var 2) (.cst (.int (5)))) .nil)))) false)
  (.cons (.asg (.nm 5) (.bin .Sub (.var 3) (.bin .Mult (.bin .Sub (.var 0) (.cst (.int (5)))) (.blt .int (.cons (.cmp .GtE (.var 3) (.cst (.int (5)))) .nil)))) false)
  (.cons (.asg (.nm 6) (.blt .min2 (.cons (.var 4) (.cons (.bin .Sub (.cst (.int (4))) (.var 4)) (.cons (.var 5) (.cons (.bin .Sub (.cst (.int (4))) (.var 5)) .nil))))) false)
  (.cons (.asg (.nm 7) (.ix (.lst (.cons (.lst (.cons (.tup (.cons (.cst (.int (1))) (.cons (.cst (.int (0))) (.cons (.cst (.int (1))) .nil)))) (.cons (.tup (.cons (.cst (.int (1))) (.cons (.cst (.int (1))) (.cons (.cst (.int (0))) .nil)))) .nil))) (.cons (.lst (.cons (.tup (.cons (.cst (.int (0))) (.cons (.cst (.int (1))) (.cons (.cst (.int (0))) .nil)))) (.cons (.tup (.cons (.cst (.int (0))) (.cons (.cst (.int (1))) (.cons (.cst (.int (0))) .nil)))) .nil))) .nil))) (.blt .int (.cons (.cmp .GtE (.var 2) (.cst (.int (5)))) .nil))) false)
  (.cons (.mut 1 .none .append (.cons (.tup (.cons (.var 2) (.cons (.var 3) (.cons (.ix (.ix (.var 7) (.blt .int (.cons (.cmp .GtE (.var 3) (.cst (.int (5)))) .nil))) (.var 6)) .nil)))) .nil))
  .nil))))) .nil)
  .nil))
  .nil))
  (.cons (.ret (.var 1))
  .nil)))
noncomputable def Bc:bW:=(.cons (.ret (.app lT (.cons (.var 0) (.cons (.var 1) (.cons (.var 2) .nil))))) .nil)
noncomputable def zT:bW:=(.cons (.ite (.cmp .Eq (.bin .Mod (.var 1) (.cst (.int (3)))) (.cst (.int (0)))) (.cons (.ret (.cst .non))
  .nil) .nil)
  (.cons (.ret (.bin .Sub (.cst (.int (1))) (.var 0)))
  .nil))
noncomputable def b19:bW:=(.cons (.ret (.and (.blt (.isi "int") (.cons (.var 0) .nil)) (.not (.blt (.isi "bool") (.cons (.var 0) .nil)))))
  .nil)
noncomputable def b20:bW:=(.cons (.ite (.cmp .GtE (.var 0) (.cst (.int (4)))) (.cons (.ret (.var 0))
  .nil) .nil)
  (.cons (.ret (.bin .Mod (.neg (.var 0)) (.cst (.int (4)))))
  .nil))
noncomputable def b21:bW:=(.cons (.forr (.nm 2) (.rng1 (.cst (.int (8)))) (.cons (.asg (.nm 3) (.call 11 (.cons (.var 0) (.cons (.call 20 (.cons (.var 2) .nil)) .nil))) false)
  (.cons (.asg (.nm 4) (.blt .len (.cons (.comp 3 [3] (.tp [0,1,2]) (.seq (.var 1)) (.some (.cmp .NotEq (.ix (.ix (.var 3) (.var 0)) (.var 1)) (.var 2))) (.cst (.int (1)))) .nil)) false)
  (.cons (.ite (.cmp .LtE (.var 4) (.cst (.int (8)))) (.cons (.ret (.tup (.cons (.var 2) (.cons (.var 4) .nil))))
  .nil) .nil)
  .nil))))
  (.cons (.ret (.cst .non))
  .nil))
noncomputable def DD:bW:=(.cons (.forr (.nm 1) (.rng1 (.glb 5)) (.cons (.asg (.nm 2) (.call 0 (.cons (.call 1 (.cons (.var 0) (.cons (.var 1) .nil))) .nil)) false)
  (.cons (.ite (.cmp .LtE (.var 2) (.glb 6)) (.cons (.ret (.tup (.cons (.var 1) (.cons (.var 2) .nil))))
  .nil) .nil)
  .nil)))
  (.cons (.ret (.app xcD .nil)) .nil))
noncomputable def b23:bW:=(.cons (.ret (.app A7 (.cons (.var 0) .nil))) .nil)
noncomputable def b24:bW:=(.cons (.asg (.nm 1) (.call 7 (.cons (.var 0) (.cons (.cst (.int (765432198765432199))) .nil))) false)
  (.cons (.asg (.nm 2) (.call 8 (.cons (.var 1) .nil)) false)
  (.cons (.asg (.nm 3) (.call 9 (.cons (.var 2) (.cons (.bin .Mod (.bin .FloorDiv (.var 1) (.cst (.int (16)))) (.cst (.int (2147483399)))) .nil))) false)
  (.cons (.forr (.nm 4) (.rng1 (.blt .min2 (.cons (.cst (.int (63))) (.cons (.blt .len (.cons (.var 0) .nil)) .nil)))) (.cons (.asg (.nm 5) (.call 6 (.cons (.ix (.var 0) (.var 4)) (.cons (.var 4) (.cons (.cst (.int (1234567890123456789))) .nil)))) false)
  (.cons (.setix 3 (.some (.bin .Mod (.var 5) (.var 2))) (.bin .Mod (.bin .FloorDiv (.var 5) (.cst (.int (31)))) (.var 2)) (.ix (.lst (.cons (.cst (.int (0))) (.cons (.cst (.int (1))) (.cons (.cst .non) .nil)))) (.bin .Mod (.bin .FloorDiv (.var 5) (.cst (.int (961)))) (.cst (.int (3))))))
  .nil)))
  (.cons (.asg (.nm 6) (.call 16 (.cons (.var 2) .nil)) false)
  (.cons (.forr (.tp [7,8,9]) (.seq (.var 6)) (.cons (.setix 3 (.some (.var 7)) (.var 8) (.var 9))
  .nil))
  (.cons (.asg (.nm 10) (.bin .Mod (.bin .FloorDiv (.var 1) (.cst (.int (1009)))) (.cst (.int (18)))) false)
  (.cons (.ite (.cmp .Eq (.bin .Mod (.bin .FloorDiv (.var 1) (.cst (.int (18162)))) (.cst (.int (4)))) (.cst (.int (1)))) (.cons (.asg (.nm 10) (.bin .Mod (.bin .FloorDiv (.var 1) (.cst (.int (72648)))) (.cst (.int (101)))) false)
  .nil) .nil)
  (.cons (.forr (.nm 4) (.seq (.call 17 (.cons (.cst (.int (100))) (.cons (.var 10) (.cons (.bin .Mod (.bin .FloorDiv (.var 1) (.cst (.int (7)))) (.cst (.int (2147483399)))) .nil))))) (.cons (.asg (.tp [7,8,9]) (.ix (.var 6) (.var 4)) false)
  (.cons (.setix 3 (.some (.var 7)) (.var 8) (.call 18 (.cons (.var 9) (.cons (.bin .Add (.bin .FloorDiv (.var 1) (.cst (.int (3)))) (.bin .Mult (.var 4) (.var 4))) .nil))))
  .nil)))
  (.cons (.asg (.nm 3) (.call 11 (.cons (.var 3) (.cons (.bin .Mod (.bin .FloorDiv (.var 1) (.cst (.int (5)))) (.cst (.int (8)))) .nil))) false)
  (.cons (.asg (.nm 11) (.call 10 (.cons (.var 3) .nil)) false)
  (.cons (.asg (.nm 12) (.call 22 (.cons (.var 11) .nil)) false)
  (.cons (.asg (.nm 13) (.call 21 (.cons (.var 3) (.cons (.var 6) .nil))) false)
  (.cons (.ite (.cmp .NotEq (.var 11) (.var 3)) (.cons (.ret (.cst (.bl false)))
  .nil) .nil)
  (.cons (.ite (.cmp .Is (.var 13) (.cst .non)) (.cons (.ret (.call 23 (.cons (.var 12) .nil)))
  .nil) .nil)
  (.cons (.ret (.and (.cmp .Eq (.var 12) (.var 13)) (.and (.blt (.isi "tuple") (.cons (.var 12) .nil)) (.and (.call 19 (.cons (.ix (.var 12) (.cst (.int (0)))) .nil)) (.call 19 (.cons (.ix (.var 12) (.cst (.int (1)))) .nil))))))
  .nil))))))))))))))))
noncomputable def fns:List Fn:=[⟨1,1,b0⟩,⟨2,3,b1⟩,⟨1,1,b2⟩,⟨1,1,b3⟩,⟨2,4,b4⟩,⟨2,2,b5⟩,⟨3,3,b6⟩,⟨2,2,b7⟩,⟨1,1,b8⟩,⟨2,6,b9⟩,⟨1,1,b10⟩,⟨2,9,C1⟩,⟨1,5,b12⟩,⟨3,4,b13⟩,⟨2,3,b14⟩,⟨1,3,b15⟩,⟨1,8,b16⟩,⟨3,4,Bc⟩,⟨2,2,zT⟩,⟨1,1,b19⟩,⟨1,1,b20⟩,⟨2,5,b21⟩,⟨1,3,DD⟩,⟨1,1,b23⟩,⟨1,14,b24⟩]
noncomputable def gl:Nat->D
 |0=>.int 4
 |1=>.int 5
 |2=>.tup [.int 1,.int 0,.int 1]
 |3=>.tup [.int 1,.int 1,.int 0]
 |4=>.tup [.int 0,.int 1,.int 0]
 |5=>.int 8
 |6=>.int 8
 |_=>.non
noncomputable abbrev T (n:Nat):Tb:=⟨Pc.run fns gl 1000 n,gl,1000⟩
end K39
end
section
namespace Fl64
def Gr (l:List Nat):Prop:=∀ g∈l,g<64
noncomputable def hor (x w:Nat)(l:List Nat):Nat:=l.foldl (fun w g=>tm w x^^^g) w
noncomputable abbrev wth (x:Nat)(l:List Nat):Nat:=hor x 0 l
noncomputable def pw (x:Nat):Nat->Nat
 |0=>1
 |n+1=>tm (pw x n) x
noncomputable def mulR (f:Nat)(l:List Nat):List Nat:=l.map fun g=>tm f g
noncomputable def rO (c:Nat):List Nat:=(List.range' 1 c).map (pw 2)
noncomputable def uX (l:List Nat)(p:Nat):List Nat->List Nat
 |[]=>l
 |g::r=>uX (l.set p (l.getD p 0^^^g)) (p+1) r
noncomputable def vO (l:List Nat)(k:Nat):List Nat->List Nat->List Nat
 |[],_=>l
 |g::a,b=>vO (uX l k (mulR g b)) (k+1) a b
noncomputable def EM (a b:List Nat):List Nat:=vO (List.replicate (a.length+b.length - 1) 0) 0 a b
noncomputable def jv (r:List Nat):List Nat->List Nat
 |[]=>r
 |n::ns=>jv (EM r [1,n]) ns
noncomputable def AE (D:List Nat):Nat->Nat->List Nat->List Nat
 |0,_,l=>l
 |m+1,k,l=>AE D m (k+1) (uX l k (mulR (l.getD k 0) D))
noncomputable def Aj (d:List Nat)(c:Nat):List Nat:=(AE (jv [1] (rO c)) d.length 0 (d++List.replicate c 0)).drop d.length
def isC (l:List Nat)(c:Nat):Prop:=∀ x∈rO c,wth x l=0
noncomputable instance (l:List Nat) (c:Nat):Decidable (isC l c):=by unfold isC;infer_instance
end Fl64
end
section
namespace Pc.Gr
open PySem Pc Pc.Sm
noncomputable abbrev gD (gs:List Nat):List D:=gs.map fun (g:Nat)=>D.int (g:Int)
noncomputable abbrev sG (gs:List Nat):Slot:=some (.lst (gD gs),.sh [])
noncomputable abbrev oG (gs:List Nat):Slot:=some (.lst (gD gs),.own)
structure CE (d:List Nat)(c:Nat)(D l:List Nat)(e:En):Prop where
 te:Tame e
 len:e.length=8
 h0:e[0]? = some (sG d)
 h2:e[2]? = some (oG D)
 h3:e[3]? = some (oG l)
end Pc.Gr
end
section
namespace Fl64
end Fl64
namespace Pc.Lw
open PySem Pc Pc.Sm Pc.Gr
def isF (gs:List Nat)(k m:Nat):Prop:=∀ x∈(List.range' (k+1) m).map (Fl64.pw 2),Fl64.wth x gs=0
noncomputable instance (gs:List Nat) (k m:Nat):Decidable (isF gs k m):=by unfold isF;infer_instance
end Pc.Lw
end
section
namespace Fl64
noncomputable def sm:List (Nat×Nat)->Nat->Nat
 |[],_=>0
 |p::r,j=>tm p.1 (pw p.2 j)^^^sm r j
end Fl64
end
section
namespace Pc.Lw
open PySem Pc Pc.Sm Pc.Gr
noncomputable abbrev cp (i:Nat):Ex:=.blt .list (.cons (.var i) .nil)
theorem bF {T:Tb}{env:En}(d:D):ev T (.cst d) env = .ok (d,.mv []):=by rw[ev]
end Pc.Lw
end
section
namespace Pc.Nw
open PySem Pc Pc.Sm Pc.Lw Pc.Gr
theorem jS {T:Tb}{env:En}{e:Ex}{xs:List D}{R:Rt}(h:ev T e env = .ok (.lst xs,R)):ev T (.blt .len (.cons e .nil)) env = .ok (.int (xs.length:Int),.mv []):=by
 rw[ev,bN,bN,h,aA,aA,aA,yO];show (iS (some (D.int (xs.length:Int)))).bind _=_;rw[aN,aA,dG]
theorem jD {α:Type}{f:D->Rs (Option (D×Rt))}{g r:α->D}{c:α->Bool}:∀{l:List α},(∀ a∈l,f (g a) = .ok (if c a then some (r a,.mv []) else none))->dI f (l.map g) = .ok ((l.filter c).map fun a=>(r a,Rt.mv []))
 |[],_=>rfl
 | a::l,h=>by
  simp only[List.map_cons,dI];rw[h a aq,jD fun b hb=>h b (ag _ hb)];cases q:c a<;>simp[aA,List.filter_cons,q]
section
variable {T:Tb}{env:En}
theorem pR:aC T .nil env = .nx env:=by rw[aC]
end
section
variable {T:Tb}{env:En}
end
end Pc.Nw
end
section
namespace Pc.Fr
open PySem Pc Pc.Sm Pc.Lw Pc.Gr Pc.Nw
noncomputable def cnt (s t:Int):Nat:=((if s<t+3 then s else t+3) - t).toNat
theorem Cw {n:Nat}(h:n<=10000):n<=lim:=dg h (by decide)
theorem nS {α:Type}{T:Tb}{own:Nat}{pick:List Nat}{t:jL}{it:qa}{ce e:Ex}{env:En}{l:List α}{R:List Nat}{g r:α->D}{c:α->Bool}(hit:eA T it env = .ok (l.map g,R))(hl:l.length<=10000)
  (hg:∀ a∈l,bH (aV [] t (g a) (bX env own pick)) (lD T (.some ce)) (ev T e) = .ok (if c a then some (r a,.mv []) else none)) :
  ev T (.comp own pick t it (.some ce) e) env = .ok (.lst ((l.filter c).map r),.mv []):=by
 rw[ev,hit,aA,jD (f:=fun d=>bH (aV [] t d (bX env own pick)) (lD T (.some ce)) (ev T e)) hg,aA];dsimp only;rw[if_pos (by rw[ai];exact Cw hl),if_pos,dm]
 ·rfl
 ·rw[List.all_map,dq];intro x _;show (_ || dE (.mv []))=true;simp[dE]
theorem CJ {T:Tb}{env:En}{e:Ex}{d:D}{R:Rt}{n:String}{b:Bool}(h:ev T e env = .ok (d,R))(hb:iL (.isi n) [d]=some (.bl b)):ev T (.blt (.isi n) (.cons e .nil)) env = .ok (.bl b,.mv []):=by
 rw[ev,bN,bN,h,aA,aA,aA,yO,hb];rfl
end Pc.Fr
end
section
namespace Pc
open PySem
def lq {α:Type}(x y:Rs α):Prop:=∀ a,x = .ok a->y = .ok a
def oo (a b:Fl):Prop:=a = .bad\/(∃ e env,a = .xc e env)\/a=b
theorem lq.refl {α:Type}(x:Rs α):lq x x:=fun _ h=>h
theorem oo.refl (x:Fl):oo x x:=.inr (.inr rfl)
theorem lq.bind {α β:Type}{x y:Rs α}{f g:α->Rs β}(h:lq x y)(k:∀ a,lq (f a) (g a)):lq (x.bind f) (y.bind g):=fun b e=>by
 cases x with
 |ok a=>rw[h a rfl];exact k a b e
 |exc _=>cases e
 |bad=>cases e
theorem oo.on {α:Type}{env:En}{x y:Rs α}{f g:α->Fl}(h:lq x y)(k:∀ a,oo (f a) (g a)):oo (eY env x f) (eY env y g):=by
 cases x with
 |ok a=>rw[h a rfl];exact k a
 |exc e=>exact .inr (.inl ⟨e,env,rfl⟩)
 |bad=>exact .inl rfl
theorem oo.then {a b:Fl}{f g:En->Fl}(h:oo a b)(k:∀ e,oo (f e) (g e)):oo (a.andThen f) (b.andThen g):=by
 rcases h with rfl | ⟨e,env,rfl⟩ | rfl
 ·exact .inl rfl
 ·exact .inr (.inl ⟨e,env,rfl⟩)
 ·cases a with
  |nx e=>exact k e
  |_=>exact .refl _
theorem lZ {f g:D->Rs (Option (D×Rt))}(h:∀ d,lq (f d) (g d)):∀ l,lq (dI f l) (dI g l)
 |[]=>.refl _
 | d::r=>by
  unfold dI;exact (h d).bind fun o=>(lZ h r).bind fun l=>.refl _
theorem oy {o:Option En}{c c':En->Rs Bool}{e e':En->Rs (D×Rt)}(h:∀ n,lq (c n) (c' n))(k:∀ n,lq (e n) (e' n)):lq (bH o c e) (bH o c' e'):=by
 cases o with
 |none=>exact .refl _
 |some env =>
  unfold bH;refine (h env).bind fun b=>?_
  cases b
  ·exact .refl _
  ·exact (k env).bind fun q=>.refl _
theorem lg {t:jL}{R:List Nat}{b b':En->Fl}(h:∀ e,oo (b e) (b' e)):∀(l:List D) (e:En),oo (bR t R b l e) (bR t R b' l e)
 |[],e=>.refl _
 | d::r,e=>by
  unfold bR;cases aV R t d e with
  |none=>exact .refl _
  |some e1 =>
   dsimp only;rcases h e1 with q | ⟨x,n,q⟩ | q
   ·rw[q];exact .inl rfl
   ·rw[q];exact .inr (.inl ⟨x,n,rfl⟩)
   ·rw[<-q];cases b e1 with
    |nx e2=>exact lg h r e2
    |ct e2=>exact lg h r e2
    |_=>exact .refl _
theorem oi {x:Nat}{b b':En->Fl}(h:∀ e,oo (b e) (b' e)):∀(l:List D) (e:En),oo (oE x b l e) (oE x b' l e)
 |[],e=>.refl _
 | d::r,e=>by
  unfold oE;by_cases hx:x<e.length
  ·rw[if_pos hx,if_pos hx];rcases h (put e x d .own) with q | ⟨y,n,q⟩ | q
   ·rw[q];exact .inl rfl
   ·rw[q];exact .inl rfl
   ·rw[<-q];cases b (put e x d .own) with
    |nx e2=>exact oi h r e2
    |_=>exact .refl _
  ·rw[if_neg hx,if_neg hx];exact .refl _
theorem kl {c c':En->Rs Bool}{b b':En->Fl}(h:∀ e,lq (c e) (c' e))(k:∀ e,oo (b e) (b' e)):∀(n:Nat) (e:En),oo (mq c b n e) (mq c' b' n e)
 |0,e=>.refl _
 | n+1,e=>by
  unfold mq;refine .on (h e) fun x=>?_
  cases x
  ·exact .refl _
  ·simp only[if_true];rcases k e with q | ⟨x,n,q⟩ | q
   ·rw[q];exact .inl rfl
   ·rw[q];exact .inr (.inl ⟨x,n,rfl⟩)
   ·rw[<-q];cases b e with
    |nx e2=>exact kl h k n e2
    |ct e2=>exact kl h k n e2
    |_=>exact .refl _
section
variable {c c':Nat->List D->Rs (D×Bool)}{gl:Nat->D}{fuel:Nat}(h:∀ f ds,lq (c f ds) (c' f ds))
include h
mutual
theorem aR:∀(e:Ex) (env:En),lq (ev ⟨c,gl,fuel⟩ e env) (ev ⟨c',gl,fuel⟩ e env)
 |.var i,env=>by rw[ev,ev];exact .refl _
 |.cst d,env=>by rw[ev,ev];exact .refl _
 |.glb k,env=>by rw[ev,ev];exact .refl _
 |.bin op a b,env=>by rw[ev,ev];exact (aR a env).bind fun p=>(aR b env).bind fun q=>.refl _
 |.neg a,env=>by rw[ev,ev];exact (aR a env).bind fun p=>.refl _
 |.cmp op a b,env=>by rw[ev,ev];exact (aR a env).bind fun p=>(aR b env).bind fun q=>.refl _
 | .chn op op' a b d,env=>by
  rw[ev,ev];refine (aR a env).bind fun p=>(aR b env).bind fun q=>(lq.refl _).bind fun k=>?_
  cases k
  ·exact .refl _
  ·exact (aR d env).bind fun r=>.refl _
 | .and a b,env=>by
  rw[ev,ev];refine (aR a env).bind fun p=>?_
  split
  ·exact aR b env
  ·exact .refl _
  ·exact .refl _
 | .or a b,env=>by
  rw[ev,ev];refine (aR a env).bind fun p=>?_
  split
  ·exact .refl _
  ·exact aR b env
  ·exact .refl _
 |.not a,env=>by rw[ev,ev];exact (aR a env).bind fun p=>.refl _
 | .ite d a b,env=>by
  rw[ev,ev];refine (aR d env).bind fun p=>(lq.refl _).bind fun k=>?_
  cases k
  ·exact aR b env
  ·exact aR a env
 |.lst es,env=>by rw[ev,ev];exact (fC es env).bind fun l=>.refl _
 |.tup es,env=>by rw[ev,ev];exact (fC es env).bind fun l=>.refl _
 |.ix a i,env=>by rw[ev,ev];exact (aR a env).bind fun p=>(aR i env).bind fun q=>.refl _
 |.sl a lo hi,env=>by rw[ev,ev];exact (aR a env).bind fun p=>(nz lo env).bind fun q=>(nz hi env).bind fun r=>.refl _
 |.call f es,env=>by rw[ev,ev];exact (fC es env).bind fun l=>(h f _).bind fun r=>.refl _
 |.blt b es,env=>by rw[ev,ev];exact (fC es env).bind fun l=>.refl _
 |.mth m o es,env=>by rw[ev,ev];exact (aR o env).bind fun p=>(fC es env).bind fun l=>.refl _
 | .comp own pick t it d e,env=>by
  rw[ev,ev];exact (wU it env).bind fun p=>(lZ (fun d'=>oy (fun n=>AS d n) (fun n=>aR e n)) _).bind fun l=>.refl _
 |.dnew,env=>by rw[ev,ev];exact .refl _
 |.ddsp l,env=>by rw[ev,ev];exact .refl _
 |.snoc a b,env=>by rw[ev,ev];exact (aR a env).bind fun p=>(aR b env).bind fun q=>.refl _
 |.app g es,env=>by rw[ev,ev];exact (fC es env).bind fun l=>.refl _
theorem fC:∀(es:jM) (env:En),lq (bN ⟨c,gl,fuel⟩ es env) (bN ⟨c',gl,fuel⟩ es env)
 |.nil,env=>by rw[bN,bN];exact .refl _
 |.cons e es,env=>by rw[bN,bN];exact (aR e env).bind fun p=>(fC es env).bind fun l=>.refl _
theorem nz:∀(o:km) (env:En),lq (jb ⟨c,gl,fuel⟩ o env) (jb ⟨c',gl,fuel⟩ o env)
 |.none,env=>by rw[jb,jb];exact .refl _
 |.some e,env=>by rw[jb,jb];exact (aR e env).bind fun p=>.refl _
theorem AS:∀(o:km) (env:En),lq (lD ⟨c,gl,fuel⟩ o env) (lD ⟨c',gl,fuel⟩ o env)
 |.none,env=>by rw[lD,lD];exact .refl _
 |.some e,env=>by rw[lD,lD];exact (aR e env).bind fun p=>.refl _
theorem wU:∀(it:qa) (env:En),lq (eA ⟨c,gl,fuel⟩ it env) (eA ⟨c',gl,fuel⟩ it env)
 |.seq e,env=>by rw[eA,eA];exact (aR e env).bind fun p=>.refl _
 |.rng1 a,env=>by rw[eA,eA];exact (aR a env).bind fun p=>.refl _
 |.rng2 a b,env=>by rw[eA,eA];exact (aR a env).bind fun p=>(aR b env).bind fun q=>.refl _
 |.rng3 a b d,env=>by rw[eA,eA];exact (aR a env).bind fun p=>(aR b env).bind fun q=>(aR d env).bind fun r=>.refl _
 |.enum e,env=>by rw[eA,eA];exact (aR e env).bind fun p=>.refl _
 |.zip a b,env=>by rw[eA,eA];exact (aR a env).bind fun p=>(aR b env).bind fun q=>.refl _
 |.rev e,env=>by rw[eA,eA];exact (aR e env).bind fun p=>.refl _
end
mutual
theorem vA:∀(s:St) (env:En),oo (aT ⟨c,gl,fuel⟩ s env) (aT ⟨c',gl,fuel⟩ s env)
 |.asg t e mv,env=>by rw[aT,aT];exact .on (aR h e env) fun p=>.refl _
 | .mut x path m es,env=>by
  rw[aT,aT];cases ownAt env x with
  |none=>exact .refl _
  |some d =>
   refine .on (nz h path env) fun p=>?_
   cases d.at1 p with
   |none=>exact .refl _
   |some xs=>exact .on (fC h es env) fun l=>.refl _
 | .putd x i v,env=>by
  rw[aT,aT];cases ownAt env x with
  |none=>exact .refl _
  |some d=>exact .on (aR h v env) fun u=>.on (aR h i env) fun p=>.refl _
 | .frzd x s,env=>by
  rw[aT,aT];exact vA s _
 | .apop y x es,env=>by
  rw[aT,aT];split
  ·exact .refl _
  cases ownAt env x with
  |none=>exact .refl _
  |some d =>
   dsimp only;cases d.at1 none with
   |none=>exact .refl _
   |some xs=>exact .on (fC h es env) fun l=>.refl _
 | .setix x path i e,env=>by
  rw[aT,aT];cases ownAt env x with
  |none=>exact .refl _
  |some d =>
   refine .on (aR h e env) fun v=>.on (nz h path env) fun p=>?_
   cases d.at1 p with
   |none=>exact .refl _
   |some xs=>exact .on (aR h i env) fun l=>.refl _
 | .aug x op e,env=>by
  rw[aT,aT];cases intAt env x with
  |none=>exact .refl _
  |some a=>exact .on (aR h e env) fun p=>.refl _
 | .popa y x es,env=>by
  rw[aT,aT];cases ownAt env x with
  |none=>exact .refl _
  |some d =>
   dsimp only;cases d.at1 none with
   |none=>exact .refl _
   |some xs=>exact .on (fC h es env) fun l=>.refl _
 |.expr e,env=>by rw[aT,aT];exact .on (aR h e env) fun p=>.refl _
 | .ite d a b,env=>by
  rw[aT,aT];refine .on (aR h d env) fun p=>?_
  split
  ·exact fT a env
  ·exact fT b env
  ·exact .refl _
 | .forr t it b,env=>by
  rw[aT,aT];refine .on (wU h it env) fun p=>?_
  rcases lg (t:=t) (R:=p.2) (fun e=>fT b e) p.1 (lock p.2 env) with q | ⟨x,n,q⟩ | q
  ·rw[q];exact .inl rfl
  ·rw[q];exact .inr (.inl ⟨x,n,rfl⟩)
  ·rw[<-q];exact .refl _
 | .forw x e b,env=>by
  rw[aT,aT];refine .on (aR h e env) fun p=>?_
  split
  ·exact oi (fun e=>fT b e) _ _
  ·exact .refl _
 | .whl d b,env=>by
  rw[aT,aT];exact kl (fun e=>(aR h d e).bind fun p=>.refl _) (fun e=>fT b e) fuel env
 |.ret e,env=>by rw[aT,aT];exact .on (aR h e env) fun p=>.refl _
 |.retN,env=>by rw[aT,aT];exact .refl _
 |.brk,env=>by rw[aT,aT];exact .refl _
 |.cnt,env=>by rw[aT,aT];exact .refl _
 |.pass,env=>by rw[aT,aT];exact .refl _
theorem fT:∀(s:bW) (env:En),oo (aC ⟨c,gl,fuel⟩ s env) (aC ⟨c',gl,fuel⟩ s env)
 |.nil,env=>by rw[aC,aC];exact .refl _
 |.cons s r,env=>by rw[aC,aC];exact (vA s env).then fun e=>fT r e
end
end
theorem w9 (fns:List Fn)(gl:Nat->D)(fuel:Nat):∀(n f:Nat) (ds:List D),lq (run fns gl fuel n f ds) (run fns gl fuel (n+1) f ds)
 |0,f,ds=>fun a e=>by cases e
 | n+1,f,ds=>fun a e=>by
  unfold run at e ⊢;cases hF:fns[f]? with
  |none=>rw[hF] at e;cases e
  |some F =>
   rw[hF] at e;dsimp only at e ⊢;by_cases hl:ds.length=F.ps
   ·rw[if_pos hl] at e ⊢;rcases fT (gl:=gl) (fuel:=fuel) (w9 fns gl fuel n) F.body (aD ds F.slots) with q | ⟨x,m,q⟩ | q
    ·rw[q] at e;cases e
    ·rw[q] at e;cases e
    ·rw[<-q];exact e
   ·rw[if_neg hl] at e;cases e
theorem vK {fns:List Fn}{gl:Nat->D}{fuel n f:Nat}{ds:List D}{r:D×Bool}(h:run fns gl fuel n f ds = .ok r):∀ k,run fns gl fuel (n+k) f ds = .ok r
 |0=>h
 |k+1=>w9 fns gl fuel (n+k) f ds r (vK h k)
end Pc
end
section
namespace Pc.Fr
open PySem Pc Pc.Sm Pc.Lw Pc.Gr Pc.Nw
noncomputable abbrev Tr:=Int×Int×Int
noncomputable abbrev tD (t:Tr):D:=.tup [.int t.1,.int t.2.1,.int t.2.2]
noncomputable abbrev pT (t:Tr):Int×Int:=(t.1,t.2.1)
noncomputable abbrev iD (l:List Int):List D:=l.map D.int
noncomputable def wr (M:List (List Int))(t:Tr):List (List Int):=M.set t.1.toNat ((M.getD t.1.toNat []).set t.2.1.toNat t.2.2)
structure Rect (n:Nat)(M:List (List Int)):Prop where
 len:M.length=n
 row:∀ r∈M,r.length=n
def xK (n:Nat)(p:Int×Int):Prop:=0<=p.1/\p.1<n/\0<=p.2/\p.2<n
noncomputable def zero (n:Nat):List (List Int):=List.replicate n (List.replicate n 0)
theorem wM {env:En}{i j k:Nat}{x y z:D}{R:List Nat}(ht:Tame env)(hi:i<env.length)(hj:j<env.length)(hk:k<env.length)(fx:x.flat=true)(fy:y.flat=true)(fz:z.flat=true):aV R (.tp [i,j,k]) (.tup [x,y,z]) env=some (((env.set i (some (x,.own))).set j (some (y,.own))).set k (some (z,.own))):=by
 show bindM (fun d=>aW d R) [i,j,k] [x,y,z] env=_;have tx:aW x R = .own:=by unfold aW;rw[if_pos fx]
 have ty:aW y R = .own:=by unfold aW;rw[if_pos fy]
 have tz:aW z R = .own:=by unfold aW;rw[if_pos fz]
 simp only[bindM,hi,if_true,tx,ty,tz];rw[cO ht,if_pos (by rw[da];exact hj),cO (ht.set (aB x) i),if_pos (by rw[da,da];exact hk),cO ((ht.set (aB x) i).set (aB y) j)]
theorem qX {n:Nat}{i:Int}(h0:0<=i)(h1:i<n):Pc.fE n i=some i.toNat:=by
 unfold Pc.fE;rw[if_pos h0,if_pos h1]
end Pc.Fr
end
section
namespace Pc.Tn
open PySem Pc Pc.Sm
noncomputable def eT:Ex:=.ix (.lst (.cons (.tup (.cons (.var 4) (.cons (.var 6) .nil))) (.cons (.tup (.cons (.bin .Sub (.var 2) (.var 6)) (.cons (.var 4) .nil))) (.cons (.tup (.cons (.bin .Sub (.var 2) (.var 4)) (.cons (.bin .Sub (.var 2) (.var 6)) .nil))) (.cons (.tup (.cons (.var 6) (.cons (.bin .Sub (.var 2) (.var 4)) .nil))) .nil))))) (.bin .Mod (.var 1) (.cst (.int (4))))
noncomputable def c1:St:=.asg (.tp [7,8]) eT false
noncomputable def c2:St:=.ite (.cmp .GtE (.var 1) (.cst (.int (4)))) (.cons (.asg (.nm 8) (.bin .Sub (.var 2) (.var 8)) false)
  .nil) .nil
noncomputable def c3:St:=.mut 5 .none .append (.cons (.ix (.ix (.var 0) (.var 7)) (.var 8)) .nil)
noncomputable def uf:bW:=.cons c1 (.cons c2 (.cons c3 .nil))
noncomputable def i11:qa:=.rng1 (.bin .Add (.var 2) (.cst (.int (1))))
noncomputable def xZ:bW:=(.cons (.asg (.nm 5) (.lst .nil) false)
  (.cons (.forr (.nm 6) i11 uf)
  (.cons (.mut 3 .none .append (.cons (.var 5) .nil))
  .nil)))
noncomputable def C1:bW:=(.cons (.asg (.nm 2) (.bin .Sub (.blt .len (.cons (.var 0) .nil)) (.cst (.int (1)))) false)
  (.cons (.asg (.nm 3) (.lst .nil) false)
  (.cons (.forr (.nm 4) i11 xZ)
  (.cons (.ret (.var 3))
  .nil))))
noncomputable def kj (q:Nat)(l r c:Int):Int×Int:=match q with
 |0=>(r,c)
 |1=>(l - c,r)
 |2=>(l - r,l - c)
 |_=>(c,l - r)
theorem evT (T:Tb)(P:Slot)(t l r c:Int)(m L o7 o8:Slot)(q:Nat)(hq:q<4)(ht:t%4=(q:Int)):ev T eT [P,sI t,sI l,m,sI r,L,sI c,o7,o8] = .ok (.tup [.int (kj q l r c).1,.int (kj q l r c).2],.mv []):=by
 have g0:ev T (.lst (.cons (.tup (.cons (.var 4) (.cons (.var 6) .nil))) (.cons (.tup (.cons (.bin .Sub (.var 2) (.var 6)) (.cons (.var 4) .nil))) (.cons (.tup (.cons (.bin .Sub (.var 2) (.var 4)) (.cons (.bin .Sub (.var 2) (.var 6)) .nil))) (.cons (.tup (.cons (.var 6) (.cons (.bin .Sub (.var 2) (.var 4)) .nil))) .nil))))) [P,sI t,sI l,m,sI r,L,sI c,o7,o8] = .ok (.lst [.tup [.int r,.int c],.tup [.int (l - c),.int r],.tup [.int (l - r),.int (l - c)],.tup [.int c,.int (l - r)]],.mv []):=rfl;have g1:ev T (.bin .Mod (.var 1) (.cst (.int (4)))) [P,sI t,sI l,m,sI r,L,sI c,o7,o8] = .ok (.int (t%4),.mv []):=rfl;unfold eT;rw[ev,g0,aA,g1,aA,ht];have:q=0\/q=1\/q=2\/q=3:=by omega
 rcases this with rfl | rfl | rfl | rfl<;>rfl
theorem qG (T:Tb)(M:List (List D))(t l r c a b b':Int)(m:Slot)(L row:List D)(o7 o8:Slot)(q i j:Nat)(d:D)(hm:aO m)(h7:aO o7)(h8:aO o8)(hq:q<4)(ht:t%4=(q:Int))(hp:kj q l r c=(a,b))(hb:b'=if 4<=t then l - b else b)
  (hi:Pc.fE (M.map D.lst).length a=some i) (hr:M[i]? = some row) (hj:Pc.fE row.length b'=some j) (hd:row[j]? = some d) (hf:d.flat=true) (hL:L.length+1<=lim) :
  aC T uf [sM M,sI t,sI l,m,sI r,some (.lst L,.own),sI c,o7,o8] = .nx [sM M,sI t,sI l,m,sI r,some (.lst (L ++ [d]),.own),sI c,sI a,sI b']:=by
 have ht1:Tame [sM M,sI t,sI l,m,sI r,some (.lst L,.own),sI c,o7,o8]:=.cons (aZ _) (.cons (aB _) (.cons (aB _) (.cons hm (.cons (aB _) (.cons (aB _) (.cons (aB _) (.cons h7 (.cons h8 .nil))))))));have g1:aT T c1 [sM M,sI t,sI l,m,sI r,some (.lst L,.own),sI c,o7,o8] = .nx [sM M,sI t,sI l,m,sI r,some (.lst L,.own),sI c,sI a,sI b]:=by
  have:=evT T (sM M) t l r c m (some (.lst L,.own)) o7 o8 q hq ht;rw[hp] at this;exact wQ ht1 (by simp) (by simp) this
 have ht2:Tame [sM M,sI t,sI l,m,sI r,some (.lst L,.own),sI c,sI a,sI b]:=.cons (aZ _) (.cons (aB _) (.cons (aB _) (.cons hm (.cons (aB _) (.cons (aB _) (.cons (aB _) (.cons (aB _) (.cons (aB _) .nil))))))));have g2:aT T c2 [sM M,sI t,sI l,m,sI r,some (.lst L,.own),sI c,sI a,sI b] = .nx [sM M,sI t,sI l,m,sI r,some (.lst L,.own),sI c,sI a,sI b']:=by
  have hc:ev T (.cmp .GtE (.var 1) (.cst (.int (4)))) [sM M,sI t,sI l,m,sI r,some (.lst L,.own),sI c,sI a,sI b] = .ok (.bl (decide (4<=t)),.mv []):=rfl;unfold c2;rw[aT,hc,aP];by_cases h4:4<=t
  ·rw[if_pos h4] at hb;subst hb;rw[du h4];show aC T (.cons (.asg (.nm 8) (.bin .Sub (.var 2) (.var 8)) false) .nil) _=_;rw[aC,bO ht2 (by simp) (d:=.int (l - b)) rfl,aM];rfl
  ·rw[if_neg h4] at hb;subst hb;rw[ef h4];rfl
 have ht3:Tame [sM M,sI t,sI l,m,sI r,some (.lst L,.own),sI c,sI a,sI b']:=.cons (aZ _) (.cons (aB _) (.cons (aB _) (.cons hm (.cons (aB _) (.cons (aB _) (.cons (aB _) (.cons (aB _) (.cons (aB _) .nil))))))));have e1:∃ R,ev T (.ix (.var 0) (.var 7)) [sM M,sI t,sI l,m,sI r,some (.lst L,.own),sI c,sI a,sI b'] = .ok (.lst row,R):=by
  have v0:ev T (.var 0) [sM M,sI t,sI l,m,sI r,some (.lst L,.own),sI c,sI a,sI b'] = .ok (sq M,.sh []):=rfl;have v7:ev T (.var 7) [sM M,sI t,sI l,m,sI r,some (.lst L,.own),sI c,sI a,sI b'] = .ok (.int a,.mv []):=rfl;have hx:t6 (sq M) (.int a)=some (.lst row):=by
   show (Pc.fE (M.map D.lst).length a).bind (fun j=>(M.map D.lst)[j]?)=_;rw[hi];show (M.map D.lst)[i]? = _;rw[List.getElem?_map,hr];rfl
  rw[ev,v0,aA,v7,aA,hx,aN,aA];exact⟨_,rfl⟩
 obtain⟨R,e1⟩:=e1;have e2:ev T (.ix (.ix (.var 0) (.var 7)) (.var 8)) [sM M,sI t,sI l,m,sI r,some (.lst L,.own),sI c,sI a,sI b'] = .ok (d,.mv []):=by
  have v8:ev T (.var 8) [sM M,sI t,sI l,m,sI r,some (.lst L,.own),sI c,sI a,sI b'] = .ok (.int b',.mv []):=rfl;have hx:t6 (.lst row) (.int b')=some d:=by
   show (Pc.fE row.length b').bind (fun j=>row[j]?)=_;rw[hj];exact hd
  rw[ev,e1,aA,v8,aA,hx,aN,aA];unfold iF;rw[if_pos hf]
 have g3:aT T c3 [sM M,sI t,sI l,m,sI r,some (.lst L,.own),sI c,sI a,sI b'] = .nx [sM M,sI t,sI l,m,sI r,some (.lst (L ++ [d]),.own),sI c,sI a,sI b']:=zP ht3 rfl e2 hL;unfold uf;rw[aC,g1,aM,aC,g2,aM,aC,g3,aM];rfl
theorem wc (n t r c q:Nat)(ht:t<8)(hq:t%4=q)(hr:r<n)(hc:c<n):∃ a b:Int,kj q ((n:Int) - 1) r c=(a,b)/\a=((dU n t (r,c)).1:Nat)/\(if 4<=(t:Int) then (n:Int) - 1 - b else b)=((dU n t (r,c)).2:Nat):=by
 have:t=0\/t=1\/t=2\/t=3\/t=4\/t=5\/t=6\/t=7:=by omega
 subst hq;rcases this with rfl | rfl | rfl | rfl | rfl | rfl | rfl | rfl<;>refine⟨_,_,rfl,?_,?_⟩<;>simp[kj,dU,ko]<;>omega
noncomputable def jv (n t:Nat)(M:List (List D))(r k:Nat):List D:=(List.range k).map fun c=>ent M (dU n t (r,c)).1 (dU n t (r,c)).2
def JC (n t:Nat)(M:List (List D))(m:Slot)(r:Nat)(k:Nat)(e:En):Prop:=∃ o6 o7 o8:Slot,aO o6/\aO o7/\aO o8/\e=[sM M,sN t,sI ((n:Int) - 1),m,sN r,some (.lst (jv n t M r k),.own),o6,o7,o8]
theorem qZ (T:Tb)(n t:Nat)(hn:n<=31)(ht:t<8){M:List (List D)}(hM:cN n M)(m:Slot)(hm:aO m)(r:Nat)(hr:r<n)(k:Nat)(hk:k<n)(e:En)(h:JC n t M m r k e):∃ e1 e2,aV [] (.nm 6) (.int (k:Int)) e=some e1/\aC T uf e1 = .nx e2/\JC n t M m r (k+1) e2:=by
 obtain⟨o6,o7,o8,h6,h7,h8,rfl⟩:=h;have ht1:Tame [sM M,sN t,sI ((n:Int) - 1),m,sN r,some (.lst (jv n t M r k),.own),o6,o7,o8]:=.cons (aZ _) (.cons (aB _) (.cons (aB _) (.cons hm (.cons (aB _) (.cons (aB _) (.cons h6 (.cons h7 (.cons h8 .nil))))))));have hb:=fF (i:=6) (d:=.int (k:Int)) ht1 (by simp);obtain⟨a,b,p1,p2,p3⟩:=wc n t r k (t%4) ht rfl hr hk;obtain⟨q1,q2⟩:=xb (n:=n) (by omega) t (r,k) hr hk;obtain⟨row,w1,w2,w3,_⟩:=gC hM q1 q2;have g:=qG T M t ((n:Int) - 1) r k a b _ m (jv n t M r k) row o7 o8 (t%4) (dU n t (r,k)).1 (dU n t (r,k)).2 (ent M (dU n t (r,k)).1 (dU n t (r,k)).2) hm h7 h8 (by omega) (by omega) p1 rfl
  (by rw[p2];exact rj (by rw[ai,hM.len];exact q1)) w1 (by rw[p3];exact rj (by rw[w2];exact q2)) w3 (gQ (hM.cell row (List.mem_of_getElem? w1) _ (List.mem_of_getElem? w3))) (by rw[jv,ai,List.length_range];exact gY (by omega))
 refine⟨_,_,hb,g,sN k,sI a,sI (if 4<=(t:Int) then (n:Int) - 1 - b else b),aB _,aB _,aB _,?_⟩;simp only[jv,List.range_succ,List.map_append,List.map_cons,List.map_nil]
theorem DN (T:Tb)(P:Slot)(t:Int)(n:Nat)(hn:n<=1000)(r:En):eA T i11 (P::sI t::sI ((n:Int) - 1)::r) = .ok (aQ 0 1 n,[]):=by
 have g:ev T (.bin .Add (.var 2) (.cst (.int (1)))) (P::sI t::sI ((n:Int) - 1)::r) = .ok (.int (n:Int),.mv []):=by
  have e:(n:Int) - 1+1=n:=by omega
  have:∀ N:Int,ev T (.bin .Add (.var 2) (.cst (.int (1)))) (P::sI t::sI N::r) = .ok (.int (N+1),.mv []):=fun N=>rfl
  rw[this,e]
 have:=fQ T _ _ _ _ g (oV hn);rw[dh] at this;exact this
noncomputable def eQ (n t:Nat)(M:List (List D))(k:Nat):List (List D):=(List.range k).map fun r=>jv n t M r n
def JR (n t:Nat)(M:List (List D))(k:Nat)(e:En):Prop:=∃ o4 o5 o6 o7 o8:Slot,aO o4/\aO o5/\aO o6/\aO o7/\aO o8/\e=[sM M,sN t,sI ((n:Int) - 1),some (sq (eQ n t M k),.own),o4,o5,o6,o7,o8]
theorem qK (T:Tb)(n t:Nat)(hn:n<=31)(ht:t<8){M:List (List D)}(hM:cN n M)(k:Nat)(hk:k<n)(e:En)(h:JR n t M k e):∃ e1 e2,aV [] (.nm 4) (.int (k:Int)) e=some e1/\aC T xZ e1 = .nx e2/\JR n t M (k+1) e2:=by
 obtain⟨o4,o5,o6,o7,o8,h4,h5,h6,h7,h8,rfl⟩:=h;have t1:Tame [sM M,sN t,sI ((n:Int) - 1),some (sq (eQ n t M k),.own),o4,o5,o6,o7,o8]:=.cons (aZ _) (.cons (aB _) (.cons (aB _) (.cons (aB _) (.cons h4 (.cons h5 (.cons h6 (.cons h7 (.cons h8 .nil))))))));have hb:=fF (i:=4) (d:=.int (k:Int)) t1 (by simp);have t2:Tame [sM M,sN t,sI ((n:Int) - 1),some (sq (eQ n t M k),.own),sN k,o5,o6,o7,o8]:=.cons (aZ _) (.cons (aB _) (.cons (aB _) (.cons (aB _) (.cons (aB _) (.cons h5 (.cons h6 (.cons h7 (.cons h8 .nil))))))));have g1:=bO (T:=T) (i:=5) (e:=.lst .nil) (d:=.lst []) t2 (by simp) rfl;obtain⟨e,q1,q2⟩:=gR (t:=.nm 6) (R:=[]) (b:=aC T uf) (JC n t M (some (sq (eQ n t M k),.own)) k) (aQ 0 1 n) 0 [sM M,sN t,sI ((n:Int) - 1),some (sq (eQ n t M k),.own),sN k,some (.lst [],.own),o6,o7,o8] ⟨o6,o7,o8,h6,h7,h8,rfl⟩ (fun i d e hi hj=>by
  obtain⟨i1,rfl⟩:=fP _ _ _ _ hi;rw[Int.zero_add];rw[eh] at hj ⊢;exact qZ T n t hn ht hM _ (aB _) k hk i i1 e hj)
 rw[fJ,eh] at q2;obtain⟨p6,p7,p8,k6,k7,k8,rfl⟩:=q2;have g2:=eR (DN T (sM M) t n (by omega) [some (sq (eQ n t M k),.own),sN k,some (.lst [],.own),o6,o7,o8]) q1;have t3:Tame [sM M,sN t,sI ((n:Int) - 1),some (sq (eQ n t M k),.own),sN k,some (.lst (jv n t M k n),.own),p6,p7,p8]:=.cons (aZ _) (.cons (aB _) (.cons (aB _) (.cons (aB _) (.cons (aB _) (.cons (aB _) (.cons k6 (.cons k7 (.cons k8 .nil))))))));have g3:=vM (T:=T) (x:=3) (y:=5) (e:=.var 5) (d:=.lst (jv n t M k n)) t3 rfl (by decide) rfl (gT rfl rfl) (by rw[ai,eQ,ai,List.length_range];exact gY (by omega));refine⟨_,[sM M,sN t,sI ((n:Int) - 1),some (.lst ((eQ n t M k).map D.lst ++ [.lst (jv n t M k n)]),.own),sN k,none,p6,p7,p8],hb,?_,sN k,none,p6,p7,p8,aB _,aI,k6,k7,k8,?_⟩
 ·unfold xZ;rw[aC];show (aT T (.asg (.nm 5) (.lst .nil) false) [sM M,sN t,sI ((n:Int) - 1),some (sq (eQ n t M k),.own),sN k,o5,o6,o7,o8]).andThen _=_;rw[g1,aM,aC];show (aT T (.forr (.nm 6) i11 uf) [sM M,sN t,sI ((n:Int) - 1),some (sq (eQ n t M k),.own),sN k,some (.lst [],.own),o6,o7,o8]).andThen _=_;rw[g2,aM,aC,g3,aM];rfl
 ·simp only[sq,eQ,List.range_succ,List.map_append,List.map_cons,List.map_nil]
theorem tT {T:Tb}(n t:Nat)(hn:n<=31)(ht:t<8){M:List (List D)}(hM:cN n M):Pc.ret (aC T C1 (aD [sq M,.int (t:Int)] 9)) = .ok (sq (gJ t M),true):=by
 have hst:aD [sq M,.int (t:Int)] 9=[sM M,sN t,none,none,none,none,none,none,none]:=rfl;rw[hst];have hlen:iL .len [sq M]=some (.int (n:Int)):=by
  show some (D.int ((M.map D.lst).length:Int))=_;rw[ai,hM.len]
 have g1:aT T (.asg (.nm 2) (.bin .Sub (.blt .len (.cons (.var 0) .nil)) (.cst (.int (1)))) false) [sM M,sN t,none,none,none,none,none,none,none] = .nx [sM M,sN t,sI ((n:Int) - 1),none,none,none,none,none,none]:=by
  have e:ev T (.bin .Sub (.blt .len (.cons (.var 0) .nil)) (.cst (.int (1)))) [sM M,sN t,none,none,none,none,none,none,none] = .ok (.int ((n:Int) - 1),.mv []):=by
   have e1:bN T (.cons (.var 0) .nil) [sM M,sN t,none,none,none,none,none,none,none] = .ok [(sq M,.sh [])]:=rfl;have e2:ev T (.blt .len (.cons (.var 0) .nil)) [sM M,sN t,none,none,none,none,none,none,none] = .ok (.int (n:Int),.mv []):=by
    rw[ev,e1,aA,yO,hlen,aN,aA,dG]
   rw[ev,e2,aA];generalize (n:Int)=N;rfl
  exact bO (.cons (aZ _) (.cons (aB _) (.cons aI (.cons aI (.cons aI (.cons aI (.cons aI (.cons aI (.cons aI .nil))))))))) (by simp) e
 have g2:aT T (.asg (.nm 3) (.lst .nil) false) [sM M,sN t,sI ((n:Int) - 1),none,none,none,none,none,none] = .nx [sM M,sN t,sI ((n:Int) - 1),some (.lst [],.own),none,none,none,none,none] :=
  bO (.cons (aZ _) (.cons (aB _) (.cons (aB _) (.cons aI (.cons aI (.cons aI (.cons aI (.cons aI (.cons aI .nil))))))))) (by simp) rfl
 obtain⟨e,q1,q2⟩:=gR (t:=.nm 4) (R:=[]) (b:=aC T xZ) (JR n t M) (aQ 0 1 n) 0 [sM M,sN t,sI ((n:Int) - 1),some (.lst [],.own),none,none,none,none,none] ⟨none,none,none,none,none,aI,aI,aI,aI,aI,rfl⟩ (fun i d e hi hj=>by
  obtain⟨i1,rfl⟩:=fP _ _ _ _ hi;rw[Int.zero_add];rw[eh] at hj ⊢;exact qK T n t hn ht hM i i1 e hj)
 rw[fJ,eh] at q2;obtain⟨o4,o5,o6,o7,o8,_,_,_,_,_,rfl⟩:=q2;have g3:=eR (DN T (sM M) t n (by omega) [some (.lst [],.own),none,none,none,none,none]) q1;have hfin:eQ n t M n=gJ t M:=by
  rw[<-tab (jw hM t)];unfold eQ jv;refine fh fun r hr=>fh fun c hc=>?_
  rw[mF hM t (by simpa using hr) (by simpa using hc)]
 rw[hfin] at g3;unfold C1;rw[aC,g1,aM,aC,g2,aM,aC,g3,aM];have g4:ev T (.var 3) [sM M,sN t,sI ((n:Int) - 1),some (sq (gJ t M),.own),o4,o5,o6,o7,o8] = .ok (sq (gJ t M),.mv [3]):=gT rfl rfl;rw[aC,aT,g4,aP];rfl
open Pc.Lw Pc.Gr Pc.Nw Pc.Fr
noncomputable def ce (M:List (List D))(p:Int×Int):D:=ent M p.1.toNat p.2.toNat
noncomputable def Bp (M:List (List D))(p:Int×Int)(v:D):List (List D):=M.set p.1.toNat ((M.getD p.1.toNat []).set p.2.toNat v)
theorem jX {n:Nat}{p:Int×Int}(h:xK n p):p.1.toNat<n/\p.2.toNat<n:=by
 obtain⟨h1,h2,h3,h4⟩:=h;omega
theorem m9 {n:Nat}{M:List (List D)}(h:cN n M){p:Int×Int}(hp:xK n p){v:D}(hv:sE v=true):cN n (Bp M p v):=by
 obtain⟨a,b⟩:=jX hp;obtain⟨row,r1,r2,r3,r4⟩:=gC h a b;unfold Bp;rw[r4];exact zw h r1 hv
theorem mZ {n:Nat}{i:Int}(h0:0<=i)(h1:i<n):Pc.fE n i=some i.toNat:=qX h0 h1
theorem CT {T:Tb}{env:En}{x:Nat}{a b e:Ex}{n:Nat}{M:List (List D)}{r c:Int}{v:D}{R R':Rt}(hr:cN n M)(hn:n<=1000)(ht:Tame env)(hx:env[x]? = some (some (sq M,.own)))(hin:xK n (r,c))(ha:ev T a env = .ok (.int r,R))(hb:ev T b env = .ok (.int c,R'))(he:ev T e env = .ok (v,.mv [])) :
  aT T (.setix x (.some a) b e) env = .nx (env.set x (some (sq (Bp M (r,c) v),.own))):=by
 obtain⟨h1,h2⟩:=jX hin;obtain⟨row,r1,r2,r3,r4⟩:=gC hr h1 h2;have hlen:(M.map D.lst).length=n:=by rw[ai];exact hr.len
 have hj:(M.map D.lst)[r.toNat]? = some (.lst row):=by rw[List.getElem?_map,r1];rfl
 rw[Ba ht hx ha (by rw[hlen];exact mZ hin.1 hin.2.1) hj hb (by rw[r2];exact mZ hin.2.2.1 hin.2.2.2) he (by rw[r2];exact gY hn)];unfold Bp sq;rw[List.map_set,r4]
theorem BB {T:Tb}{env:En}{a b e:Ex}{n:Nat}{M:List (List D)}{r c:Int}{R R' R'':Rt}(hr:cN n M)(he:ev T e env = .ok (sq M,R))(hin:xK n (r,c))(ha:ev T a env = .ok (.int r,R'))(hb:ev T b env = .ok (.int c,R'')) :
  ev T (.ix (.ix e a) b) env = .ok (ce M (r,c),.mv []):=by
 obtain⟨h1,h2⟩:=jX hin;obtain⟨row,r1,r2,r3,r4⟩:=gC hr h1 h2;have hlen:(M.map D.lst).length=n:=by rw[ai];exact hr.len
 have hj:(M.map D.lst)[r.toNat]? = some (.lst row):=by rw[List.getElem?_map,r1];rfl
 have e1:t6 (sq M) (.int r)=some (.lst row):=by
  show (Pc.fE (M.map D.lst).length r).bind (fun j=>(M.map D.lst)[j]?)=_;rw[hlen,mZ hin.1 hin.2.1];exact hj
 have e2:t6 (.lst row) (.int c)=some (ce M (r,c)):=by
  show (Pc.fE row.length c).bind (fun j=>row[j]?)=_;rw[r2,mZ hin.2.2.1 hin.2.2.2];exact r3
 have hf:(ce M (r,c)).flat=true:=gQ (hr.cell row (List.mem_of_getElem? r1) _ (List.mem_of_getElem? r3));rw[ev,ev,he,aA,ha,aA,e1,aN,aA,aA,hb,aA,e2,aN,aA];unfold iF;dsimp only;rw[if_pos hf]
theorem DX {n:Nat}{M:List (List D)}(h:cN n M){p:Int×Int}(hp:xK n p):sE (ce M p)=true:=by
 obtain⟨a,b⟩:=jX hp;obtain⟨row,r1,r2,r3,r4⟩:=gC h a b;exact h.cell row (List.mem_of_getElem? r1) _ (List.mem_of_getElem? r3)
end Pc.Tn
end
section
namespace K39
open PySem Pc Pc.Sm Pc.Lw Pc.Gr Pc.Nw Pc.Fr Pc.Tn
noncomputable def qI:List D->Option (List Tr)
 |[]=>some []
 |.tup [.int a,.int b,.int c]::r=>(qI r).map ((a,b,c) :: ·)
 |_::_=>none
theorem qY:∀{l:List D}{x:List Tr},qI l=some x->l=x.map tD
 |[],x,h=>by cases h;rfl
 | d::r,x,h=>by
  unfold qI at h;split at h
  ·exact absurd ‹_::_=[]› (by simp)
  ·rename_i a b c r' e;cases e;rw[aa] at h;obtain⟨y,h1,rfl⟩:=h;rw[qY h1];rfl
  ·cases h
noncomputable def okT (n:Int)(t:Tr):Bool:=decide (0<=t.1)&&decide (t.1<n)&&decide (0<=t.2.1)&&decide (t.2.1<n)
noncomputable def eqT:List Tr->List Tr->Bool
 |[],[]=>true
 | (a,b,c)::r,(a',b',c')::r'=>a==a'&&b==b'&&c==c'&&eqT r r'
 |_,_=>false
theorem Bu {x y:List Tr}(h:eqT x y=true):x=y:=by
 induction x generalizing y with
 |nil=>cases y with
  |nil=>rfl
  |cons _ _=>cases h
 |cons p r ih=>cases y with
  |nil=>cases h
  |cons q r' =>
   have h:(p.1==q.1&&p.2.1==q.2.1&&p.2.2==q.2.2&&eqT r r')=true:=h;simp only[Bool.and_eq_true,beq_iff_eq] at h;obtain⟨⟨⟨h1,h2⟩,h3⟩,h⟩:=h;rw[ih h,Prod.ext h1 (Prod.ext h2 h3)]
noncomputable def Aj (n:Int):Bool:=match (T 3).cl 12 [.int n] with
 | .ok (.lst a,true)=>(match (T 1).cl 16 [.int n] with
  | .ok (.lst b,true)=>(match qI a with
   |some x=>(match qI b with
    |some y=>eqT x y&&decide (x.length=100)&&x.all (okT n)
    |none=>false)
   |none=>false)
  |_=>false)
 |_=>false
structure MkI (n:Int)(x:List Tr):Prop where
 h12:(T 3).cl 12 [.int n] = .ok (.lst (x.map tD),true)
 h16:(T 1).cl 16 [.int n] = .ok (.lst (x.map tD),true)
 len:x.length=100
 all:x.all (okT n)=true
theorem oN {n:Int}(h:Aj n=true):∃ x,MkI n x:=by
 unfold Aj at h;split at h
 ·rename_i a e1;split at h
  ·rename_i b e2;split at h
   ·rename_i x e3;split at h
    ·rename_i y e4;simp only[Bool.and_eq_true,decide_eq_true_eq] at h;obtain⟨⟨h1,h2⟩,h3⟩:=h;obtain rfl:=Bu h1;exact⟨x,by rw[e1,qY e3],by rw[e2,qY e4],h2,h3⟩
    ·cases h
   ·cases h
  ·cases h
 ·cases h
theorem D6:Aj 15=true:=by decide +kernel
theorem DH:Aj 19=true:=by decide +kernel
theorem Di:Aj 23=true:=by decide +kernel
theorem Ez:Aj 27=true:=by decide +kernel
theorem EB:Aj 31=true:=by decide +kernel
theorem up {n:Nat}{f:Nat}{ds:List D}{r:D×Bool}(h:(T n).cl f ds = .ok r)(m:Nat)(hm:n<=m):(T m).cl f ds = .ok r:=by
 have:=vK (fns:=fns) (gl:=gl) (fuel:=1000) h (m - n);rw[show n+(m - n)=m by omega] at this;exact this
theorem rn {k i:Nat}{F:Fn}{ds:List D}(h:fns[i]? = some F)(hl:ds.length=F.ps):(T (k+1)).cl i ds=Pc.ret (aC (T k) F.body (aD ds F.slots)):=mS h hl
structure Mk (n:Nat)(x:List Tr):Prop where
 h12:(T 3).cl 12 [.int (n:Int)] = .ok (.lst (x.map tD),true)
 h16:(T 1).cl 16 [.int (n:Int)] = .ok (.lst (x.map tD),true)
 len:x.length=100
 inn:∀ t∈x,xK n (pT t)
theorem Mk.of {n:Nat}{m:Int}(e:(n:Int)=m){x:List Tr}(h:MkI m x):Mk n x:=by
 subst e;refine⟨h.h12,h.h16,h.len,fun t ht=>?_⟩;have:=dq.mp h.all t ht;unfold okT at this;simp only[Bool.and_eq_true,decide_eq_true_eq] at this;exact⟨this.1.1.1,this.1.1.2,this.1.2,this.2⟩
theorem marks {n:Nat}(h:n=15\/n=19\/n=23\/n=27\/n=31):∃ x,Mk n x:=by
 rcases h with rfl | rfl | rfl | rfl | rfl
 ·obtain⟨x,q⟩:=oN D6;exact⟨x,.of rfl q⟩
 ·obtain⟨x,q⟩:=oN DH;exact⟨x,.of rfl q⟩
 ·obtain⟨x,q⟩:=oN Di;exact⟨x,.of rfl q⟩
 ·obtain⟨x,q⟩:=oN Ez;exact⟨x,.of rfl q⟩
 ·obtain⟨x,q⟩:=oN EB;exact⟨x,.of rfl q⟩
noncomputable def ne' (d:D)(c:Int):Bool:=match d with
 |.int i=>!decide (i=c)
 |_=>true
theorem DK {d:D}(h:sE d=true)(c:Int):jG .NotEq d (.int c)=some (ne' d c):=by
 cases d<;>first | rfl | cases h
noncomputable def uC (M:List (List D))(t:Tr):Bool:=ne' (ce M (pT t)) t.2.2
noncomputable def CL (x:List Tr)(M:List (List D)):Nat:=(x.filter (uC M)).length
noncomputable def CH:Ex:=.cmp .NotEq (.ix (.ix (.var 3) (.var 0)) (.var 1)) (.var 2)
section
variable {n:Nat}{x:List Tr}{M:List (List D)}
theorem oZ {T:Tb}(hM:cN n M){t:Tr}(ht:xK n (pT t)){e:Ex}{d:D}(he:∀ env:En,env[2]? = some (some (.int t.2.2,.own))->ev T e env = .ok (d,.mv [])){p:Slot}{tg:Tg}(hp:p=some (sq M,tg))(hq:∃ R,ev T (.var 3) [sI t.1,sI t.2.1,sI t.2.2,p] = .ok (sq M,R)) :
  bH (some [sI t.1,sI t.2.1,sI t.2.2,p]) (lD T (.some CH)) (ev T e) = .ok (if uC M t then some (d,.mv []) else none):=by
 subst hp;obtain⟨R,hq⟩:=hq;have h1:=BB (T:=T) (env:=[sI t.1,sI t.2.1,sI t.2.2,some (sq M,tg)]) (r:=t.1) (c:=t.2.1) hM hq ht (aJ (i:=0) rfl rfl) (aJ (i:=1) rfl rfl);have h2:ev T (.var 2) [sI t.1,sI t.2.1,sI t.2.2,some (sq M,tg)] = .ok (.int t.2.2,.mv []):=aJ rfl rfl;have hc:ev T CH [sI t.1,sI t.2.1,sI t.2.2,some (sq M,tg)] = .ok (.bl (uC M t),.mv []):=by
  unfold CH;rw[ev,h1,aA,h2,aA,DK (DX hM ht),aN,aA];rfl
 simp only[bH,lD,hc,aA];rw[he _ rfl];cases uC M t<;>rfl
theorem B0 (K:Mk n x)(hM:cN n M)(hn:n<=1000):(T 4).cl 0 [sq M] = .ok (.int (CL x M:Nat),true):=by
 refine (rn (k:=3) (F:=⟨1,1,b0⟩) rfl rfl).trans ?_;have hst:aD [sq M] 1=[sM M]:=rfl;rw[hst];have hl:ev (T 3) (.blt .len (.cons (.var 0) .nil)) [sM M] = .ok (.int (n:Int),.mv []):=by
  have:=jS (T:=T 3) (e:=.var 0) (env:=[sM M]) (xs:=M.map D.lst) (R:=.sh []) rfl
  rwa [ai,hM.len] at this
 have hit:eA (T 3) (.seq (.call 12 (.cons (.blt .len (.cons (.var 0) .nil)) .nil))) [sM M] = .ok (x.map tD,[]):=by
  rw[eA,iM hl K.h12,aA];rfl
 have hc:=nS (T:=T 3) (own:=3) (pick:=[0]) (t:=.tp [0,1,2]) (ce:=CH) (e:=.var 2) (l:=x) (g:=tD) (r:=fun t=>.int t.2.2) (c:=uC M) hit (by rw[K.len];decide) fun t ht=>?_
 ·have h2:ev (T 3) (.blt .len (.cons (.comp 3 [0] (.tp [0,1,2]) (.seq (.call 12 (.cons (.blt .len (.cons (.var 0) .nil)) .nil))) (.some CH) (.var 2)) .nil)) [sM M] = .ok (.int (CL x M:Nat),.mv []):=by
   have:=jS hc
   rwa [ai] at this
  exact gG h2
 ·have hb:aV [] (.tp [0,1,2]) (tD t) (bX [sM M] 3 [0])=some [sI t.1,sI t.2.1,sI t.2.2,some (sq M,.sh [])]:=rfl;rw[hb];exact oZ hM (K.inn t ht) (fun env h=>aJ h rfl) rfl ⟨_,rfl⟩
theorem cuT (k:Nat)(hn:n<=1000):u0 (T (k+1)) n 5:=fun M hM c hc=>(rn (k:=k) (F:=⟨2,2,b5⟩) rfl rfl).trans (DP hM hn c hc)
theorem imT (k:Nat):Du (T (k+1)) 2:=fun t=>(rn (k:=k) (F:=⟨1,1,b2⟩) rfl rfl).trans ((D3 (T:=T k) (g:=0) rfl (t:Int)).trans (by
 congr 3;exact decide_eq_decide.mpr (by omega)))
theorem miT (k:Nat)(hn:n<=1000):Dh (T (k+1)) n 3:=fun M hM=>(rn (k:=k) (F:=⟨1,1,b3⟩) rfl rfl).trans (Dy hM hn)
theorem qtT (k:Nat)(hn:n<=1000):E7 (T (k+2)) n 4:=fun M hM q hq=>(rn (k:=k+1) (F:=⟨2,4,b4⟩) rfl rfl).trans (Dj (cuT k hn) hn hM q hq)
theorem yD (hM:cN n M)(hn:n<=1000)(t:Nat)(ht:t<=1000):(T 3).cl 1 [sq M,.int (t:Int)] = .ok (sq (cK t M),true) :=
 (rn (k:=2) (F:=⟨2,3,b1⟩) rfl rfl).trans (DE rfl (imT 1) (miT 1 hn) (qtT 0 hn) hM t ht)
noncomputable def oX (f:Nat->Nat):Nat->Nat->Option (Nat×Nat)
 |0,_=>none
 |k+1,a=>if f a<=8 then some (a,f a) else oX f k (a+1)
noncomputable def lB (q:Nat×Nat):D:=.tup [.int (q.1:Int),.int (q.2:Int)]
theorem ju {t:Nat}{b:En->Fl}{f:Nat->Nat}(J:En->Prop)(hb:∀(a:Nat) (e:En),a<8->J e->∃ e1,aV [] (.nm t) (.int (a:Int)) e=some e1/\if f a<=8 then b e1 = .rt (lB (a,f a)) true else ∃ e2,b e1 = .nx e2/\J e2) :
  ∀(k a:Nat) (e:En),a+k<=8->J e->match oX f k a with
   |some q=>bR (.nm t) [] b (aQ (a:Int) 1 k) e = .rt (lB q) true
   |none=>∃ e',bR (.nm t) [] b (aQ (a:Int) 1 k) e = .nx e'/\J e'
 |0,a,e,_,h=>⟨e,rfl,h⟩
 | k+1,a,e,ha,h=>by
  obtain⟨e1,h1,h2⟩:=hb a e (by omega) h;unfold oX;rw[aQ,bR,h1];by_cases hf:f a<=8
  ·rw[if_pos hf] at h2 ⊢;dsimp only;rw[h2]
  ·rw[if_neg hf] at h2 ⊢;obtain⟨e2,h2,h3⟩:=h2;dsimp only;rw[h2];have:=ju J hb k (a+1) e2 (by omega) h3;rw[show ((a+1:Nat):Int)=(a:Int)+1 by omega] at this;exact this
theorem forR {T:Tb}{t:jL}{it:qa}{b:bW}{env:En}{l:List D}{d:D}{fr:Bool}(hit:eA T it env = .ok (l,[]))(h:bR t [] (aC T b) l env = .rt d fr):aT T (.forr t it b) env = .rt d fr:=by
 rw[aT,hit,aP];dsimp only;rw[kf,h]
noncomputable def fO (x:List Tr)(M:List (List D))(t:Nat):Nat:=CL x (cK t M)
noncomputable def zh:bW:=(.cons (.asg (.nm 2) (.call 0 (.cons (.call 1 (.cons (.var 0) (.cons (.var 1) .nil))) .nil)) false)
  (.cons (.ite (.cmp .LtE (.var 2) (.glb 6)) (.cons (.ret (.tup (.cons (.var 1) (.cons (.var 2) .nil)))) .nil) .nil) .nil))
theorem AB (a b:Int):jG .LtE (.int a) (.int b)=some (decide (a<=b)):=rfl
theorem vC {T:Tb}{env:En}{c:Ex}{k:Bool}{p q:bW}{R:Rt}(h:ev T c env = .ok (.bl k,R)):aT T (.ite c p q) env=if k then aC T p env else aC T q env:=by
 rw[aT,h,aP];cases k<;>rfl
theorem sZ (K:Mk n x)(hM:cN n M)(hn:n<=1000)(m:Nat)(hm:4<=m)(a:Nat)(e:En)(ha:a<8)(h:∃ o1 o2,aO o1/\aO o2/\e=[sM M,o1,o2]) :
  ∃ e1,aV [] (.nm 1) (.int (a:Int)) e=some e1/\if fO x M a<=8 then aC (T m) zh e1 = .rt (lB (a,fO x M a)) true else ∃ e2,aC (T m) zh e1 = .nx e2/\∃ o1 o2,aO o1/\aO o2/\e2=[sM M,o1,o2]:=by
 obtain⟨o1,o2,h1,h2,rfl⟩:=h;have te:Tame [sM M,o1,o2]:=.cons (aZ _) (.cons h1 (.cons h2 .nil));refine⟨[sM M,sI (a:Int),o2],fF te (show (1:Nat)<3 by decide),?_⟩;have te1:Tame [sM M,sI (a:Int),o2]:=.cons (aZ _) (.cons (aB _) (.cons h2 .nil));have hc:ev (T m) (.call 0 (.cons (.call 1 (.cons (.var 0) (.cons (.var 1) .nil))) .nil)) [sM M,sI (a:Int),o2] = .ok (.int (fO x M a:Nat),.mv []) :=
  iM (kW (show ev (T m) (.var 0) [sM M,sI (a:Int),o2] = .ok (sq M,.sh []) from rfl) (aJ (i:=1) rfl rfl) (up (yD hM hn a (by omega)) m (by omega))) (up (B0 K (jh hM a) hn) m hm)
 have g1:=bO (i:=2) te1 (show (2:Nat)<3 by decide) hc;have g1:aT (T m) (.asg (.nm 2) (.call 0 (.cons (.call 1 (.cons (.var 0) (.cons (.var 1) .nil))) .nil)) false) [sM M,sI (a:Int),o2] = .nx [sM M,sI (a:Int),sI (fO x M a:Nat)]:=g1;have v1:ev (T m) (.var 1) [sM M,sI (a:Int),sI (fO x M a:Nat)] = .ok (.int (a:Int),.mv []):=aJ rfl rfl;have v2:ev (T m) (.var 2) [sM M,sI (a:Int),sI (fO x M a:Nat)] = .ok (.int (fO x M a:Nat),.mv []):=aJ rfl rfl;have c2:ev (T m) (.cmp .LtE (.var 2) (.glb 6)) [sM M,sI (a:Int),sI (fO x M a:Nat)] = .ok (.bl (decide (((fO x M a:Nat):Int)<=8)),.mv []):=by
  have hg:ev (T m) (.glb 6) [sM M,sI (a:Int),sI (fO x M a:Nat)] = .ok (.int 8,.mv []):=rfl;rw[ev,v2,aA,hg,aA,AB,aN,aA]
 unfold zh;rw[aC,g1,aM,aC,vC c2];by_cases hf:fO x M a<=8
 ·rw[if_pos hf,du (by omega),if_pos rfl];have et:ev (T m) (.tup (.cons (.var 1) (.cons (.var 2) .nil))) [sM M,sI (a:Int),sI (fO x M a:Nat)] = .ok (lB (a,fO x M a),.mv []):=by
   generalize fO x M a=z at *;unfold lB;generalize ((z:Nat):Int)=z' at *;generalize (a:Int)=a' at *;rfl
  rw[aC,aT,et,aP];rfl
 ·rw[if_neg hf,ef (by omega),if_neg cw,pR,aM,aC];exact⟨_,rfl,_,_,aB _,aB _,rfl⟩
noncomputable def bT:bW:=.cons (.forr (.nm 1) (.rng1 (.glb 5)) zh) (.cons (.ret (.app xcD .nil)) .nil)
noncomputable def kZ (z:D):Option (Nat×Nat)->D
 |some q=>lB q
 |none=>z
theorem x6 (K:Mk n x)(hM:cN n M)(hn:n<=1000):(T 5).cl 22 [sq M] = .ok (kZ yW (oX (fO x M) 8 0),true):=by
 refine (rn (k:=4) (F:=⟨1,3,DD⟩) rfl rfl).trans ?_;have hst:aD [sq M] 3=[sM M,none,none]:=rfl;rw[hst];have hit:eA (T 4) (.rng1 (.glb 5)) [sM M,none,none] = .ok (aQ 0 1 8,[]):=fQ (T 4) [sM M,none,none] (.glb 5) 8 (.mv []) rfl (by decide);have hl:=ju (t:=1) (b:=aC (T 4) zh) (f:=fO x M) (fun e=>∃ o1 o2,aO o1/\aO o2/\e=[sM M,o1,o2]) (fun a e ha he=>sZ K hM hn 4 (aj _) a e ha he) 8 0 [sM M,none,none] (by decide) ⟨none,none,aI,aI,rfl⟩;show ret (aC (T 4) bT _)=_;unfold bT;cases hs:oX (fO x M) 8 0 with
 |some q =>
  rw[hs] at hl;rw[aC,forR hit hl];rfl
 |none =>
  rw[hs] at hl;obtain⟨e',h1,_⟩:=hl;rw[aC,eR hit h1,aM];rfl
end
section
variable {n:Nat}{x:List Tr}{M:List (List D)}
theorem DV (m a:Nat)(ha:a<8):(T (m+1)).cl 20 [.int (a:Int)] = .ok (.int (ux a:Nat),true):=by
 have:a=0\/a=1\/a=2\/a=3\/a=4\/a=5\/a=6\/a=7:=by omega
 rcases this with rfl | rfl | rfl | rfl | rfl | rfl | rfl | rfl<;>rfl
theorem xT (a:Nat)(ha:a<8):ux a<8:=by
 unfold ux;split<;>omega
theorem rT (m:Nat)(hM:cN n M)(hn:n<=31)(t:Nat)(ht:t<8):(T (m+1)).cl 11 [sq M,.int (t:Int)] = .ok (sq (gJ t M),true):=(rn (k:=m) (F:=⟨2,9,C1⟩) rfl rfl).trans (tT n t hn ht hM)
noncomputable def eDl:Ex:=.comp 3 [3] (.tp [0,1,2]) (.seq (.var 1)) (.some CH) (.cst (.int (1)))
noncomputable def EN:bW:=(.cons (.asg (.nm 3) (.call 11 (.cons (.var 0) (.cons (.call 20 (.cons (.var 2) .nil)) .nil))) false)
  (.cons (.asg (.nm 4) (.blt .len (.cons eDl .nil)) false)
  (.cons (.ite (.cmp .LtE (.var 4) (.cst (.int (8)))) (.cons (.ret (.tup (.cons (.var 2) (.cons (.var 4) .nil)))) .nil) .nil) .nil)))
noncomputable def bD:bW:=.cons (.forr (.nm 2) (.rng1 (.cst (.int (8)))) EN) (.cons (.ret (.cst .non)) .nil)
noncomputable abbrev sT (x:List Tr):Slot:=some (.lst (x.map tD),.sh [])
theorem u5 (K:Mk n x)(hM:cN n M)(hn:n<=31)(m:Nat)(a:Nat)(e:En)(ha:a<8)(h:∃ o2 o3 o4,aO o2/\aO o3/\aO o4/\e=[sM M,sT x,o2,o3,o4]) :
  ∃ e1,aV [] (.nm 2) (.int (a:Int)) e=some e1/\if fO x M a<=8 then aC (T (m+1)) EN e1 = .rt (lB (a,fO x M a)) true else ∃ e2,aC (T (m+1)) EN e1 = .nx e2/\∃ o2 o3 o4,aO o2/\aO o3/\aO o4/\e2=[sM M,sT x,o2,o3,o4]:=by
 obtain⟨o2,o3,o4,h2,h3,h4,rfl⟩:=h;refine⟨[sM M,sT x,sI (a:Int),o3,o4],fF (.cons (aZ _) (.cons (aZ _) (.cons h2 (.cons h3 (.cons h4 .nil))))) (show (2:Nat)<5 by decide),?_⟩;have hB:=jh hM a;have c3:ev (T (m+1)) (.call 11 (.cons (.var 0) (.cons (.call 20 (.cons (.var 2) .nil)) .nil))) [sM M,sT x,sI (a:Int),o3,o4] = .ok (sq (cK a M),.mv []):=by
  rw[tw hM ha];exact kW (show ev (T (m+1)) (.var 0) [sM M,sT x,sI (a:Int),o3,o4] = .ok (sq M,.sh []) from rfl) (iM (aJ (i:=2) rfl rfl) (DV m a ha)) (rT m hM hn _ (xT a ha))
 have g3:aT (T (m+1)) (.asg (.nm 3) (.call 11 (.cons (.var 0) (.cons (.call 20 (.cons (.var 2) .nil)) .nil))) false) [sM M,sT x,sI (a:Int),o3,o4] = .nx [sM M,sT x,sI (a:Int),some (sq (cK a M),.own),o4] :=
  bO (.cons (aZ _) (.cons (aZ _) (.cons (aB _) (.cons h3 (.cons h4 .nil))))) (show (3:Nat)<5 by decide) c3
 have hc:=nS (T:=T (m+1)) (env:=[sM M,sT x,sI (a:Int),some (sq (cK a M),.own),o4]) (own:=3) (pick:=[3]) (t:=.tp [0,1,2]) (ce:=CH) (e:=.cst (.int 1)) (it:=.seq (.var 1)) (R:=[]) (l:=x) (g:=tD) (r:=fun _=>.int 1) (c:=uC (cK a M)) rfl (by rw[K.len];decide) fun t ht=>by
  have hb:aV [] (.tp [0,1,2]) (tD t) (bX [sM M,sT x,sI (a:Int),some (sq (cK a M),.own),o4] 3 [3])=some [sI t.1,sI t.2.1,sI t.2.2,some (sq (cK a M),.sh [])]:=rfl;rw[hb];exact oZ hB (K.inn t ht) (fun env h=>bF (.int 1)) rfl ⟨_,rfl⟩
 have h4':ev (T (m+1)) (.blt .len (.cons eDl .nil)) [sM M,sT x,sI (a:Int),some (sq (cK a M),.own),o4] = .ok (.int (fO x M a:Nat),.mv []):=by
  have:=jS hc
  rwa [ai] at this
 have g4:aT (T (m+1)) (.asg (.nm 4) (.blt .len (.cons eDl .nil)) false) [sM M,sT x,sI (a:Int),some (sq (cK a M),.own),o4] = .nx [sM M,sT x,sI (a:Int),some (sq (cK a M),.own),sI (fO x M a:Nat)] :=
  bO (.cons (aZ _) (.cons (aZ _) (.cons (aB _) (.cons (aB _) (.cons h4 .nil))))) (show (4:Nat)<5 by decide) h4'
 have v2:ev (T (m+1)) (.var 2) [sM M,sT x,sI (a:Int),some (sq (cK a M),.own),sI (fO x M a:Nat)] = .ok (.int (a:Int),.mv []):=aJ rfl rfl;have v4:ev (T (m+1)) (.var 4) [sM M,sT x,sI (a:Int),some (sq (cK a M),.own),sI (fO x M a:Nat)] = .ok (.int (fO x M a:Nat),.mv []):=aJ rfl rfl;have c2:ev (T (m+1)) (.cmp .LtE (.var 4) (.cst (.int (8)))) [sM M,sT x,sI (a:Int),some (sq (cK a M),.own),sI (fO x M a:Nat)] = .ok (.bl (decide (((fO x M a:Nat):Int)<=8)),.mv []):=by
  rw[ev,v4,aA,bF,aA,AB,aN,aA]
 unfold EN;rw[aC,g3,aM,aC,g4,aM,aC,vC c2];by_cases hf:fO x M a<=8
 ·rw[if_pos hf,du (by omega),if_pos rfl];have et:ev (T (m+1)) (.tup (.cons (.var 2) (.cons (.var 4) .nil))) [sM M,sT x,sI (a:Int),some (sq (cK a M),.own),sI (fO x M a:Nat)] = .ok (lB (a,fO x M a),.mv []):=by
   clear c2 hc h4' g4;generalize fO x M a=z at *;unfold lB;generalize ((z:Nat):Int)=z' at *;generalize (a:Int)=a' at *;rfl
  rw[aC,aT,et,aP];rfl
 ·rw[if_neg hf,ef (by omega),if_neg cw,pR,aM,aC];exact⟨_,rfl,_,_,_,aB _,aB _,aB _,rfl⟩
theorem Cq (K:Mk n x)(hM:cN n M)(hn:n<=31):(T 2).cl 21 [sq M,.lst (x.map tD)] = .ok (kZ .non (oX (fO x M) 8 0),true):=by
 refine (rn (k:=1) (F:=⟨2,5,b21⟩) rfl rfl).trans ?_;have hst:aD [sq M,.lst (x.map tD)] 5=[sM M,sT x,none,none,none]:=rfl;show ret (aC (T 1) bD (aD [sq M,.lst (x.map tD)] 5))=_;rw[hst];have hit:eA (T 1) (.rng1 (.cst (.int (8)))) [sM M,sT x,none,none,none] = .ok (aQ 0 1 8,[]):=fQ (T 1) _ (.cst (.int 8)) 8 (.mv []) rfl (by decide);have hl:=ju (t:=2) (b:=aC (T 1) EN) (f:=fO x M) (fun e=>∃ o2 o3 o4,aO o2/\aO o3/\aO o4/\e=[sM M,sT x,o2,o3,o4]) (fun a e ha he=>u5 K hM hn 0 a e ha he) 8 0 [sM M,sT x,none,none,none] (by decide) ⟨none,none,none,aI,aI,aI,rfl⟩;unfold bD;cases hs:oX (fO x M) 8 0 with
 |some q =>
  rw[hs] at hl;rw[aC,forR hit hl];rfl
 |none =>
  rw[hs] at hl;obtain⟨e',h1,_⟩:=hl;rw[aC,eR hit h1,aM];rfl
theorem uJ {n:Nat}{m i:Int}(h:i∈bA n m)(hn:0<n):0<=i/\i<n:=by
 unfold bA at h;obtain⟨r,_,rfl⟩:=gr.mp h;exact⟨fm _ (by omega),gm _ (by omega)⟩
theorem picked (m:Nat)(k:Int)(hk:0<=k)(s:Int):∃ l:List Int,(∀ i∈l,0<=i/\i<100)/\l.length<=100/\(T (m+1)).cl 17 [.int 100,.int k,.int s] = .ok (.lst (l.map .int),true):=by
 refine⟨bZ ((bA 100 s).take k.toNat),fun i hi=>?_,?_,(rn (k:=m) (F:=⟨3,4,Bc⟩) rfl rfl).trans ?_⟩
 ·exact uJ (n:=100) (List.mem_of_mem_take ((bQ _).mem_iff.mp hi)) (by decide)
 ·rw[(bQ _).length_eq,eo];have:(bA 100 s).length=100:=by
   unfold bA;rw[ai,(bQ _).length_eq,ai,Tm.eD]
  omega
 ·have hst:aD [.int 100,.int k,.int s] 4=[sI 100,sI k,sI s,none]:=rfl;show ret (aC (T m) Bc (aD [.int 100,.int k,.int s] 4))=_;rw[hst];have h1:bN (T m) (.cons (.var 0) (.cons (.var 1) (.cons (.var 2) .nil))) [sI 100,sI k,sI s,none] = .ok [(.int 100,.mv []),(.int k,.mv []),(.int s,.mv [])]:=rfl;have h2:lT [.int 100,.int k,.int s]=some (.lst ((bZ ((bA 100 s).take k.toNat)).map .int)):=by
   show (if ((0:Int)<=100/\(100:Int)<=1000)/\0<=k then _ else _)=_;rw[if_pos ⟨by decide,hk⟩];rfl
  have h3:ev (T m) (.app lT (.cons (.var 0) (.cons (.var 1) (.cons (.var 2) .nil)))) [sI 100,sI k,sI s,none] = .ok (.lst ((bZ ((bA 100 s).take k.toNat)).map .int),.mv []):=by
   rw[ev,h1,aA];show (iS (lT [.int 100,.int k,.int s])).bind _=_;rw[h2,aN,aA]
  exact gG h3
end
end K39
end
section
namespace Pc.Fr
open PySem Pc Pc.Sm Pc.Lw Pc.Gr Pc.Nw
section
variable {T:Tb}{env:En}
theorem B6 {a b:Ex}{l:List Int}{i:Int}{v:Int}{R R':Rt}(h0:0<=i)(hv:l[i.toNat]? = some v)(ha:ev T a env = .ok (.lst (iD l),R))(hb:ev T b env = .ok (.int i,R')):ev T (.ix a b) env = .ok (.int v,.mv []):=by
 have hi:=(List.getElem?_eq_some_iff.mp hv).1;have:t6 (.lst (iD l)) (.int i)=some (.int v):=by
  show ((Pc.fE (iD l).length i).bind fun j=>(iD l)[j]?)=_;rw[qX h0 (by rw[ai];omega),Option.bind_some,List.getElem?_map,hv];rfl
 rw[ev,ha,aA,hb,aA,this];rfl
end
end Pc.Fr
end
section
namespace K39
open PySem Pc Pc.Sm Pc.Lw Pc.Gr Pc.Nw Pc.Fr Pc.Tn
theorem Ef (z:Int):∃ n:Nat,(n=15\/n=19\/n=23\/n=27\/n=31)/\∀ m,(T (m+1)).cl 8 [.int z] = .ok (.int (n:Int),true):=by
 obtain⟨j,hj,hj'⟩:=iN (a:=z%16) (m:=16) (by omega) (by omega);have hs:∃ n:Nat,(n=15\/n=19\/n=23\/n=27\/n=31)/\t6 (.lst vL) (.int (z%16))=some (.int (n:Int)):=by
  rw[hj];have h16:j∈List.range 16:=List.mem_range.mpr (by omega);have this:j∈[0,1,2,3,4,5,6,7,8,9,10,11,12,13,14,15]:=h16;simp only[List.mem_cons,List.not_mem_nil,or_false] at this;rcases this with rfl | rfl | rfl | rfl | rfl | rfl | rfl | rfl | rfl | rfl | rfl | rfl | rfl | rfl | rfl | rfl
  all_goals first
   | exact⟨15,by decide,rfl⟩
   | exact⟨19,by decide,rfl⟩
   | exact⟨23,by decide,rfl⟩
   | exact⟨27,by decide,rfl⟩
   | exact⟨31,by decide,rfl⟩
 obtain⟨n,h1,h3⟩:=hs;refine⟨n,h1,fun m=>(rn (k:=m) (F:=⟨1,1,b8⟩) rfl rfl).trans ?_⟩;have hst:aD [.int z] 1=[sI z]:=rfl;show ret (aC (T m) Pc.Sm.b8 (aD [.int z] 1))=_;rw[hst];refine gG ?_;have g0:∀ env,ev (T m) e8 env = .ok (.lst vL,.mv []):=fun _=>rfl
 have g1:ev (T m) (.bin .Mod (.var 0) (.cst (.int (16)))) [sI z] = .ok (.int (z%16),.mv []):=rfl;show ev (T m) (.ix e8 (.bin .Mod (.var 0) (.cst (.int (16))))) [sI z]=_;rw[ev,g0,aA,g1,aA,h3,aN,aA];rfl
theorem C7 (m:Nat)(c k f:Int)(hk:small k=true)(hf:small f=true):(T (m+1)).cl 6 [.int c,.int k,.int f] = .ok (.int ((c+k*k+1)*f%2305843009213693951),true):=(rn (k:=m) (F:=⟨3,3,b6⟩) rfl rfl).trans (Br c k f hk hf)
theorem D8 (ns:List Int)(hl:ns.length<=63)(f:Int)(hf:small f=true):∃ X:Int,0<=X/\(T 2).cl 7 [.lst (ns.map D.int),.int f] = .ok (.int X,true):=by
 obtain⟨X,h0,h⟩:=zM (T:=T 1) (C7 0) ns hl f hf;exact⟨X,h0,(rn (k:=1) (F:=⟨2,2,b7⟩) rfl rfl).trans h⟩
theorem xS (n:Nat)(hn:n<=1000)(m:Int):∃ M,cN n M/\(T 1).cl 9 [.int (n:Int),.int m] = .ok (sq M,true):=by
 obtain⟨M,h,q⟩:=uF (T:=T 0) n hn m;exact⟨M,h,(rn (k:=0) (F:=⟨2,6,b9⟩) rfl rfl).trans q⟩
theorem EY {n:Nat}{M:List (List D)}(hM:cN n M)(hn:n<=1000):(T 1).cl 10 [sq M] = .ok (sq M,true):=(rn (k:=0) (F:=⟨1,1,b10⟩) rfl rfl).trans (gG (Ae hM hn []))
theorem yB (c m:Int):∃ v,sE v=true/\(T 1).cl 18 [.int c,.int m] = .ok (v,true):=by
 by_cases h:m%3=0
 ·refine⟨.non,rfl,(rn (k:=0) (F:=⟨2,2,zT⟩) rfl rfl).trans ?_⟩;have hst:aD [.int c,.int m] 2=[sI c,sI m]:=rfl;show ret (aC (T 0) zT (aD [.int c,.int m] 2))=_;rw[hst];have e:ev (T 0) (.cmp .Eq (.bin .Mod (.var 1) (.cst (.int (3)))) (.cst (.int (0)))) [sI c,sI m] = .ok (.bl (decide (m%3=0)),.mv []):=rfl;unfold zT;rw[aC,vC e,du h];rfl
 ·refine⟨.int (1 - c),rfl,(rn (k:=0) (F:=⟨2,2,zT⟩) rfl rfl).trans ?_⟩;have hst:aD [.int c,.int m] 2=[sI c,sI m]:=rfl;show ret (aC (T 0) zT (aD [.int c,.int m] 2))=_;rw[hst];have e:ev (T 0) (.cmp .Eq (.bin .Mod (.var 1) (.cst (.int (3)))) (.cst (.int (0)))) [sI c,sI m] = .ok (.bl (decide (m%3=0)),.mv []):=rfl;unfold zT;rw[aC,vC e,ef h];rfl
theorem u9 (m:Nat)(i:Int):(T (m+1)).cl 19 [.int i] = .ok (.bl true,true):=rfl
noncomputable abbrev E (S:List D)(X n:Int)(M:List (List D))(a4 a5 a6 a7 a8 a9 a10 a11 a12 a13:Slot):En:=[sS S,sI X,sI n,some (sq M,.own),a4,a5,a6,a7,a8,a9,a10,a11,a12,a13]
section
variable {S:List D}{X:Int}{n:Nat}{M:List (List D)}{a4 a5 a6 a7 a8 a9 a10 a11 a12 a13:Slot}
theorem qo (h4:aO a4)(h5:aO a5)(h6:aO a6)(h7:aO a7)(h8:aO a8)(h9:aO a9)(h10:aO a10)(h11:aO a11)(h12:aO a12)(h13:aO a13):Tame (E S X (n:Int) M a4 a5 a6 a7 a8 a9 a10 a11 a12 a13) :=
 .cons (aZ _) (.cons (aB _) (.cons (aB _) (.cons (aB _) (.cons h4 (.cons h5 (.cons h6 (.cons h7 (.cons h8 (.cons h9 (.cons h10 (.cons h11 (.cons h12 (.cons h13 .nil)))))))))))))
noncomputable abbrev E' (S:List D)(X:Int)(n:Nat)(M:List (List D))(a4 a5:Slot):En:=E S X (n:Int) M a4 a5 none none none none none none none none
noncomputable def l1:bW:=(.cons (.asg (.nm 5) (.call 6 (.cons (.ix (.var 0) (.var 4)) (.cons (.var 4) (.cons (.cst (.int (1234567890123456789))) .nil)))) false)
  (.cons (.setix 3 (.some (.bin .Mod (.var 5) (.var 2))) (.bin .Mod (.bin .FloorDiv (.var 5) (.cst (.int (31)))) (.var 2)) (.ix (.lst (.cons (.cst (.int (0))) (.cons (.cst (.int (1))) (.cons (.cst .non) .nil)))) (.bin .Mod (.bin .FloorDiv (.var 5) (.cst (.int (961)))) (.cst (.int (3))))))
  .nil))
theorem nE {T:Tb}{env:En}{a b:Ex}{i j:Int}{R R':Rt}(ha:ev T a env = .ok (.int i,R))(hb:ev T b env = .ok (.int j,R'))(h:0<j):ev T (.bin .Mod a b) env = .ok (.int (i%j),.mv []):=by
 rw[ev,ha,aA,hb,aA,dR];show (iS ((if 0<j then some (i%j) else none).map D.int)).bind _=_;rw[if_pos h];rfl
theorem mM {T:Tb}{env:En}{a b:Ex}{i j:Int}{R R':Rt}(ha:ev T a env = .ok (.int i,R))(hb:ev T b env = .ok (.int j,R'))(h:0<j)(h':j<1073741824):ev T (.bin .FloorDiv a b) env = .ok (.int (i / j),.mv []):=by
 rw[ev,ha,aA,hb,aA,dR];show (iS ((if 0<j/\j<1073741824 then some (i / j) else none).map D.int)).bind _=_;rw[if_pos ⟨h,h'⟩];rfl
theorem Ah {T:Tb}{f:Nat}{a b c:Ex}{env:En}{x y z r:D}{R R' R'':Rt}(h1:ev T a env = .ok (x,R))(h2:ev T b env = .ok (y,R'))(h3:ev T c env = .ok (z,R''))(h:T.cl f [x,y,z] = .ok (r,true)):ev T (.call f (.cons a (.cons b (.cons c .nil)))) env = .ok (r,.mv []):=by
 rw[ev,bN,h1,aA,bN,h2,aA,bN,h3,aA,bN,aA,aA,aA,aA];show (T.cl f [x,y,z]).bind _=_;rw[h,aA];rfl
theorem t1 (ns:List Int)(hl:ns.length<=63)(hn:n<=31)(hn0:0<n)(hM:cN n M)(h4:aO a4)(h5:aO a5)(k:Nat)(hk:k<ns.length) :
  ∃ e1 e2,aV [] (.nm 4) (.int (k:Int)) (E' (ns.map D.int) X n M a4 a5)=some e1/\aC (T 6) l1 e1 = .nx e2/\∃ M' b4 b5,cN n M'/\aO b4/\aO b5/\e2=E' (ns.map D.int) X n M' b4 b5:=by
 have tn:=aI;have to:=aB;refine⟨E' (ns.map D.int) X n M (sI (k:Int)) a5,?_⟩;have g0:aV [] (.nm 4) (.int (k:Int)) (E' (ns.map D.int) X n M a4 a5)=some (E' (ns.map D.int) X n M (sI (k:Int)) a5):=fF (qo h4 h5 tn tn tn tn tn tn tn tn) (show (4:Nat)<14 by decide);have hs:small (k:Int)=true:=du (by omega);have v4:∀{b5 M},ev (T 6) (.var 4) (E' (ns.map D.int) X n M (sI (k:Int)) b5) = .ok (.int (k:Int),.mv []):=fun {_ _}=>aJ rfl rfl
 have ix:ev (T 6) (.ix (.var 0) (.var 4)) (E' (ns.map D.int) X n M (sI (k:Int)) a5) = .ok (.int ns[k],.mv []):=Pc.Fr.B6 (l:=ns) (by omega) (by rw[dh,List.getElem?_eq_getElem hk]) (show ev (T 6) (.var 0) (E' (ns.map D.int) X n M (sI (k:Int)) a5) = .ok (.lst (ns.map D.int),.sh []) from rfl) v4;have hc:=Ah ix v4 (bF (.int 1234567890123456789)) (C7 5 ns[k] (k:Int) 1234567890123456789 hs (by decide));generalize hm:(ns[k]+(k:Int)*(k:Int)+1)*1234567890123456789%2305843009213693951=m at hc;have g1:aT (T 6) (.asg (.nm 5) (.call 6 (.cons (.ix (.var 0) (.var 4)) (.cons (.var 4) (.cons (.cst (.int (1234567890123456789))) .nil)))) false) (E' (ns.map D.int) X n M (sI (k:Int)) a5) = .nx (E' (ns.map D.int) X n M (sI (k:Int)) (sI m)) :=
  bO (qo (to _) h5 tn tn tn tn tn tn tn tn) (show (5:Nat)<14 by decide) hc
 have hN:(0:Int)<(n:Int):=by omega
 have v5:ev (T 6) (.var 5) (E' (ns.map D.int) X n M (sI (k:Int)) (sI m)) = .ok (.int m,.mv []):=aJ rfl rfl;have v2:ev (T 6) (.var 2) (E' (ns.map D.int) X n M (sI (k:Int)) (sI m)) = .ok (.int (n:Int),.mv []):=aJ rfl rfl;obtain⟨v,q1,q2⟩:=E3 (m / 961);have e3:ev (T 6) (.ix (.lst (.cons (.cst (.int (0))) (.cons (.cst (.int (1))) (.cons (.cst .non) .nil)))) (.bin .Mod (.bin .FloorDiv (.var 5) (.cst (.int (961)))) (.cst (.int (3))))) (E' (ns.map D.int) X n M (sI (k:Int)) (sI m)) = .ok (v,.mv []):=by
  have g0:ev (T 6) (.lst (.cons (.cst (.int (0))) (.cons (.cst (.int (1))) (.cons (.cst .non) .nil)))) (E' (ns.map D.int) X n M (sI (k:Int)) (sI m)) = .ok (.lst [.int 0,.int 1,.non],.mv []):=rfl;rw[ev,g0,aA,nE (mM v5 (bF (.int 961)) (by decide) (by decide)) (bF (.int 3)) (by decide),aA,q1,aN,aA];unfold iF;rw[if_pos (gQ q2)]
 have g2:=CT (T:=T 6) (x:=3) hM (by omega) (qo (S:=ns.map D.int) (X:=X) (n:=n) (M:=M) (to (.int (k:Int))) (to (.int m)) tn tn tn tn tn tn tn tn) rfl (r:=m%(n:Int)) (c:=m / 31%(n:Int)) ⟨fm _ (by omega),gm _ hN,fm _ (by omega),gm _ hN⟩ (nE v5 v2 hN) (nE (mM v5 (bF (.int 31)) (by decide) (by decide)) v2 hN) e3;refine⟨E' (ns.map D.int) X n (Bp M (m%(n:Int),m / 31%(n:Int)) v) (sI (k:Int)) (sI m),g0,?_,_,_,_,m9 hM ⟨fm _ (by omega),gm _ hN,fm _ (by omega),gm _ hN⟩ q2,to _,to _,rfl⟩;unfold l1;rw[aC,g1,aM,aC,g2,aM,aC];rfl
theorem Ai (ns:List Int)(hl:ns.length<=63)(hn:n<=31)(hn0:0<n):∀(j k:Nat) (M:List (List D)) (a4 a5:Slot),cN n M->aO a4->aO a5->k+j<=ns.length->∃ M' b4 b5,cN n M'/\aO b4/\aO b5/\bR (.nm 4) [] (aC (T 6) l1) (aQ (k:Int) 1 j) (E' (ns.map D.int) X n M a4 a5) = .nx (E' (ns.map D.int) X n M' b4 b5)
 |0,k,M,a4,a5,hM,h4,h5,_=>⟨M,a4,a5,hM,h4,h5,rfl⟩
 | j+1,k,M,a4,a5,hM,h4,h5,hk=>by
  obtain⟨e1,e2,q1,q2,M',b4,b5,hM',t4,t5,rfl⟩:=t1 (X:=X) ns hl hn hn0 hM h4 h5 k (by omega);obtain⟨M2,c4,c5,r1,r2,r3,r4⟩:=Ai ns hl hn hn0 j (k+1) M' b4 b5 hM' t4 t5 (by omega);refine⟨M2,c4,c5,r1,r2,r3,?_⟩;rw[aQ,bR,q1];dsimp only;rw[q2];dsimp only;rw[show ((k+1:Nat):Int)=(k:Int)+1 by omega] at r4;exact r4
noncomputable def l2:bW:=(.cons (.setix 3 (.some (.var 7)) (.var 8) (.var 9)) .nil)
noncomputable abbrev EJ (x:List Tr):Slot:=some (.lst (x.map tD),.lk)
theorem z8 {x:List Tr}(hn:n<=1000)(h4:aO a4)(h5:aO a5):∀(l:List Tr) (M:List (List D)) (a7 a8 a9:Slot),cN n M->aO a7->aO a8->aO a9->(∀ t∈l,xK n (pT t))->∃ M' b7 b8 b9,cN n M'/\aO b7/\aO b8/\aO b9 /\
  bR (.tp [7,8,9]) [6] (aC (T 6) l2) (l.map tD) (E S X (n:Int) M a4 a5 (EJ x) a7 a8 a9 none none none none) = .nx (E S X (n:Int) M' a4 a5 (EJ x) b7 b8 b9 none none none none)
 |[],M,a7,a8,a9,hM,h7,h8,h9,_=>⟨M,a7,a8,a9,hM,h7,h8,h9,rfl⟩
 | t::l,M,a7,a8,a9,hM,h7,h8,h9,hi=>by
  have tn:=aI;have to:=aB;have tk:=yz (.lst (x.map tD));have hb:aV [6] (.tp [7,8,9]) (tD t) (E S X (n:Int) M a4 a5 (EJ x) a7 a8 a9 none none none none)=some (E S X (n:Int) M a4 a5 (EJ x) (sI t.1) (sI t.2.1) (sI t.2.2) none none none none) :=
   wM (qo h4 h5 tk h7 h8 h9 tn tn tn tn) (show (7:Nat)<14 by decide) (show (8:Nat)<14 by decide) (show (9:Nat)<14 by decide) rfl rfl rfl
  have g:=CT (T:=T 6) (x:=3) (a:=.var 7) (b:=.var 8) (e:=.var 9) hM hn (qo (S:=S) (X:=X) (n:=n) (M:=M) h4 h5 tk (to (.int t.1)) (to (.int t.2.1)) (to (.int t.2.2)) tn tn tn tn) rfl (r:=t.1) (c:=t.2.1) (hi t aq) (aJ rfl rfl) (aJ rfl rfl) (aJ (d:=.int t.2.2) rfl rfl);obtain⟨M',b7,b8,b9,r1,r2,r3,r4,r5⟩:=z8 (x:=x) hn h4 h5 l (Bp M (t.1,t.2.1) (.int t.2.2)) (sI t.1) (sI t.2.1) (sI t.2.2) (m9 hM (hi t aq) rfl) (to _) (to _) (to _) fun u hu=>hi u (ag _ hu)
  refine⟨M',b7,b8,b9,r1,r2,r3,r4,?_⟩;rw[ba,bR,hb];dsimp only;unfold l2 at r5 ⊢;rw[aC,g,aM,aC];exact r5
noncomputable def l3:bW:=(.cons (.asg (.tp [7,8,9]) (.ix (.var 6) (.var 4)) false)
  (.cons (.setix 3 (.some (.var 7)) (.var 8) (.call 18 (.cons (.var 9) (.cons (.bin .Add (.bin .FloorDiv (.var 1) (.cst (.int (3)))) (.bin .Mult (.var 4) (.var 4))) .nil))))
  .nil))
noncomputable abbrev oT (x:List Tr):Slot:=some (.lst (x.map tD),.own)
theorem uS {T:Tb}{env:En}{i j k:Nat}{e:Ex}{x y z:D}(ht:Tame env)(hi:i<env.length)(hj:j<env.length)(hk:k<env.length)(h:ev T e env = .ok (.tup [x,y,z],.mv [])):aT T (.asg (.tp [i,j,k]) e false) env = .nx (((env.set i (some (x,.own))).set j (some (y,.own))).set k (some (z,.own))):=by
 rw[aT,h,aP];show uz (bindM (fun _=>Tg.own) [i,j,k] [x,y,z] env)=_;simp only[bindM,hi,if_true];rw[cO ht,if_pos (by rw[da];exact hj),cO (ht.set (aB x) i),if_pos (by rw[da,da];exact hk),cO ((ht.set (aB x) i).set (aB y) j)];rfl
theorem Aq {x:List Tr}(hx:x.length=100)(hxi:∀ t∈x,xK n (pT t))(hn:n<=1000)(h5:aO a5)(h10:aO a10):∀(l:List Int) (M:List (List D)) (a4 a7 a8 a9:Slot),cN n M->aO a4->aO a7->aO a8->aO a9->(∀ i∈l,0<=i/\i<100)->∃ M' b4 b7 b8 b9,cN n M'/\aO b4/\aO b7/\aO b8/\aO b9 /\
  bR (.nm 4) [] (aC (T 6) l3) (l.map D.int) (E S X (n:Int) M a4 a5 (oT x) a7 a8 a9 a10 none none none) = .nx (E S X (n:Int) M' b4 a5 (oT x) b7 b8 b9 a10 none none none)
 |[],M,a4,a7,a8,a9,hM,h4,h7,h8,h9,_=>⟨M,a4,a7,a8,a9,hM,h4,h7,h8,h9,rfl⟩
 | k::l,M,a4,a7,a8,a9,hM,h4,h7,h8,h9,hi=>by
  have tn:=aI;have to:=aB;obtain⟨k0,k1⟩:=hi k aq;have hkx:k.toNat<x.length:=by omega
  have hb:aV [] (.nm 4) (.int k) (E S X (n:Int) M a4 a5 (oT x) a7 a8 a9 a10 none none none)=some (E S X (n:Int) M (sI k) a5 (oT x) a7 a8 a9 a10 none none none):=fF (qo h4 h5 (to _) h7 h8 h9 h10 tn tn tn) (show (4:Nat)<14 by decide);generalize ht:x[k.toNat]=t;have hin:xK n (pT t):=hxi t (ht ▸ fi hkx);have v4:∀{b7 b8 b9},ev (T 6) (.var 4) (E S X (n:Int) M (sI k) a5 (oT x) b7 b8 b9 a10 none none none) = .ok (.int k,.mv []):=fun {_ _ _}=>aJ rfl rfl
  have hix:ev (T 6) (.ix (.var 6) (.var 4)) (E S X (n:Int) M (sI k) a5 (oT x) a7 a8 a9 a10 none none none) = .ok (tD t,.mv []):=by
   have v6:ev (T 6) (.var 6) (E S X (n:Int) M (sI k) a5 (oT x) a7 a8 a9 a10 none none none) = .ok (.lst (x.map tD),.mv [6]):=gT rfl rfl;have e1:t6 (.lst (x.map tD)) (.int k)=some (tD t):=by
    show (Pc.fE (x.map tD).length k).bind (fun j=>(x.map tD)[j]?)=_;rw[ai,qX k0 (by omega)];show (x.map tD)[k.toNat]? = _;rw[List.getElem?_map,List.getElem?_eq_getElem hkx,ht];rfl
   rw[ev,v6,aA,v4,aA,e1,aN,aA];rfl
  have g1:aT (T 6) (.asg (.tp [7,8,9]) (.ix (.var 6) (.var 4)) false) (E S X (n:Int) M (sI k) a5 (oT x) a7 a8 a9 a10 none none none) = .nx (E S X (n:Int) M (sI k) a5 (oT x) (sI t.1) (sI t.2.1) (sI t.2.2) a10 none none none) :=
   uS (qo (to _) h5 (to _) h7 h8 h9 h10 tn tn tn) (show (7:Nat)<14 by decide) (show (8:Nat)<14 by decide) (show (9:Nat)<14 by decide) hix
  obtain⟨v,q1,q2⟩:=yB t.2.2 (X / 3+k*k);have hmul:ev (T 6) (.bin .Mult (.var 4) (.var 4)) (E S X (n:Int) M (sI k) a5 (oT x) (sI t.1) (sI t.2.1) (sI t.2.2) a10 none none none) = .ok (.int (k*k),.mv []):=by
   have hs:small k=true:=du (by omega);rw[ev,v4,aA,aA,dR];show (iS ((if small k || small k then some (k*k) else none).map D.int)).bind _=_;rw[hs];rfl
  have hadd:ev (T 6) (.bin .Add (.bin .FloorDiv (.var 1) (.cst (.int (3)))) (.bin .Mult (.var 4) (.var 4))) (E S X (n:Int) M (sI k) a5 (oT x) (sI t.1) (sI t.2.1) (sI t.2.2) a10 none none none) = .ok (.int (X / 3+k*k),.mv []):=by
   rw[ev,mM (show ev (T 6) (.var 1) (E S X (n:Int) M (sI k) a5 (oT x) (sI t.1) (sI t.2.1) (sI t.2.2) a10 none none none) = .ok (.int X,.mv []) from aJ rfl rfl) (bF (.int 3)) (by decide) (by decide),aA,hmul,aA,dR];rfl
  have hc:=kW (show ev (T 6) (.var 9) (E S X (n:Int) M (sI k) a5 (oT x) (sI t.1) (sI t.2.1) (sI t.2.2) a10 none none none) = .ok (.int t.2.2,.mv []) from aJ rfl rfl) hadd (up q2 6 (by decide));have g:=CT (T:=T 6) (x:=3) (a:=.var 7) (b:=.var 8) hM hn (qo (S:=S) (X:=X) (n:=n) (M:=M) (to (.int k)) h5 (to (.lst (x.map tD))) (to (.int t.1)) (to (.int t.2.1)) (to (.int t.2.2)) h10 tn tn tn) rfl (r:=t.1) (c:=t.2.1) hin (aJ rfl rfl) (aJ rfl rfl) hc;obtain⟨M',b4,b7,b8,b9,r1,r2,r3,r4,r5,r6⟩:=Aq hx hxi hn h5 h10 l (Bp M (t.1,t.2.1) v) (sI k) (sI t.1) (sI t.2.1) (sI t.2.2) (m9 hM hin q1) (to _) (to _) (to _) (to _) fun u hu=>hi u (ag _ hu)
  refine⟨M',b4,b7,b8,b9,r1,r2,r3,r4,r5,?_⟩;rw[ba,bR,hb];dsimp only;unfold l3 at r6 ⊢;rw[aC,g1,aM,aC,g,aM,aC];exact r6
end
noncomputable def eCt:Ex:=(.call 17 (.cons (.cst (.int (100))) (.cons (.var 10) (.cons (.bin .Mod (.bin .FloorDiv (.var 1) (.cst (.int (7)))) (.cst (.int (2147483399)))) .nil))))
noncomputable def tl2:bW:=(.cons (.ite (.cmp .Is (.var 13) (.cst .non)) (.cons (.ret (.call 23 (.cons (.var 12) .nil)))
  .nil) .nil)
  (.cons (.ret (.and (.cmp .Eq (.var 12) (.var 13)) (.and (.blt (.isi "tuple") (.cons (.var 12) .nil)) (.and (.call 19 (.cons (.ix (.var 12) (.cst (.int (0)))) .nil)) (.call 19 (.cons (.ix (.var 12) (.cst (.int (1)))) .nil))))))
  .nil))
noncomputable def tl:bW:=(.cons (.asg (.nm 3) (.call 11 (.cons (.var 3) (.cons (.bin .Mod (.bin .FloorDiv (.var 1) (.cst (.int (5)))) (.cst (.int (8)))) .nil))) false)
  (.cons (.asg (.nm 11) (.call 10 (.cons (.var 3) .nil)) false)
  (.cons (.asg (.nm 12) (.call 22 (.cons (.var 11) .nil)) false)
  (.cons (.asg (.nm 13) (.call 21 (.cons (.var 3) (.cons (.var 6) .nil))) false)
  (.cons (.ite (.cmp .NotEq (.var 11) (.var 3)) (.cons (.ret (.cst (.bl false)))
  .nil) .nil)
  tl2)))))
noncomputable def bl:bW:=(.cons (.asg (.nm 1) (.call 7 (.cons (.var 0) (.cons (.cst (.int (765432198765432199))) .nil))) false)
  (.cons (.asg (.nm 2) (.call 8 (.cons (.var 1) .nil)) false)
  (.cons (.asg (.nm 3) (.call 9 (.cons (.var 2) (.cons (.bin .Mod (.bin .FloorDiv (.var 1) (.cst (.int (16)))) (.cst (.int (2147483399)))) .nil))) false)
  (.cons (.forr (.nm 4) (.rng1 (.blt .min2 (.cons (.cst (.int (63))) (.cons (.blt .len (.cons (.var 0) .nil)) .nil)))) l1)
  (.cons (.asg (.nm 6) (.call 16 (.cons (.var 2) .nil)) false)
  (.cons (.forr (.tp [7,8,9]) (.seq (.var 6)) l2)
  (.cons (.asg (.nm 10) (.bin .Mod (.bin .FloorDiv (.var 1) (.cst (.int (1009)))) (.cst (.int (18)))) false)
  (.cons (.ite (.cmp .Eq (.bin .Mod (.bin .FloorDiv (.var 1) (.cst (.int (18162)))) (.cst (.int (4)))) (.cst (.int (1)))) (.cons (.asg (.nm 10) (.bin .Mod (.bin .FloorDiv (.var 1) (.cst (.int (72648)))) (.cst (.int (101)))) false)
  .nil) .nil)
  (.cons (.forr (.nm 4) (.seq eCt) l3)
  tl)))))))))
theorem qk {T:Tb}{env e:En}{s:St}{r:bW}{x:Rs (D×Bool)}(h:aT T s env = .nx e)(h':Pc.ret (aC T r e)=x):Pc.ret (aC T (.cons s r) env)=x:=by
 rw[aC,h,aM];exact h'
theorem lenE (T:Tb)(S:List D)(e:En):ev T (.blt .len (.cons (.var 0) .nil)) (sS S::e) = .ok (.int (S.length:Int),.mv []):=jS (R:=.sh []) rfl
theorem it1 (T:Tb)(S:List D)(e:En)(h:S.length<=63):eA T (.rng1 (.blt .min2 (.cons (.cst (.int (63))) (.cons (.blt .len (.cons (.var 0) .nil)) .nil)))) (sS S::e) = .ok (aQ 0 1 S.length,[]):=by
 have h2:iL .min2 [.int 63,.int (S.length:Int)]=some (.int (S.length:Int)):=by
  show some (D.int (if ((S.length:Nat):Int)<(63:Int) then ((S.length:Nat):Int) else 63))=_;by_cases h':((S.length:Nat):Int)<63
  ·rw[if_pos h']
  ·rw[if_neg h'];have:((S.length:Nat):Int)=63:=by omega
   rw[this]
 have g2:ev T (.blt .min2 (.cons (.cst (.int (63))) (.cons (.blt .len (.cons (.var 0) .nil)) .nil))) (sS S::e) = .ok (.int (S.length:Int),.mv []):=by
  have:bN T (.cons (.cst (.int (63))) (.cons (.blt .len (.cons (.var 0) .nil)) .nil)) (sS S::e) = .ok [(.int 63,.mv []),(.int (S.length:Int),.mv [])]:=by
   rw[bN,ev,aA,bN,lenE,aA];rfl
  rw[ev,this,aA,D0,h2,aN,aA,dG]
 have:=fQ T _ _ _ _ g2 (oV (by omega))
 rwa [dh] at this
section
variable {S:List D}{X:Int}{n:Nat}{M:List (List D)}{a4 a5 a6 a7 a8 a9 a10:Slot}
theorem yG {x:List Tr}(K:Mk n x)(hn:n<=31)(hM:cN n M)(hX:0<=X)(h4:aO a4)(h5:aO a5)(h7:aO a7)(h8:aO a8)(h9:aO a9)(h10:aO a10) :
  ∃ fr,Pc.ret (aC (T 6) tl (E S X (n:Int) M a4 a5 (oT x) a7 a8 a9 a10 none none none)) = .ok (.bl true,fr):=by
 have tn:=aI;have to:=aB;obtain⟨t,ht,ht'⟩:=iN (a:=X / 5%8) (m:=8) (by omega) (by omega);have hN:=jw hM t;have v3:∀{M a11 a12 a13},ev (T 6) (.var 3) (E S X (n:Int) M a4 a5 (oT x) a7 a8 a9 a10 a11 a12 a13) = .ok (sq M,.mv [3]):=fun {_ _ _ _}=>gT rfl rfl
 have vX:ev (T 6) (.var 1) (E S X (n:Int) M a4 a5 (oT x) a7 a8 a9 a10 none none none) = .ok (.int X,.mv []):=aJ rfl rfl;have em:=nE (mM vX (bF (.int 5)) (by decide) (by decide)) (bF (.int 8)) (by decide);rw[ht] at em;have g1:aT (T 6) (.asg (.nm 3) (.call 11 (.cons (.var 3) (.cons (.bin .Mod (.bin .FloorDiv (.var 1) (.cst (.int (5)))) (.cst (.int (8)))) .nil))) false) (E S X (n:Int) M a4 a5 (oT x) a7 a8 a9 a10 none none none) = .nx (E S X (n:Int) (gJ t M) a4 a5 (oT x) a7 a8 a9 a10 none none none) :=
  bO (qo h4 h5 (to _) h7 h8 h9 h10 tn tn tn) (show (3:Nat)<14 by decide) (kW v3 em (rT 5 hM hn t (by omega)))
 generalize gJ t M=N at g1 hN;have g2:aT (T 6) (.asg (.nm 11) (.call 10 (.cons (.var 3) .nil)) false) (E S X (n:Int) N a4 a5 (oT x) a7 a8 a9 a10 none none none) = .nx (E S X (n:Int) N a4 a5 (oT x) a7 a8 a9 a10 (some (sq N,.own)) none none) :=
  bO (qo h4 h5 (to _) h7 h8 h9 h10 tn tn tn) (show (11:Nat)<14 by decide) (iM v3 (up (EY hN (by omega)) 6 (by decide)))
 have v11:∀{a12 a13},ev (T 6) (.var 11) (E S X (n:Int) N a4 a5 (oT x) a7 a8 a9 a10 (some (sq N,.own)) a12 a13) = .ok (sq N,.mv [11]):=fun {_ _}=>gT rfl rfl
 have v6:∀{a12 a13},ev (T 6) (.var 6) (E S X (n:Int) N a4 a5 (oT x) a7 a8 a9 a10 (some (sq N,.own)) a12 a13) = .ok (.lst (x.map tD),.mv [6]):=fun {_ _}=>gT rfl rfl
 generalize hd:oX (fO x N) 8 0=r;have ht:=x6 K hN (by omega);have hu:=Cq K hN hn;rw[hd] at ht hu;have g3:aT (T 6) (.asg (.nm 12) (.call 22 (.cons (.var 11) .nil)) false) (E S X (n:Int) N a4 a5 (oT x) a7 a8 a9 a10 (some (sq N,.own)) none none) = .nx (E S X (n:Int) N a4 a5 (oT x) a7 a8 a9 a10 (some (sq N,.own)) (some (kZ yW r,.own)) none) :=
  bO (qo h4 h5 (to _) h7 h8 h9 h10 (to _) tn tn) (show (12:Nat)<14 by decide) (iM v11 (up ht 6 (by decide)))
 have g4:aT (T 6) (.asg (.nm 13) (.call 21 (.cons (.var 3) (.cons (.var 6) .nil))) false) (E S X (n:Int) N a4 a5 (oT x) a7 a8 a9 a10 (some (sq N,.own)) (some (kZ yW r,.own)) none) = .nx (E S X (n:Int) N a4 a5 (oT x) a7 a8 a9 a10 (some (sq N,.own)) (some (kZ yW r,.own)) (some (kZ .non r,.own))) :=
  bO (qo h4 h5 (to _) h7 h8 h9 h10 (to _) (to _) tn) (show (13:Nat)<14 by decide) (kW v3 v6 (up hu 6 (by decide)))
 have g5:=Cy (T:=T 6) (env:=E S X (n:Int) N a4 a5 (oT x) a7 a8 a9 a10 (some (sq N,.own)) (some (kZ yW r,.own)) (some (kZ .non r,.own))) v11 v3 (ED hN) (.cons (.ret (.cst (.bl false))) .nil);unfold tl
 suffices h:∃ fr,Pc.ret (aC (T 6) tl2 (E S X (n:Int) N a4 a5 (oT x) a7 a8 a9 a10 (some (sq N,.own)) (some (kZ yW r,.own)) (some (kZ .non r,.own)))) = .ok (.bl true,fr) by
  obtain⟨fr,h⟩:=h;exact⟨fr,qk g1 (qk g2 (qk g3 (qk g4 (qk g5 h))))⟩
 cases r with
 |none =>
  refine⟨true,?_⟩;rfl
 |some q =>
  obtain⟨a,b⟩:=q;unfold kZ lB;dsimp only;generalize (a:Int)=a';generalize (b:Int)=b';have v12:ev (T 6) (.var 12) (E S X (n:Int) N a4 a5 (oT x) a7 a8 a9 a10 (some (sq N,.own)) (some (.tup [.int a',.int b'],.own)) (some (.tup [.int a',.int b'],.own))) = .ok (.tup [.int a',.int b'],.mv []):=aJ rfl rfl;have v13:ev (T 6) (.var 13) (E S X (n:Int) N a4 a5 (oT x) a7 a8 a9 a10 (some (sq N,.own)) (some (.tup [.int a',.int b'],.own)) (some (.tup [.int a',.int b'],.own))) = .ok (.tup [.int a',.int b'],.mv []):=aJ rfl rfl;have e6:ev (T 6) (.cmp .Is (.var 13) (.cst .non)) (E S X (n:Int) N a4 a5 (oT x) a7 a8 a9 a10 (some (sq N,.own)) (some (.tup [.int a',.int b'],.own)) (some (.tup [.int a',.int b'],.own))) = .ok (.bl false,.mv []):=by
   rw[ev,v13,aA,bF,aA];rfl
  have eq:ev (T 6) (.cmp .Eq (.var 12) (.var 13)) (E S X (n:Int) N a4 a5 (oT x) a7 a8 a9 a10 (some (sq N,.own)) (some (.tup [.int a',.int b'],.own)) (some (.tup [.int a',.int b'],.own))) = .ok (.bl true,.mv []):=by
   have:jG .Eq (.tup [.int a',.int b']) (.tup [.int a',.int b'])=some true:=by
    show D.eqf 40 (.tup [.int a',.int b']) (.tup [.int a',.int b'])=some true;simp[D.eqf,p9]
   rw[ev,v12,aA,v13,aA,this,aN,aA]
  have ei:ev (T 6) (.blt (.isi "tuple") (.cons (.var 12) .nil)) (E S X (n:Int) N a4 a5 (oT x) a7 a8 a9 a10 (some (sq N,.own)) (some (.tup [.int a',.int b'],.own)) (some (.tup [.int a',.int b'],.own))) = .ok (.bl true,.mv []):=CJ v12 rfl;have i0:ev (T 6) (.ix (.var 12) (.cst (.int 0))) (E S X (n:Int) N a4 a5 (oT x) a7 a8 a9 a10 (some (sq N,.own)) (some (.tup [.int a',.int b'],.own)) (some (.tup [.int a',.int b'],.own))) = .ok (.int a',.mv []):=by
   rw[ev,v12,aA,bF,aA];rfl
  have i1:ev (T 6) (.ix (.var 12) (.cst (.int 1))) (E S X (n:Int) N a4 a5 (oT x) a7 a8 a9 a10 (some (sq N,.own)) (some (.tup [.int a',.int b'],.own)) (some (.tup [.int a',.int b'],.own))) = .ok (.int b',.mv []):=by
   rw[ev,v12,aA,bF,aA];rfl
  have c0:=iM i0 (u9 5 a');have c1:=iM i1 (u9 5 b');have ea:ev (T 6) (.and (.cmp .Eq (.var 12) (.var 13)) (.and (.blt (.isi "tuple") (.cons (.var 12) .nil)) (.and (.call 19 (.cons (.ix (.var 12) (.cst (.int (0)))) .nil)) (.call 19 (.cons (.ix (.var 12) (.cst (.int (1)))) .nil))))) (E S X (n:Int) N a4 a5 (oT x) a7 a8 a9 a10 (some (sq N,.own)) (some (.tup [.int a',.int b'],.own)) (some (.tup [.int a',.int b'],.own))) = .ok (.bl true,.mv []):=by
   rw[ev,eq,aA];show ev (T 6) (.and (.blt (.isi "tuple") (.cons (.var 12) .nil)) _) _=_;rw[ev,ei,aA];show ev (T 6) (.and (.call 19 (.cons (.ix (.var 12) (.cst (.int (0)))) .nil)) _) _=_;rw[ev,c0,aA];exact c1
  exact⟨true,qk (ite_ff e6) (gG ea)⟩
end
theorem law (ns:List Int)(hl:ns.length<=63):∃ fr,Pc.run fns gl 1000 7 24 [.lst (ns.map D.int)] = .ok (.bl true,fr):=by
 have tn:=aI;have to:=aB;obtain⟨X,hX,s1⟩:=D8 ns hl 765432198765432199 (by decide);obtain⟨n,hn,s2⟩:=Ef X;have hn31:n<=31/\0<n:=by omega
 obtain⟨x,K⟩:=marks hn;obtain⟨M,hM,s3⟩:=xS n (by omega) (X / 16%2147483399);obtain⟨M1,b4,b5,m1,m2,m3,m4⟩:=Ai (X:=X) ns hl hn31.1 hn31.2 ns.length 0 M none none hM tn tn (by omega);obtain⟨M2,b7,b8,b9,o1,o2,o3,o4,o5⟩:=z8 (S:=ns.map D.int) (X:=X) (n:=n) (x:=x) (by omega) m2 m3 x M1 none none none m1 tn tn tn K.inn;generalize hS:ns.map D.int=S at *;have hSl:S.length=ns.length:=by rw[<-hS,ai]
 have hst:aD [.lst S] 14=[sS S,none,none,none,none,none,none,none,none,none,none,none,none,none]:=rfl;have ts:Tame [sS S,none,none,none,none,none,none,none,none,none,none,none,none,none]:=.cons (aZ _) (.cons tn (.cons tn (.cons tn (.cons tn (.cons tn (.cons tn (.cons tn (.cons tn (.cons tn (.cons tn (.cons tn (.cons tn (.cons tn .nil)))))))))))));have g1:aT (T 6) (.asg (.nm 1) (.call 7 (.cons (.var 0) (.cons (.cst (.int (765432198765432199))) .nil))) false) [sS S,none,none,none,none,none,none,none,none,none,none,none,none,none] = .nx [sS S,sI X,none,none,none,none,none,none,none,none,none,none,none,none] :=
  bO ts (show (1:Nat)<14 by decide) (kW (show ev (T 6) (.var 0) [sS S,none,none,none,none,none,none,none,none,none,none,none,none,none] = .ok (.lst S,.sh []) from rfl) (bF (.int 765432198765432199)) (up s1 6 (by decide)))
 have g2:aT (T 6) (.asg (.nm 2) (.call 8 (.cons (.var 1) .nil)) false) [sS S,sI X,none,none,none,none,none,none,none,none,none,none,none,none] = .nx [sS S,sI X,sI (n:Int),none,none,none,none,none,none,none,none,none,none,none] :=
  bO (.cons (aZ _) (.cons (to _) (.cons tn (.cons tn (.cons tn (.cons tn (.cons tn (.cons tn (.cons tn (.cons tn (.cons tn (.cons tn (.cons tn (.cons tn .nil)))))))))))))) (show (2:Nat)<14 by decide) (iM (show ev (T 6) (.var 1) [sS S,sI X,none,none,none,none,none,none,none,none,none,none,none,none] = .ok (.int X,.mv []) from aJ rfl rfl) (s2 5))
 have vX:ev (T 6) (.var 1) [sS S,sI X,sI (n:Int),none,none,none,none,none,none,none,none,none,none,none] = .ok (.int X,.mv []):=aJ rfl rfl;have g3:aT (T 6) (.asg (.nm 3) (.call 9 (.cons (.var 2) (.cons (.bin .Mod (.bin .FloorDiv (.var 1) (.cst (.int (16)))) (.cst (.int (2147483399)))) .nil))) false) [sS S,sI X,sI (n:Int),none,none,none,none,none,none,none,none,none,none,none] = .nx (E' S X n M none none) :=
  bO (.cons (aZ _) (.cons (to _) (.cons (to _) (.cons tn (.cons tn (.cons tn (.cons tn (.cons tn (.cons tn (.cons tn (.cons tn (.cons tn (.cons tn (.cons tn .nil)))))))))))))) (show (3:Nat)<14 by decide) (kW (show ev (T 6) (.var 2) [sS S,sI X,sI (n:Int),none,none,none,none,none,none,none,none,none,none,none] = .ok (.int (n:Int),.mv []) from aJ rfl rfl) (nE (mM vX (bF (.int 16)) (by decide) (by decide)) (bF (.int 2147483399)) (by decide)) (up s3 6 (by decide)))
 have g4:aT (T 6) (.forr (.nm 4) (.rng1 (.blt .min2 (.cons (.cst (.int (63))) (.cons (.blt .len (.cons (.var 0) .nil)) .nil)))) l1) (E' S X n M none none) = .nx (E' S X n M1 b4 b5) :=
  eR (it1 (T 6) S _ (by omega)) (by rw[hSl];exact m4)
 have g5:aT (T 6) (.asg (.nm 6) (.call 16 (.cons (.var 2) .nil)) false) (E' S X n M1 b4 b5) = .nx (E S X (n:Int) M1 b4 b5 (oT x) none none none none none none none) :=
  bO (qo m2 m3 tn tn tn tn tn tn tn tn) (show (6:Nat)<14 by decide) (iM (show ev (T 6) (.var 2) (E' S X n M1 b4 b5) = .ok (.int (n:Int),.mv []) from aJ rfl rfl) (up K.h16 6 (by decide)))
 have g6:aT (T 6) (.forr (.tp [7,8,9]) (.seq (.var 6)) l2) (E S X (n:Int) M1 b4 b5 (oT x) none none none none none none none) = .nx (E S X (n:Int) M2 b4 b5 (oT x) b7 b8 b9 none none none none) :=
  yq (x:=6) (T:=T 6) (e:=E S X (n:Int) M2 b4 b5 (EJ x) b7 b8 b9 none none none none) (env:=E S X (n:Int) M1 b4 b5 (oT x) none none none none none none none) (l:=x.map tD) (d:=.lst (x.map tD)) (d':=.lst (x.map tD)) rfl rfl o5 rfl
 have g7:aT (T 6) (.asg (.nm 10) (.bin .Mod (.bin .FloorDiv (.var 1) (.cst (.int (1009)))) (.cst (.int (18)))) false) (E S X (n:Int) M2 b4 b5 (oT x) b7 b8 b9 none none none none) = .nx (E S X (n:Int) M2 b4 b5 (oT x) b7 b8 b9 (sI (X / 1009%18)) none none none) :=
  bO (qo m2 m3 (to _) o2 o3 o4 tn tn tn tn) (show (10:Nat)<14 by decide) (nE (mM (show ev (T 6) (.var 1) (E S X (n:Int) M2 b4 b5 (oT x) b7 b8 b9 none none none none) = .ok (.int X,.mv []) from aJ rfl rfl) (bF (.int 1009)) (by decide) (by decide)) (bF (.int 18)) (by decide))
 have vX2:ev (T 6) (.var 1) (E S X (n:Int) M2 b4 b5 (oT x) b7 b8 b9 (sI (X / 1009%18)) none none none) = .ok (.int X,.mv []):=aJ rfl rfl;have g8:∃ k:Int,0<=k/\aT (T 6) (.ite (.cmp .Eq (.bin .Mod (.bin .FloorDiv (.var 1) (.cst (.int (18162)))) (.cst (.int (4)))) (.cst (.int (1)))) (.cons (.asg (.nm 10) (.bin .Mod (.bin .FloorDiv (.var 1) (.cst (.int (72648)))) (.cst (.int (101)))) false) .nil) .nil) (E S X (n:Int) M2 b4 b5 (oT x) b7 b8 b9 (sI (X / 1009%18)) none none none) = .nx (E S X (n:Int) M2 b4 b5 (oT x) b7 b8 b9 (sI k) none none none):=by
  have hc:ev (T 6) (.cmp .Eq (.bin .Mod (.bin .FloorDiv (.var 1) (.cst (.int (18162)))) (.cst (.int (4)))) (.cst (.int (1)))) (E S X (n:Int) M2 b4 b5 (oT x) b7 b8 b9 (sI (X / 1009%18)) none none none) = .ok (.bl (decide (X / 18162%4=1)),.mv []):=by
   rw[ev,nE (mM vX2 (bF (.int 18162)) (by decide) (by decide)) (bF (.int 4)) (by decide),aA,bF,aA];rfl
  rw[vC hc];by_cases h:X / 18162%4=1
  ·refine⟨X / 72648%101,fm _ (by decide),?_⟩;rw[du h,if_pos rfl,aC,bO (qo m2 m3 (to _) o2 o3 o4 (to _) tn tn tn) (show (10:Nat)<14 by decide) (nE (mM vX2 (bF (.int 72648)) (by decide) (by decide)) (bF (.int 101)) (by decide)),aM,aC];rfl
  ·refine⟨X / 1009%18,fm _ (by decide),?_⟩;rw[ef h,if_neg cw,aC]
 obtain⟨k,k0,g8⟩:=g8;obtain⟨l,p1,p2,p3⟩:=picked 5 k k0 (X / 7%2147483399);obtain⟨M3,c4,c7,c8,c9,r1,r2,r3,r4,r5,r6⟩:=Aq (S:=S) (X:=X) (n:=n) (a5:=b5) (a10:=sI k) K.len K.inn (by omega) m3 (to _) l M2 b4 b7 b8 b9 o1 m2 o2 o3 o4 p1;have vX3:ev (T 6) (.var 1) (E S X (n:Int) M2 b4 b5 (oT x) b7 b8 b9 (sI k) none none none) = .ok (.int X,.mv []):=aJ rfl rfl;have hct:ev (T 6) eCt (E S X (n:Int) M2 b4 b5 (oT x) b7 b8 b9 (sI k) none none none) = .ok (.lst (l.map .int),.mv []) :=
  Ah (bF (.int 100)) (show ev (T 6) (.var 10) (E S X (n:Int) M2 b4 b5 (oT x) b7 b8 b9 (sI k) none none none) = .ok (.int k,.mv []) from aJ rfl rfl) (nE (mM vX3 (bF (.int 7)) (by decide) (by decide)) (bF (.int 2147483399)) (by decide)) p3
 have g9:aT (T 6) (.forr (.nm 4) (.seq eCt) l3) (E S X (n:Int) M2 b4 b5 (oT x) b7 b8 b9 (sI k) none none none) = .nx (E S X (n:Int) M3 c4 b5 (oT x) c7 c8 c9 (sI k) none none none) :=
  eR (by rw[eA,hct,aA];rfl) r6
 obtain⟨fr,ht⟩:=yG (S:=S) (X:=X) K hn31.1 r1 hX r2 m3 r3 r4 r5 (to (.int k));refine⟨fr,?_⟩;show (T 7).cl 24 [.lst S]=_;refine (rn (k:=6) (F:=⟨1,14,b24⟩) rfl rfl).trans ?_;show Pc.ret (aC (T 6) bl (aD [.lst S] 14))=_;rw[hst];exact qk g1 (qk g2 (qk g3 (qk g4 (qk g5 (qk g6 (qk g7 (qk g8 (qk g9 ht))))))))
end K39
end
section
namespace Pc
open PySem PySem.Spec PyProof.Rows L2
section
variable {X:Cx}{pins:List (Addr×Obj)}{σ:L2.St}{H:Hp}{s:Shared}{D:Ends}
theorem tW {a:Addr}{o:Obj}(I:Inv (CD X a o) pins σ H s)(ok:X.Ok)(hn:X.s₀.heap.get? a=none)(hp:∀ p∈X.pn++pins,p.1≠a):Inv X pins σ (upd H a (.frz o (.own a))) s:=by
 obtain⟨e,n,nl,nf,nc⟩:=I.pin (a,o) (ay _ aq);have e:s.heap.get? a=some o:=e;have n:H a=none:=n;have ne:∀ b u,H b=some u->b≠a:=fun b u q=>aS q n
 refine⟨ok,I.os,I.bare,⟨I.base.keep,I.base.slot,fun b ob q m hx=>?_,I.base.there,fun b xs q=>?_,fun b ob u q=>?_,fun b ps q=>?_⟩,I.loc,I.cell,?_,fun x c q=>?_,fun p q=>?_,fun b u q=>?_,I.len⟩
 ·rw[aF (fun z=>by rw[z] at q;have q:X.s₀.heap.get? a=some ob:=q;rw[hn] at q;cases q)];exact I.base.free b ob q m hx
 ·have:=I.base.tups b xs q;rw[aF (ne _ _ this)];exact this
 ·have:=I.base.frzs b ob u q;rw[aF (ne _ _ this)];exact this
 ·obtain⟨m,this⟩:=I.base.tbls b ps q;exact⟨m,by rw[aF (ne _ _ this)];exact this⟩
 ·rw[aF (fun z=>nl z.symm)];exact I.free
 ·rw[aF (fun z=>by
   obtain⟨v,oc,h1,h2⟩:=I.cell x c q;have h1:s.heap.get? c=some oc:=h1;rw[z,e] at h1;cases h1;exact nc v h2)]
  exact I.freeC x c q
 ·obtain⟨e1,n1,r1⟩:=I.pin p (ag _ q);exact⟨e1,by rw[aF (hp p q)];exact n1,r1⟩
 ·by_cases hb:b=a
  ·subst hb;rw[aK] at q;cases q;exact⟨e,o,e⟩
  ·rw[aF hb] at q;exact (I.hok b u q).stay (fun c v _ w=>w) (fun c w=>by rw[aF (ne _ _ w)];exact w) fun c xs w=>by rw[aF (ne _ _ w)];exact w
theorem yV (hs:X.stack=X.env::X.outer)(hf:X.env.frame=some X.env.locals)(ok:X.Ok)(hex:X.ex=[]){body rest:List Stmt}{x n:Str}{i:Nat}{Cd:Addr}{bmD:List Value}{newD:String}{np hp pos:Pos}{b₀:Stmt}{suite:List Stmt}{ts:Addr->TS}{tr:TS}{W:Value->Hp->Prop}(hN:X.N.Nodup)(hi:X.N[i]? = some n)(hk:X.env.scope.names.lookup n=some .local)
  (hg:Gl X x) (hm:X.mg x=some (.ref Cd)) (qD:PySem.W.excIn X.K Cd bmD newD=true) (hB:bmD.contains (.type "BaseException")=true)
  (hsu:∀ a o C H',W C H'->o.cls=C->(∃ vs,o.data = .fields vs)->iG (pL X a o) (b₀::suite) (ts a))
  (hre:iG X rest tr)
  (hw:∀ C H',W C H'->(∃ c,C = .ref c/\xB X.K c Cd)/\∀ a o,o.cls=C->ts a ⟨fun σ' H2=>H2 a=none->tr D (σ'.set i none) (upd H2 a (.frz o (.own a))),fun _ _=>False,fun _ _=>False,fun _ _=>False⟩ (σ.set i (some (.ref a))) H') (hd:(x==("__debug__" : Str))=false:=by decide)
  (hb:wpAny (model X.prog X.w) X.A (execs body X.env) (SP X pins ⟨fun σ' H'=>tr D σ' H',fun _ _=>False,fun _ _=>False,fun _ _=>False⟩) (kM X pins σ W) s) :
  wpAny (model X.prog X.w) X.A (execs (.Try body [.ExceptHandler (some (.Name x np)) (some n) (b₀::suite) hp] [] [] pos::rest) X.env) (SP X pins D) X.xe s:=by
 refine wpAny_execs_cons (wpAny_mono (Q:=fun f s'=>f = .next/\∃ σ' H2,Inv X pins σ' H2 s'/\tr D σ' H2) ?_ (fun f s2 q=>?_) fun _ _ z=>z)
 rotate_left
 ·obtain⟨rfl,σ',H2,I2,h3⟩:=q;exact hre pins s2 σ' H2 D I2 h3
 refine wpAny_Try_except (wpAny_mono hb (fun f s1 h1=>?_) fun e s1 h1=>?_)
 ·cases f with
  |next=>obtain⟨σ',H',I,q⟩:=h1;exact wpAny_execs_nil ⟨rfl,σ',H',I,q⟩
  |brk=>obtain⟨_,_,_,q⟩:=h1;exact q.elim
  |cont=>obtain⟨_,_,_,q⟩:=h1;exact q.elim
  |ret u=>obtain⟨_,_,_,_,_,q⟩:=h1;exact q.elim
 obtain⟨H0,s0,a,C,a0,H',B,I0,rfl,ho,hbr,F1,f1,w1⟩:=h1;obtain⟨⟨c,rfl,bmB,newId,cd,c0,dd0,sl0,qC,lC,mC⟩,hts⟩:=hw C H' w1;have f1':=f1;rw[hs] at f1';refine wpAny_looks_onW (by rw[ok.frames,hs]) hf f1' fun h2 g2 u2=>?_
 rw[<-hs] at g2;have F2:=F1.next I0 g2.1 (iC f1) u2;refine wpAny_landsW g2 fun h3 f3 u3=>?_
 have F3:=F2.next I0 f3.1 (oB g2) u3;have e3:({ s1 with heap:=h3 }:Shared)={ s0 with heap:=h3,gens:=s1.gens,drawn:=s1.drawn,toks:=s1.toks }:=by
  cases s1;cases s0;cases ho;rfl
 have I3:Inv X pins σ H' { s1 with heap:=h3 }:=by
  rw[e3];exact F3.inv I0 hbr
 have M3:=vm I3 a ok.frames;refine wpAny_handleBy_cons (codeAny_handlers_test (gW (X:=markX X a) M3 hg hm ?_ hd)) (by intro q;cases q);obtain⟨bm',N',nm',qn',bs',hdct',sn',sub',ab',col',dd',j0,j1,j2,j3,j5,mN',hD,hND,hniD,TD⟩:=jR I3.kIn qD;obtain⟨bm,N,nm,qn,bs,hdct,sn,sub,ab,col,dd,k0,k1,k2,k3,k5,mN,hC,hNC,hniC,TC⟩:=jR I3.kIn qC;obtain⟨oe,he,hcl⟩:=f3.there;have hmro:(Value.ref c::bm).contains (.ref Cd)=true:=by
  have:=I3.kIn _ _ lC;rw[hC] at this;cases this;exact mC
 refine oS hC hD he hcl (TD.hasType hB) ?_;rw[hmro];refine codeAny_handlers_suite_as ?_;refine lands_againW f3 fun h4 f4 u4=>?_
 have F4:=F3.next I0 f4.1 (iC f3) u4;have e4:({ s1 with heap:=h4 }:Shared)={ s0 with heap:=h4,gens:=s1.gens,drawn:=s1.drawn,toks:=s1.toks }:=by
  cases s1;cases s0;cases ho;rfl
 have I4:Inv X pins σ H' { s1 with heap:=h4 }:=by
  rw[e4];exact F4.inv I0 hbr
 obtain⟨o4,vs4,e5,c5,d5,_⟩:=f4.first;have nofr:a∉gI X.stack:=fun z=>by
  obtain⟨o',e',hd'⟩:=iC f4 a z;rw[e5] at e';cases e';exact hd' vs4 d5
 obtain⟨hnew,hnone⟩:s0.heap.get? a=none/\H' a=none:=by
  rcases F4.bf a o4 e5 with z | z | z
  ·exact absurd z nofr
  ·rw[f4.2.1] at z;cases z
  ·exact z
 have hstk:gI X.stack=X.env.locals::X.fs:=by
  rw[hs];unfold gI;rw[ig,hf];rfl
 rw[hstk] at nofr;have P4:Inv (pL X a o4) pins σ H' { s1 with heap:=h4 }:=uu I4 a o4 ok.frames ⟨e5,hnone,fun z=>nofr (by rw[z];exact aq),fun z=>nofr (ag _ z),fun v z=>by rw[d5] at z;cases z⟩;refine fM (X:=pL X a o4) P4 hN hi (.inl hk) (show RelV (.ref a) (.ref a) from rfl) (fun s5 I5=>?_) (.inr hk);refine wpAny_mono (hsu a o4 _ H' w1 c5 ⟨vs4,d5⟩ pins s5 _ H' _ I5 (hts a o4 c5)) (fun f s6 h6=>?_) fun _ _ z=>z.elim
 cases f with
 |next =>
  obtain⟨σ',H6,I6,q⟩:=h6;refine uL (X:=CD X a o4) (qE I6 ok) hN hi hk fun s7 I7=>?_
  have h6:H6 a=none:=(I7.pin (a,o4) (ay _ aq)).2.1;refine⟨rfl,_,_,tW I7 ok ?_ fun p hp z=>?_,q h6⟩
  ·cases e:X.s₀.heap.get? a with
   |none=>rfl
   |some ob =>
    obtain⟨o',e'⟩:=I0.base.there a ob e (by rw[hex];exact fv);rw[hnew] at e';cases e'
  ·have:=(I0.pin p hp).1;rw[z,hnew] at this;cases this
 |brk=>obtain⟨_,_,_,q⟩:=h6;exact q.elim
 |cont=>obtain⟨_,_,_,q⟩:=h6;exact q.elim
 |ret u=>obtain⟨_,_,_,_,_,q⟩:=h6;exact q.elim
end
section
variable {X:Cx}
theorem je {C:Addr}(qC:kL X.K C=true):eL X (.builtin "isinstance") (fun vs H Q=>∃ a o,H a=some (.frz o (.own a))/\o.cls = .ref C/\EU X.K a C vs H Q):=by
 have qC:Bj X.K C:=B4 qC;intro pins s σ H xs us Q I r h;obtain⟨a,o,ha,hc,h⟩:=h;have hx:s.heap.get? a=some o:=(I.hok a _ ha).1;have kin:X.K.In s.heap:=I.kIn;rcases h with ⟨D,rfl,qD,q⟩ | ⟨rfl,q⟩ | ⟨p,Ds,rfl,hp,qD,q⟩
 ·obtain⟨u,w',rfl,r1,r2⟩:=r.two;cases r1;cases r2;exact zN kin qC qD hx hc fun t'=>⟨.bl _,H,I.kept (t':=t') fun b o e=>e,rfl,q⟩
 ·obtain⟨u,w',rfl,r1,r2⟩:=r.two;cases r1;cases r2;exact y8 kin qC hx hc ⟨.bl true,H,I,rfl,q⟩
 ·obtain⟨u,w',rfl,r1,r2⟩:=r.two;cases r1;cases r2;obtain⟨_,its,rv,ot,e1,e2,n,e3⟩:=I.hok p _ hp;have:=l9 rv;subst this;exact zE kin qC qD hx hc e1 e2 e3 fun t'=>⟨.bl _,H,I.kept (t':=t') fun b o e=>e,rfl,q⟩
end
end Pc
end
section
namespace Tm
open PySem PyProof.Rows PySem.W
section
variable {prog:Program}{w:World}{A:Around}{E:Value->Shared->Prop}{s:Shared}{h0:Heap}{a:Addr}{ns:List Int}{vs:List Value}{P:PySem.Fin->Shared->Prop}
theorem sx {st:SortSt}{e1:Nat}(k:Kp h0 s.heap)(ha0:h0.get? a=none)(ha:s.heap.get? a=some (seqObj "list" #[] e1)) (hz2:(arrOf st).size<=1000)
  (hf:failedOf st=none) (h:∀ h' c,Kp h0 h'->h'.get? a=some (seqObj "list" ((arrOf st).map (·.2)) c)->P (.done (.ret .none)) { s with heap:=h' }):wpAny (model prog w) A (do
   let t <- seqEpoch a
   Builtin.List.listUpdate (.ref a) fun _=>(arrOf st).map (·.2)
   if let some e:=failedOf st then
    rule "list.sort.comparison-raised"
    throw e
   if (t != e1)=true then
    rule "list.sort.modified"
    raiseError "ValueError" "list modified during sort"
   ret .none) P E s:=by
 refine wpAny_bind (seqEpoch_at ha rfl (wpAny_bind (listUpdate_at ha rfl ?_ (cq _) ?_)))
 ·rw[hf];simp only[bne_self_eq_false,Bool.false_eq_true,if_false];exact wpAny_pure (h _ _ (k.upd ha0) (get?_update_seq ha fun _=>(arrOf st).map (·.2)))
 ·show ((arrOf st).map (·.2)).size<=_;rw[Array.size_map,sizeLine_eq];omega
theorem zL {n:Nat}(nd:ns.Nodup)(hv:IntsAre vs ns)(hn:ns.length<=1000)(k:Kp h0 s.heap)(ha0:h0.get? a=none)(ha:s.heap.get? a=some (seqObj "list" vs.toArray n))
  (h:∀ h' c out,Kp h0 h'->h'.get? a=some (seqObj "list" out c)->Out id ns out.toList->P (.done (.ret .none)) { s with heap:=h' }):wpAny (model prog w) A (Builtin.«list.sort» ⟨[.ref a],[]⟩) P E s:=by
 have l1:=hv.length;have ha1:=get?_update_seq ha fun _=>(#[]:Array Value)
 have k1:Kp h0 (s.heap.update a (Obj.mapSeq fun _=>(#[]:Array Value))):=k.upd ha0;have kz:Kz id ns (vs.toArray.zip vs.toArray):=by
  rw[B9];exact Kz.of (by rw[List.map_id];exact hv) hv
 rw[list_sort_plain];refine wpAny_bind (listItems_at ha rfl (wpAny_bind (listUpdate_at ha rfl (wpAny_bind (seqEpoch_at ha1 rfl (wpAny_bind (wpAny_newTuple (wpAny_bind (wpAny_newList (wpAny_holding ?_) (cq _))) (by show vs.length<=_;rw[sizeLine_eq];omega))))) (by rw[ak,sizeLine_eq];omega) (cq _))));have k3:Kp h0 (((s.heap.update a (Obj.mapSeq fun _=>(#[]:Array Value))).push (seqObj "tuple" vs.toArray 0)).push (seqObj "list" #[] 0)):=fun c o e=>Heap.get?_push_of_some _ (Heap.get?_push_of_some _ (k1 c o e))
 have ha3:=Heap.get?_push_of_some (seqObj "list" #[] 0) (Heap.get?_push_of_some (seqObj "tuple" vs.toArray 0) ha1);dsimp only;by_cases h2:vs.toArray.size<2
 ·rw[if_pos h2,if_pos h2];refine wpAny_bind (wpAny_pure ?_);rw[StateT.run_pure];refine wpAny_bind (wpAny_pure ?_);have es:((arrOf (SortSt.mk' general' (vs.toArray.zip vs.toArray) #[] 7 none)).map (·.2)).toList=vs:=by
   show ((vs.toArray.zip vs.toArray).map (·.2)).toList=vs;rw[B9];simp only[List.map_toArray];exact List.map_snd_zip (aj _)
  refine sx (s:={ s with heap:=((s.heap.update a (Obj.mapSeq fun _=>(#[]:Array Value))).push (seqObj "tuple" vs.toArray 0)).push (seqObj "list" #[] 0) }) (st:=SortSt.mk' general' (vs.toArray.zip vs.toArray) #[] 7 none) k3 ha0 ha3 (by show (vs.toArray.zip vs.toArray).size<=_;rw[kz.size];exact hn) rfl fun h' c k' e'=>h h' c _ k' e' ?_
  rw[es];exact su hv (by rw[<-l1];simpa using h2)
 ·rw[if_neg h2,if_neg h2];rw[ak] at h2;rw[ksk_kind (keys:=vs.toArray) hv (by simpa using h2)];refine wpAny_bind (wpAny_pure (wpAny_bind (wpAny_mono (vh kz nd (by omega)) ?_ fun _ _ e=>e)));rintro⟨⟨⟩,st'⟩ s' ⟨rfl,q1,q2,q3⟩;exact sx (s:={ s with heap:=((s.heap.update a (Obj.mapSeq fun _=>(#[]:Array Value))).push (seqObj "tuple" vs.toArray 0)).push (seqObj "list" #[] 0) }) k3 ha0 ha3 (by omega) q1 fun h' c k' e'=>h h' c _ k' e' q3
theorem uE {l:Addr}{Q:Value->Shared->Prop}(nd:ns.Nodup)(hv:IntsAre vs ns)(hn:ns.length<=1000)(hl:s.heap.IsList l vs.toArray)
  (h:∀ D h' c out,Kp s.heap h'->s.heap.get? D=none->h'.get? D=some (seqObj "list" out c)->Out id ns out.toList->Q (.ref D) { s with heap:=h' }) :
  wpAny (model prog w) A (call (.builtin "sorted") [.ref l]) Q E s:=by
 have l1:=hv.length;refine Calls.call_function_entry kind_sorted plain_sorted entry_sorted (args_sorted1 _) ?_;unfold Builtin.«sorted»;refine wpAny_bind (m:=checkCount "sorted" 1 1 _) (wpAny_pure (wpAny_bind (collect_list hl (wpAny_bind (wpAny_newList ?_ (by rw[sizeLine_eq];omega))) (by rw[sizeLine_eq];omega))));have k1:Kp s.heap ((s.heap.push (seqObj "list" #[] 0)).update s.heap.objs.size (Obj.mapSeq (· ++ vs.toArray))):=Kp.upd (fun c o e=>Heap.get?_push_of_some _ e) (Heap.get?_none_of_le (aj _));have hsz:s.heap.objs.size<=((s.heap.push (seqObj "list" #[] 0)).update s.heap.objs.size (Obj.mapSeq (· ++ vs.toArray))).objs.size:=by rw[Heap.size_update,Heap.size_push];omega
 show wpAny _ _ _ _ _ { s with heap:=((s.heap.push (seqObj "list" #[] 0)).update s.heap.objs.size (Obj.mapSeq (· ++ vs.toArray))).push (seqObj "list" vs.toArray 0) };refine wpAny_bind (wpAny_holding (wpAny_call_entry slot_list_sort ⟨_,Heap.get?_push_size _ rfl,rfl⟩ entry_list_sort ?body (args_list_sort _)));exact zL (h0:=s.heap) (s:={ s with heap:=((s.heap.push (seqObj "list" #[] 0)).update s.heap.objs.size (Obj.mapSeq (· ++ vs.toArray))).push (seqObj "list" vs.toArray 0) }) nd hv hn (fun c o e=>Heap.get?_push_of_some _ (k1 c o e)) (Heap.get?_none_of_le hsz) (Heap.get?_push_size _ rfl) fun h2 c out q1 q2 q3=>⟨_,rfl,wpAny_pure ⟨_,rfl,h _ h2 c out q1 (Heap.get?_none_of_le hsz) q2 q3⟩⟩
end
end Tm
namespace Pc
open PySem PySem.Spec PyProof.Rows L2 Tm
theorem qQ {ns:List Int}{out:List Value}(o:Out id ns out):IntsAre out (bZ ns):=by
 obtain⟨ms,h1,h2,h3⟩:=o;have:ms=bZ ns:=by
  refine PySem.W.lks_uniq (h2.trans (bQ _).symm) ?_ (hU _);refine iq (fun {x y} hx hy h=>?_) h3;have b:=List.idxOf_lt_length_iff.mpr (h2.mem_iff.mp hy);have hx':=List.idxOf_lt_length_iff.mpr (h2.mem_iff.mp hx);rcases Int.lt_or_le y x with z | z
  ·have:=gy (show y+1<=x by omega) (show 0<=(ns.length:Int) by omega);rw[Int.mul_add,Int.mul_one] at this;simp only[id] at h;omega
  ·exact z
 rw[<-this];exact h1
section
variable {X:Cx}
theorem oJ:eL X (.builtin "sorted") (fun vs H Q=>∃ l ns,vs=[.ref l]/\H l=some (.lst (ns.map V.int))/\ns.Nodup/\ns.length<=1000/\∀ p,H p=none->Q (.ref p) (upd H p (.lst ((bZ ns).map V.int)))):=by
 intro pins s σ H xs us Q I r h;obtain⟨l,ns,rfl,hl,nd,hn,h⟩:=h;obtain⟨u,rfl,rx⟩:=r.one;obtain rfl:u = .ref l:=rx;obtain⟨its,rv,pl,_⟩:=I.list (.inl (.inl hl));obtain⟨mm,hn3,_⟩:=id I.loc;refine uE nd (fG rv) hn pl.isList fun D h2 c out hk hD ho hO=>?_
 have hB:∀ b o,s.heap.get? b=some o->b≠D:=fun b o e z=>by rw[z,hD] at e;cases e
 have hnD:H D=none:=by
  cases e:H D with
  |none=>rfl
  |some u =>
   obtain⟨ob,q⟩:=bU.live' (I.hok D u e);exact absurd rfl (hB D ob q)
 have hI:=pI (t':=s.toks) (o:=.lst ((bZ ns).map V.int)) (B:=D) (h':=h2) I hn3 (hn3.keeps hk) (fun b o _ e=>hk b o e) hB ⟨by rw[ai,(bQ ns).length_eq,sizeLine_eq];omega,_,c,jk (qQ hO),by rw[ie];exact ho⟩;exact⟨.ref D,_,hI,rfl,h D hnD⟩
end
end Pc
end
section
namespace K39
open PySem PySem.Spec PyProof.Rows L2 Pc Tm
noncomputable def nmO (q:Str)(o:Obj):Bool:=match o.data with
 |.fields vs=>(match vs.toList with
  |_ :: .str n _::_=>n==q
  |_=>false)
 |_=>false
noncomputable def isS:Value->Bool
 |.str _ _=>true
 |_=>false
noncomputable def DO:Value->Bool
 |.int _ _=>true
 |_=>false
noncomputable def isB:Value->Bool
 |.bool _=>true
 |_=>false
noncomputable def hdO (P c:Addr)(o:Obj):Bool:=match o.data with
 |.fields vs=>o.cls == .type "code" && vs[11]?==some (.ref P)&&isS (vs.getD 18 .none)&&DO (vs.getD 7 .none)&&isB (vs.getD 9 .none)&&DO (vs.getD 10 .none)&&c != P
 |_=>false
noncomputable def hdB (K:Frag)(q:Str)(P:Addr):Bool:=K.all fun p=>!nmO q p.2 || hdO P p.1 p.2
theorem ve {c:Addr}{o:Obj}:∀{K:Frag},List.lookup c K=some o->(c,o)∈K
 |[],h=>by cases h
 | (a,b)::K,h=>by
  rw[bw] at h;by_cases e:c=a
  ·subst e;rw[gw] at h;cases h;exact aq
  ·rw[beq_eq_false_iff_ne.mpr e] at h;exact ag _ (ve h)
noncomputable def pz:Nat->Pos
 |0=>⟨121,64,121,70⟩
 |1=>⟨121,73,121,74⟩
 |2=>⟨121,64,121,74⟩
 |3=>⟨121,79,121,85⟩
 |4=>⟨121,88,121,98⟩
 |5=>⟨121,79,121,98⟩
 |6=>⟨121,101,121,102⟩
 |7=>⟨121,79,121,102⟩
 |8=>⟨121,63,121,103⟩
 |9=>⟨121,106,121,111⟩
 |10=>⟨121,63,121,111⟩
 |11=>⟨121,114,121,120⟩
 |12=>⟨121,123,121,129⟩
 |13=>⟨121,114,121,129⟩
 |14=>⟨121,63,121,129⟩
 |15=>⟨121,133,121,143⟩
 |_=>⟨121,62,121,143⟩
theorem Cz {v:Value}(h:isS v=true):∃ x t,v = .str x t:=by
 cases v with
 |str x t=>exact⟨x,t,rfl⟩
 |_=>cases h
theorem wI {v:Value}(h:DO v=true):∃ x t,v = .int x t:=by
 cases v with
 |int x t=>exact⟨x,t,rfl⟩
 |_=>cases h
theorem A5 {v:Value}(h:isB v=true):∃ x,v = .bool x:=by
 cases v with
 |bool x=>exact⟨x,rfl⟩
 |_=>cases h
theorem AH {K:Frag}{q:Str}{P:Addr}(h:hdB K q P=true){cdv:Value}(hc:PySem.W.codeIn K cdv q=true):∃ c,cdv = .ref c/\∀ h':Heap,K.In h'->PySem.W.CodeHd h' c P:=by
 cases cdv with
 |ref c =>
  refine⟨c,rfl,fun h' KX=>?_⟩;have hc:(match List.lookup c K with
   |some { cls:=_,dict:=_,data:=Data.fields vs,slots:=_ }=>(match vs.toList with
    |_::Value.str n _::_=>n==q
    |_=>false)
   |_=>false)=true:=hc
  cases e:List.lookup c K with
  |none=>rw[e] at hc;cases hc
  |some o =>
   rw[e] at hc;have hm:=dq.mp h _ (ve e);obtain⟨oc,od,dt,sl⟩:=o;cases dt with
   |fields vs =>
    have hn:nmO q ⟨oc,od,.fields vs,sl⟩=true:=hc;simp only[hn,Bool.not_true,Bool.false_or] at hm;have hm:(oc==Value.type "code" && vs[11]?==some (.ref P)&&isS (vs.getD 18 .none)&&DO (vs.getD 7 .none)&&isB (vs.getD 9 .none)&&DO (vs.getD 10 .none)&&c != P)=true:=hm;simp only[Bool.and_eq_true,beq_iff_eq,bne_iff_ne] at hm;obtain⟨⟨⟨⟨⟨⟨m1,m2⟩,m3⟩,m4⟩,m5⟩,m6⟩,m7⟩:=hm;obtain⟨f1,f2,f3⟩:=Cz m3;obtain⟨g1,g2,g3⟩:=wI m4;obtain⟨i1,i3⟩:=A5 m5;obtain⟨j1,j2,j3⟩:=wI m6;exact⟨_,vs,f1,f2,g1,g2,i1,j1,j2,KX _ _ e,m1,rfl,m2,by rw[Array.getD_eq_getD_getElem?,m2];rfl,f3,g3,i3,j3,m7⟩
   |_=>cases hc
 |_=>cases hc
section
variable {P:Program}{w:World}{K:Frag}{mg:Str->Option Value}{base:Heap}
theorem vI (n:Nat)(m:Int)(k:Int):((bA n m).take k.toNat).length<=n:=by
 rw[eo];have:(bA n m).length=n:=by
  unfold bA;rw[ai,(bQ _).length_eq,ai,eD]
 omega
theorem vJ (n:Nat)(m:Int):(bA n m).Nodup:=by
 have h1:(bZ ((dO n).map (yf n m))).Perm ((dO n).map (yf n m)):=bQ _;have h2:(bA n m).Perm (((dO n).map (yf n m)).map fun r=>r%(n:Int)):=h1.map _;have h3:((dO n).map (yf n m)).map (fun r=>r%(n:Int))=dO n:=by
  rw[dm]
  conv=>rhs;rw[<-List.map_id (dO n)]
  exact fh fun i hi=>vY hi
 rw[h3] at h2;exact h2.symm.nodup (nu n)
theorem tq {n:Nat}{f bm:Addr}{fd:FuncData}{r:List D->Rs (D×Bool)}(hr3:∀ ds x,r ds = .ok x->∃ a k m:Int,ds=[.int a,.int k,.int m]/\(0<=a/\a<=1000)/\0<=k/\x=(.lst ((bZ ((bA a.toNat m).take k.toNat)).map .int),true))
  (F:L2.ur K "_law_picked" "_law_picked" (st 38) f fd) (S:cW ["_law_count","_law_some","_law_m","_law_order"] ["_law_count","_law_some","_law_m"] (aH (st 38))) (hd:hdB K "_law_picked" jP=true)
  (hbm:mg "__builtins__" = some (.ref bm)) (hbo:∃ sl,List.lookup bm K=some ⟨.type "module",some builtinsNs,.plain,sl⟩) (b0:bm≠builtinsNs) (bg:bm≠mainGlobals) (bj:bm≠jP) (hs:mg "sorted" = none) (hg:mg "range" = none) :
  iP P w K mg base uw (n+1) f fd ["_law_count","_law_some","_law_m"] (zH K 3 r):=by
 obtain⟨oc,od,kV,doc,pm,an,cdv,ct,osl,rfl,lk,hcd⟩:=F.ex;obtain⟨cc,rfl,hC⟩:=AH hd hcd;refine AA lk hcd S (fun vs H Q E h=>mV h) fun A outer s H vs Q E hr hsp=>?_
 obtain⟨ds,G,hl,rs,x,hx,kq⟩:=hsp;obtain⟨a,k,m,rfl,ha,hk,rfl⟩:=hr3 ds x hx;cases rs with
 |cons r1 rs=>cases rs with
  |cons r2 rs=>cases rs with
   |cons r3 rs =>
    cases rs;obtain⟨rfl,rfl⟩:=r1.int_inv;obtain⟨rfl,rfl⟩:=r2.int_inv;obtain⟨rfl,rfl⟩:=r3.int_inv;have L:Lam (eN uw P w K mg base ["_law_count","_law_some","_law_m","_law_order"] "_law_picked" (aH (st 38)) f (.ref cc) A outer s H E) cc bm:=by
     obtain⟨sl,e⟩:=hbo;exact⟨rfl,hC,hbm,⟨_,e,rfl,rfl,rfl⟩,b0,bg,bj,rfl⟩
    refine⟨_,gK (nD (i:=3) S.nd rfl (.inl rfl) (yk (p:=pz) (cm:=s.heap.objs.size+1) L rfl rfl rfl rfl hs rfl hg rfl rfl (.inl rfl) rfl (by have:=hr.dp;show A.depth+1+2<_;have:A.depth+1+3*n+5<recursionLimit:=this;omega)))
     (gU (la (fH oJ rfl hs boot_sorted (aX (ou rL (pv 3) sA (sU (pv 1))) eK)))),?_⟩
    refine⟨a.toNat,m,by rw[Int.toNat_of_nonneg ha.1];rfl,rfl,by omega,fun l H1 s1 hn1 e1=>?_⟩;refine⟨.ref l,rfl,.int k,rfl,k,rfl,l,_,rfl,.inl (.inl e1),fun l2 hn2=>?_⟩;have hc:lz ((bA a.toNat m).map V.int) none (some k)=((bA a.toNat m).take k.toNat).map V.int:=by
     obtain⟨z,rfl⟩:∃ z:Nat,k=(z:Int):=⟨k.toNat,(Int.toNat_of_nonneg hk).symm⟩;unfold lz;rw[HT.we,HT.yZ,List.drop_zero,ai,Nat.sub_zero,dh,<-List.map_take]
     conv=>rhs;rw[List.take_eq_take_min]
    refine⟨l2,(bA a.toNat m).take k.toNat,rfl,by rw[aK,hc],(vJ _ _).sublist (List.take_sublist _ _),by have:=vI a.toNat m k;omega,fun p hp=>?_⟩;obtain⟨n1,n2⟩:=gF (G0:=[]) (mj (K:=K) (H:=upd H1 l2 (.lst (lz ((bA a.toNat m).map V.int) none (some k)))) (bZ ((bA a.toNat m).take k.toNat))) (fun a ha=>nomatch ha) hp;have sm:aE H (upd H1 l2 (.lst (lz ((bA a.toNat m).map V.int) none (some k)))):=s1.trans (aE.new hn2);refine kq (.ref p) _ [p] (sm.trans (aE.new hp)) n1 (fun b hb=>.inl ?_) fun _=>⟨(by simp),fun b hb=>?_⟩
    ·rw[List.mem_singleton.mp hb];exact aE.no sm hp
    ·rw[List.mem_singleton.mp hb];exact⟨aE.no sm hp,⟨.l _,aK⟩⟩
theorem ends {f C:Addr}{cdv:Value}{A:Around}{outer:List Env}{s:Shared}{H:Hp}{E:XK}{N:List Str}(hm:mg "NoMarks" = some (.ref C)) (q:kL K C=true) :
  iG (eN (xN P w) P w K mg base N "found_turn" (aH (st 28)) f cdv A outer s H E) ((bL (st 28)).drop 1) (fun D σ H'=>E (.ref C) none H'):=by
 refine i9 (gU (st:=.Raise (some (.Call (.Name "NoMarks" _) [.Constant (.str "no turn has marks that are near enough") _ _] [] _)) none _) (t:=fun D σ H'=>dF (tC (.str "no turn has marks that are near enough")) pW σ H' fun vs H'=>E (.ref C) none H') ?_) fun D σ H' h=>h
 exact (xy (C:=C) (W:=fun H'=>E (.ref C) none H') rfl rfl hm (nM q) PySem.F.excBase_ValueError (aX qN eK) (fun pins σ H1 s1 h' a us hW I hx=>pO I hx hW) (fun σ H Q h=>⟨by decide,h⟩))
structure Cc (K:Frag)(mg:Str->Option Value)(cS cT:Addr)(cs:List Addr):Prop where
 hS:mg "SquareError" = some (.ref cS)
 sQ:kL K cS=true
 t:mg "NoMarks" = some (.ref cT)
 tQ:kL K cT=true
 o:rl (fun q:Str×Addr=>(PySem.W.nsIn K mainGlobals q.1=some (some (.ref q.2))/\lF K q.2=true)/\dY K cT q.2=false) (List.zip ["NoInverse","NoLabel","NoMend","NoPicture","NoSign","NoSquare","NoText","TooLong"] cs)
 l:cs.length=8
 st:dY K cT cS=true
 tD:lF K cT=true
 tt:dY K cT cT=true
theorem len8 {cs:List Addr}(h:cs.length=8):∃ a b c d e f g i,cs=[a,b,c,d,e,f,g,i]:=by
 match cs,h with
 |[a,b,c,d,e,f,g,i],_=>exact⟨a,b,c,d,e,f,g,i,rfl⟩
theorem told {n:Nat}{f f' cS cT:Addr}{cs:List Addr}{fd fd':FuncData}{spx:L2.Sp}(hh:Cc K mg cS cT cs)
  (F:L2.ur K "_law_told" "_law_told" (st 43) f fd) (S:cW ["_law_square_here","_law_told_here","e"] ["_law_square_here"] (aH (st 43))) (FR:kR P w K mg base (xN P w) (lj n) f' fd' ["square"] spx) (kp:PySem.W.keepIn K (.ref f')=true)
  (B':Binds K fd' ["square"] []) (hm':mg "found_turn" = some (.ref f')) (sp:L2.Sp) (hl:∀ vs H Q E,sp vs H Q E->∃ v,vs=[v]/\spx [v] H Q (fun C _ H'=>C = .ref cT/\∀ a o,o.cls = .ref cT->H' a=none->Q (.ref a) (upd H' a (.frz o (.own a))))) :
  iP P w K mg base uw (n+1) f fd ["_law_square_here"] sp:=by
 refine (wO (RP:=eM (n+1)) F S (fun A r=>⟨r.hd,r.depth⟩) (fun vs H Q E h=>by obtain⟨v,e,_⟩:=hl vs H Q E h;rw[e];rfl) fun cdv A outer s H vs Q E hr hs=>?_).plain;obtain⟨v,rfl,hx⟩:=hl vs H Q E hs;have hrest:iG (eN uw P w K mg base ["_law_square_here","_law_told_here","e"] "_law_told" (aH (st 43)) f cdv A outer s H E).nox ((bL (st 43)).drop 1) (fun D σ H1=>σ=[some v,some .non,none]/\spx [v] H1 D.rt (fun C _ H'=>C = .ref cT/\∀ a o,o.cls = .ref cT->H' a=none->D.rt (.ref a) (upd H' a (.frz o (.own a))))):=by
  intro pins s1 σ H1 D I ⟨hσ,hx⟩;subst hσ;exact yV (i:=2) (D:=D) (ts:=fun a=>wg (qu 2) (j8 1)) (tr:=zd (qu 1)) (W:=fun C H'=>C = .ref cT/\∀(a:Addr) (o:Obj),o.cls = .ref cT->H' a=none->D.rt (.ref a) (upd H' a (.frz o (.own a)))) rfl rfl I.ok rfl S.nd rfl rfl rfl hh.hS (nM hh.sQ) (by decide)
   (fun a o C H' hW hc hd=>gU (nD (i:=1) S.nd rfl (.inl rfl) (pv 2))) (gU (la (pv 1)))
   (fun C H' hW=>⟨⟨cT,hW.1,u6 hh.tQ hh.st⟩,fun a o hc=>⟨.ref a,rfl,fun h0=>⟨.ref a,rfl,hW.2 a o (hc.trans hW.1) h0⟩⟩⟩) (by decide)
   (zj (i:=1) (Q:=D.rt) S.nd rfl (.inl rfl) I (tV FR (lj.of hr _) rfl hm' kp B' .nil I (aX (pv 0) eK) ⟨v,rfl,hx⟩) fun y H' q=>⟨y,rfl,q⟩)
 exact⟨_,iG.nox (gK (nD (i:=1) S.nd rfl (.inl rfl) qJ) hrest),rfl,hx⟩
def rI (K:Frag)(C:Addr):List V->Hp->VK->Prop:=fun vs H Q=>∃ a o,H a=some (.frz o (.own a))/\o.cls = .ref C/\EU K a C vs H Q
def trR (K:Frag)(cI c1 c2 c3 c4 c5 c6 c7 c8:Addr):TS:=D5 (Eo (tOr (Co (tB (AZ (rI K cI) (dF (qu 0) (dF (tC (.ref cI)) pW))))) (Co (tB (AZ (rI K cI) (dF (qu 0) (dF (tC (.ty "ValueError")) pW)))))) (zd (tC (.bl false))) rK)
 (zd (zR (AZ (rI K cI) (dF (qu 0) (dF (D2 (dF (tC (.ref c1)) (dF (tC (.ref c2)) (dF (tC (.ref c3)) (dF (tC (.ref c4)) (dF (tC (.ref c5)) (dF (tC (.ref c6)) (dF (tC (.ref c7)) (dF (tC (.ref c8)) pW))))))))) pW)))))
theorem xx {n:Nat}{f cS cT:Addr}{cs:List Addr}{fd:FuncData}{h:Heap}(KX:K.In h)(G:h.Ns mainGlobals mg)(hh:Cc K mg cS cT cs)
  (F:L2.ur K "_law_is_no_marks" "_law_is_no_marks" (st 44) f fd) (S:cW ["_law_told_here"] ["_law_told_here"] (aH (st 44))) (hi:mg "isinstance" = none) (hv:mg "ValueError" = none) (sp:L2.Sp)
  (hl:∀ vs H Q E,sp vs H Q E->∃ a o,vs=[.ref a]/\H a=some (.frz o (.own a))/\o.cls = .ref cT/\∀ H2,aE H H2->Q (.bl true) H2):iP P w K mg base uw (n+1) f fd ["_law_told_here"] sp:=by
 obtain⟨c1,c2,c3,c4,c5,c6,c7,c8,rfl⟩:=len8 hh.l;obtain⟨⟨o1,n1⟩,⟨o2,n2⟩,⟨o3,n3⟩,⟨o4,n4⟩,⟨o5,n5⟩,⟨o6,n6⟩,⟨o7,n7⟩,⟨o8,n8⟩,_⟩:=hh.o;refine F.ok S (fun vs H Q E h=>by obtain⟨a,o,e,_⟩:=hl vs H Q E h;rw[e];rfl) fun cdv A outer s H vs Q E hr hs=>?_
 obtain⟨a,o,rfl,ha,hc,hQ⟩:=hl vs H Q E hs;refine⟨trR K cT c1 c2 c3 c4 c5 c6 c7 c8,gK (z6 (PW.pt (Ag (qv (wt (fH (je hh.tQ) rfl hi boot_isinstance (aX (pv 0) (aX (dB rfl hh.t rfl) eK))))) (wV (qv (wt (fH (je hh.tQ) rfl hi boot_isinstance (aX (pv 0) (aX (rD (v:=.ty "ValueError") rfl hv (by rfl) rfl) eK)))))))) (gU (la vU)) sg)
  (gU (la (wj (fH (je hh.tQ) rfl hi boot_isinstance (aX (pv 0) (aX (xu (aX (dB rfl (dw KX G o1.1) rfl) (aX (dB rfl (dw KX G o2.1) rfl) (aX (dB rfl (dw KX G o3.1) rfl) (aX (dB rfl (dw KX G o4.1) rfl) (aX (dB rfl (dw KX G o5.1) rfl) (aX (dB rfl (dw KX G o6.1) rfl) (aX (dB rfl (dw KX G o7.1) rfl) (aX (dB rfl (dw KX G o8.1) rfl) eK))))))))) eK)))))),?_⟩
 refine⟨.ref a,rfl,a,o,ha,hc,.inl ⟨cT,rfl,hh.tD,true,iu V.bl hh.tt,?_⟩⟩;refine⟨.ref a,rfl,a,o,ha,hc,.inr (.inl ⟨rfl,true,rfl,?_⟩)⟩;refine⟨.ref a,rfl,(show (8:Nat)<=sizeLine by decide),fun p hp=>⟨a,o,(aE.new hp) _ _ ha,hc,.inr (.inr ⟨p,[c1,c2,c3,c4,c5,c6,c7,c8],rfl,aK,?_,?_⟩)⟩⟩
 ·intro D hD;simp only[List.mem_cons,List.not_mem_nil,or_false] at hD;rcases hD with rfl | rfl | rfl | rfl | rfl | rfl | rfl | rfl
  ·exact o1.2
  ·exact o2.2
  ·exact o3.2
  ·exact o4.2
  ·exact o5.2
  ·exact o6.2
  ·exact o7.2
  ·exact o8.2
 ·have e:(([c1,c2,c3,c4,c5,c6,c7,c8].map (dY K cT)).any id)=false:=by
   simp only[List.map_cons,List.map_nil,List.any_cons,List.any_nil,n1,n2,n3,n4,n5,n6,n7,n8];rfl
  exact⟨false,iu V.bl e,hQ _ (aE.new hp)⟩
end
end K39
end
section
namespace K39
open PySem PySem.Spec PyProof.Rows L2 Pc
noncomputable def dS:List Str:=["range","len","isinstance","int","bool","list","tuple","min","sorted","sum","reversed","ValueError"]
noncomputable def qB:List Str:=["QUARTERS","MARK_SIDE","UPPER_LEFT","UPPER_RIGHT","LOWER","TURNS","MOST_OFF"]
noncomputable def df0:Df:=⟨"marks_off",st 29,["square"],["square"],b0⟩
noncomputable def df1:Df:=⟨"turned_back",st 23,["square","turn"],["square","turn","upright"],b1⟩
noncomputable def df2:Df:=⟨"is_mirroring",st 24,["turn"],["turn"],b2⟩
noncomputable def df3:Df:=⟨"mirrored",st 25,["square"],["square"],b3⟩
noncomputable def df4:Df:=⟨"quarters_turned",st 26,["square","quarters"],["square","quarters","turned","quarter"],b4⟩
noncomputable def df5:Df:=⟨"column_upwards",st 27,["square","column"],["square","column"],b5⟩
noncomputable def df6:Df:=⟨"_law_mix",st 31,["_law_cell","_law_k","_law_factor"],["_law_cell","_law_k","_law_factor"],b6⟩
noncomputable def df7:Df:=⟨"_law_salt",st 32,["_law_script","_law_factor"],["_law_script","_law_factor"],b7⟩
noncomputable def df8:Df:=⟨"_law_size",st 33,["_law_m"],["_law_m"],b8⟩
noncomputable def df9:Df:=⟨"_law_square",st 34,["_law_size_here","_law_m"],["_law_size_here","_law_m","_law_square_here","_law_row","_law_cells","_law_column"],b9⟩
noncomputable def df10:Df:=⟨"_law_copy",st 35,["_law_square_here"],["_law_square_here"],b10⟩
noncomputable def df11:Df:=⟨"_law_turned",st 36,["_law_square_here","_law_turn"],["_law_square_here","_law_turn","_law_last","_law_made","_law_r","_law_cells","_law_c","_law_a","_law_b"],C1⟩
noncomputable def df12:Df:=⟨"mark_cells",st 16,["size"],["size","lines","cells","row","column"],b12⟩
noncomputable def df13:Df:=⟨"mark_cell",st 17,["size","row","column"],["size","row","column","depth"],b13⟩
noncomputable def df14:Df:=⟨"mark_depth",st 18,["size","line"],["size","line","step"],b14⟩
noncomputable def vg:Df:=⟨"found_turn",st 28,["square"],["square","turn","off"],b15⟩
noncomputable def df16:Df:=⟨"_law_marks",st 37,["_law_size_here"],["_law_size_here","_law_marks_here","_law_r","_law_c","_law_a","_law_b","_law_ring","_law_corner"],b16⟩
noncomputable def EX:Df:=⟨"_law_picked",st 38,["_law_count","_law_some","_law_m"],["_law_count","_law_some","_law_m","_law_order"],Bc⟩
noncomputable def df18:Df:=⟨"_law_unlike",st 39,["_law_cell","_law_m"],["_law_cell","_law_m"],zT⟩
noncomputable def df19:Df:=⟨"_law_whole",st 40,["_law_thing"],["_law_thing"],b19⟩
noncomputable def df20:Df:=⟨"_law_back",st 41,["_law_turn"],["_law_turn"],b20⟩
noncomputable def df21:Df:=⟨"_law_due",st 42,["_law_square_here","_law_marks_here"],["_law_square_here","_law_marks_here","_law_turn","_law_upright","_law_missed"],b21⟩
noncomputable def df22:Df:=⟨"_law_told",st 43,["_law_square_here"],["_law_square_here","_law_told_here","e"],DD⟩
noncomputable def EV:Df:=⟨"_law_is_no_marks",st 44,["_law_told_here"],["_law_told_here"],b23⟩
noncomputable def C9:Df:=⟨"law",st 45,["_law_script"],["_law_script","_law_salt_here","_law_size_here","_law_square_here","_law_k","_law_m","_law_marks_here","_law_r","_law_c","_law_cell","_law_some","_law_handed","_law_told_here","_law_due_here"],b24⟩
noncomputable def p:Pg:=⟨[df0,df1,df2,df3,df4,df5,df6,df7,df8,df9,df10,df11,df12,df13,df14,vg,df16,EX,df18,df19,df20,df21,df22,EV,C9],qB,dS,gl,1000⟩
noncomputable def fgn:List Str:=["_law_picked","_law_told","_law_is_no_marks"]
theorem ok:rl (Df.OkX p fgn) p.dfs :=
 ⟨
   .inl (Df.ok_of (n:=60) (by decide +kernel) rfl (fun _ _ _ _ _ _ us hl=>@iK (fun us=>bindArgs _ ⟨us,[]⟩=pure (List.zip _ us)) us hl (fun _=>rfl))),
   .inl (Df.ok_of (n:=60) (by decide +kernel) rfl (fun _ _ _ _ _ _ us hl=>@lE (fun us=>bindArgs _ ⟨us,[]⟩=pure (List.zip _ us)) us hl (fun _ _=>rfl))),
   .inl (Df.ok_of (n:=60) (by decide +kernel) rfl (fun _ _ _ _ _ _ us hl=>@iK (fun us=>bindArgs _ ⟨us,[]⟩=pure (List.zip _ us)) us hl (fun _=>rfl))),
   .inl (Df.ok_of (n:=60) (by decide +kernel) rfl (fun _ _ _ _ _ _ us hl=>@iK (fun us=>bindArgs _ ⟨us,[]⟩=pure (List.zip _ us)) us hl (fun _=>rfl))),
   .inl (Df.ok_of (n:=60) (by decide +kernel) rfl (fun _ _ _ _ _ _ us hl=>@lE (fun us=>bindArgs _ ⟨us,[]⟩=pure (List.zip _ us)) us hl (fun _ _=>rfl))),
   .inl (Df.ok_of (n:=60) (by decide +kernel) rfl (fun _ _ _ _ _ _ us hl=>@lE (fun us=>bindArgs _ ⟨us,[]⟩=pure (List.zip _ us)) us hl (fun _ _=>rfl))),
   .inl (Df.ok_of (n:=60) (by decide +kernel) rfl (fun _ _ _ _ _ _ us hl=>@BK (fun us=>bindArgs _ ⟨us,[]⟩=pure (List.zip _ us)) us hl (fun _ _ _=>rfl))),
   .inl (Df.ok_of (n:=60) (by decide +kernel) rfl (fun _ _ _ _ _ _ us hl=>@lE (fun us=>bindArgs _ ⟨us,[]⟩=pure (List.zip _ us)) us hl (fun _ _=>rfl))),
   .inl (Df.ok_of (n:=60) (by decide +kernel) rfl (fun _ _ _ _ _ _ us hl=>@iK (fun us=>bindArgs _ ⟨us,[]⟩=pure (List.zip _ us)) us hl (fun _=>rfl))),
   .inl (Df.ok_of (n:=60) (by decide +kernel) rfl (fun _ _ _ _ _ _ us hl=>@lE (fun us=>bindArgs _ ⟨us,[]⟩=pure (List.zip _ us)) us hl (fun _ _=>rfl))),
   .inl (Df.ok_of (n:=60) (by decide +kernel) rfl (fun _ _ _ _ _ _ us hl=>@iK (fun us=>bindArgs _ ⟨us,[]⟩=pure (List.zip _ us)) us hl (fun _=>rfl))),
   .inl (Df.ok_of (n:=60) (by decide +kernel) rfl (fun _ _ _ _ _ _ us hl=>@lE (fun us=>bindArgs _ ⟨us,[]⟩=pure (List.zip _ us)) us hl (fun _ _=>rfl))),
   .inl (Df.ok_of (n:=60) (by decide +kernel) rfl (fun _ _ _ _ _ _ us hl=>@iK (fun us=>bindArgs _ ⟨us,[]⟩=pure (List.zip _ us)) us hl (fun _=>rfl))),
   .inl (Df.ok_of (n:=60) (by decide +kernel) rfl (fun _ _ _ _ _ _ us hl=>@BK (fun us=>bindArgs _ ⟨us,[]⟩=pure (List.zip _ us)) us hl (fun _ _ _=>rfl))),
   .inl (Df.ok_of (n:=60) (by decide +kernel) rfl (fun _ _ _ _ _ _ us hl=>@lE (fun us=>bindArgs _ ⟨us,[]⟩=pure (List.zip _ us)) us hl (fun _ _=>rfl))),
   .inl (Df.ok_of (n:=60) (by decide +kernel) rfl (fun _ _ _ _ _ _ us hl=>@iK (fun us=>bindArgs _ ⟨us,[]⟩=pure (List.zip _ us)) us hl (fun _=>rfl))),
   .inl (Df.ok_of (n:=60) (by decide +kernel) rfl (fun _ _ _ _ _ _ us hl=>@iK (fun us=>bindArgs _ ⟨us,[]⟩=pure (List.zip _ us)) us hl (fun _=>rfl))),
   .inr ⟨(fun _ _ _ _ _ _ us hl=>@BK (fun us=>bindArgs _ ⟨us,[]⟩=pure (List.zip _ us)) us hl (fun _ _ _=>rfl)),.head _⟩,
   .inl (Df.ok_of (n:=60) (by decide +kernel) rfl (fun _ _ _ _ _ _ us hl=>@lE (fun us=>bindArgs _ ⟨us,[]⟩=pure (List.zip _ us)) us hl (fun _ _=>rfl))),
   .inl (Df.ok_of (n:=60) (by decide +kernel) rfl (fun _ _ _ _ _ _ us hl=>@iK (fun us=>bindArgs _ ⟨us,[]⟩=pure (List.zip _ us)) us hl (fun _=>rfl))),
   .inl (Df.ok_of (n:=60) (by decide +kernel) rfl (fun _ _ _ _ _ _ us hl=>@iK (fun us=>bindArgs _ ⟨us,[]⟩=pure (List.zip _ us)) us hl (fun _=>rfl))),
   .inl (Df.ok_of (n:=60) (by decide +kernel) rfl (fun _ _ _ _ _ _ us hl=>@lE (fun us=>bindArgs _ ⟨us,[]⟩=pure (List.zip _ us)) us hl (fun _ _=>rfl))),
   .inr ⟨(fun _ _ _ _ _ _ us hl=>@iK (fun us=>bindArgs _ ⟨us,[]⟩=pure (List.zip _ us)) us hl (fun _=>rfl)),.tail _ (.head _)⟩,
   .inr ⟨(fun _ _ _ _ _ _ us hl=>@iK (fun us=>bindArgs _ ⟨us,[]⟩=pure (List.zip _ us)) us hl (fun _=>rfl)),.tail _ (.tail _ (.head _))⟩,
   .inl (Df.ok_of (n:=60) (by decide +kernel) rfl (fun _ _ _ _ _ _ us hl=>@iK (fun us=>bindArgs _ ⟨us,[]⟩=pure (List.zip _ us)) us hl (fun _=>rfl))),
   trivial⟩
theorem plaw (ns:List Int)(hl:ns.length<=63):∃ fr,p.run 7 24 [.lst (ns.map D.int)] = .ok (.bl true,fr):=law ns hl
noncomputable def dT:Df:=⟨"_law_told",st 43,["_law_square_here"],["_law_square_here","_law_told_here","e"],.nil⟩
section
variable {P:Program}{w:World}{K:Frag}{mg:Str->Option Value}{base h:Heap}
noncomputable def csR:bW:=.cons (.forr (.nm 1) (.rng1 (.glb 5)) zh) .nil
theorem vS {α:Type}{l:List α}(h:l.length=1):∃ v,l=[v]:=by
 match l,h with
 |[v],_=>exact⟨v,rfl⟩
theorem vk {α:Type}{l:List α}(h:l.length=3):∃ a b c,l=[a,b,c]:=by
 match l,h with
 |[a,b,c],_=>exact⟨a,b,c,rfl⟩
theorem Cb {l:List D}{x:D}(h:lT l=some x):∃ a k m:Int,l=[.int a,.int k,.int m]/\(0<=a/\a<=1000)/\0<=k/\x = .lst ((bZ ((bA a.toNat m).take k.toNat)).map .int):=by
 unfold lT at h;split at h
 ·rename_i a k m;split at h
  ·rename_i hc;cases h;exact⟨a,k,m,rfl,hc.1,hc.2,rfl⟩
  ·cases h
 ·cases h
theorem BL {l:List D}{x:D}(h:A7 l=some x):l=[yW]/\x = .bl true:=by
 unfold A7 at h;split at h
 ·split at h
  ·rename_i hc;cases h;exact⟨by rw[hc],rfl⟩
  ·cases h
 ·cases h
theorem w4 {T:Tb}{env:En}{g:List D->Option D}{es:jM}{r:D×Bool}(h:Pc.ret (aC T (.cons (.ret (.app g es)) .nil) env) = .ok r):∃ l x,bN T es env = .ok l/\g (l.map (·.1))=some x/\r=(x,true):=by
 rw[aC,aT,ev] at h;cases e:bN T es env with
 |ok l =>
  rw[e,aA] at h;cases e2:g (l.map (·.1)) with
  |some x =>
   rw[e2,aN,aA,aP] at h;cases h;exact⟨l,x,rfl,e2,rfl⟩
  |none=>rw[e2] at h;cases h
 |exc _=>rw[e] at h;cases h
 |bad=>rw[e] at h;cases h
theorem foreign (KX:K.In h)(G:h.Ns mainGlobals mg)(I:p.In K mg)(hH:xM w K)(hh:∃ cS cs,Cc K mg cS cM cs)(hd':hdB K "_law_picked" jP=true) (hb:∃ bm,mg "__builtins__" = some (.ref bm)/\(∃ sl,List.lookup bm K=some ⟨.type "module",some builtinsNs,.plain,sl⟩)/\bm≠builtinsNs/\bm≠mainGlobals/\bm≠jP):mO p fgn P w K mg base:=by
 obtain⟨cS,cs,hh⟩:=hh;obtain⟨bm,hb1,hb2,hb3,hb4,hb5⟩:=hb;intro n i d hd hn ih f fd F;have hi:i=17\/i=22\/i=23:=by
  have hi:i<25:=(List.getElem?_eq_some_iff.mp hd).1;have q:∀ j,j<25->j≠17->j≠22->j≠23->∀ e,p.dfs[j]? = some e->e.nm∉fgn:=fun j h1 h2 h3 h4 e he=>by
   match j,h1,h2,h3,h4,he with
   |0,_,_,_,_,he=>cases he;decide
   |1,_,_,_,_,he=>cases he;decide
   |2,_,_,_,_,he=>cases he;decide
   |3,_,_,_,_,he=>cases he;decide
   |4,_,_,_,_,he=>cases he;decide
   |5,_,_,_,_,he=>cases he;decide
   |6,_,_,_,_,he=>cases he;decide
   |7,_,_,_,_,he=>cases he;decide
   |8,_,_,_,_,he=>cases he;decide
   |9,_,_,_,_,he=>cases he;decide
   |10,_,_,_,_,he=>cases he;decide
   |11,_,_,_,_,he=>cases he;decide
   |12,_,_,_,_,he=>cases he;decide
   |13,_,_,_,_,he=>cases he;decide
   |14,_,_,_,_,he=>cases he;decide
   |15,_,_,_,_,he=>cases he;decide
   |16,_,_,_,_,he=>cases he;decide
   |18,_,_,_,_,he=>cases he;decide
   |19,_,_,_,_,he=>cases he;decide
   |20,_,_,_,_,he=>cases he;decide
   |21,_,_,_,_,he=>cases he;decide
   |24,_,_,_,_,he=>cases he;decide
  exact Classical.byContradiction fun z=>q i hi (fun e=>z (.inl e)) (fun e=>z (.inr (.inl e))) (fun e=>z (.inr (.inr e))) d hd hn
 obtain⟨f',fd',F',M'⟩:=I.fn 15 vg rfl;have B':=F'.binds (eB ok vg (List.mem_of_getElem? (i:=15) rfl)).bd;rcases hi with rfl | rfl | rfl
 ·cases hd;refine tq (fun ds x hx=>?_) F (iO (p:=p) (d:=EX) (n:=60) (by decide +kernel)) hd' hb1 hb2 hb3 hb4 hb5 (I.blt "sorted" (by decide)) (I.blt "range" (by decide));have hl:ds.length=3:=by
   by_cases hl:ds.length=3
   ·exact hl
   ·unfold Pg.run Pc.run at hx;have:p.fns[17]? = some ⟨3,4,Bc⟩:=rfl;rw[this] at hx;dsimp only at hx;rw[if_neg hl] at hx;cases hx
  have hrun:Pc.ret (aC ⟨p.run n,p.gl,p.fuel⟩ Bc (aD ds 4)) = .ok x:=(mS (F:=⟨3,4,Bc⟩) rfl hl).symm.trans hx;obtain⟨a,b,c,rfl⟩:=vk hl;obtain⟨l,y,h1,h2,rfl⟩:=w4 hrun;have e:l.map (·.1)=[a,b,c]:=by
   have h1:bN ⟨p.run n,p.gl,p.fuel⟩ (.cons (.var 0) (.cons (.var 1) (.cons (.var 2) .nil))) [some (a,aW a []),some (b,aW b []),some (c,aW c []),none] = .ok l:=h1;have v:∀(i:Nat) (d:D) (t:Tg) (env:En),env[i]? = some (some (d,t))->∃ R,ev ⟨p.run n,p.gl,p.fuel⟩ (.var i) env = .ok (d,R):=fun i d t env he=>by rw[ev,he];exact⟨_,rfl⟩
   obtain⟨R0,e0⟩:=v 0 a _ [some (a,aW a []),some (b,aW b []),some (c,aW c []),none] rfl;obtain⟨R1,e1⟩:=v 1 b _ [some (a,aW a []),some (b,aW b []),some (c,aW c []),none] rfl;obtain⟨R2,e2⟩:=v 2 c _ [some (a,aW a []),some (b,aW b []),some (c,aW c []),none] rfl;rw[bN,e0,aA,bN,e1,aA,bN,e2,aA,bN,aA,aA,aA] at h1;cases h1;rfl
  rw[e] at h2;obtain⟨x1,x2,x3,q1,q2,q3,q4⟩:=Cb h2;exact⟨x1,x2,x3,q1,q2,q3,by rw[q4]⟩
 ·cases hd;have FR:=raiser (m:=60) (cs:=csR) (C:=cM) (l:=(bL (st 28)).take 1) (rest:=(bL (st 28)).drop 1) (d:=vg) (P:=P) (base:=base) (eB ok) I hH ih (iO (p:=p) (d:=vg) (n:=60) (by decide +kernel)) F' (df 1 _).symm rfl (fun cdv A outer s H E=>ends hh.t hh.tQ);refine told hh F (iO (p:=p) (d:=dT) (n:=60) (by decide +kernel)) FR F'.kp B' M' _ (fun vs H Q E hs=>?_);obtain⟨ds,G',hlen,rs,r,hrun,k⟩:=hs;obtain⟨v,rfl⟩:=vS (rs.len.symm.trans hlen);refine⟨v,rfl,ds,G',hlen,rs,?_⟩;have hrun:Pc.ret (aC ⟨p.run n,p.gl,p.fuel⟩ DD (aD ds 3)) = .ok r:=(mS (F:=⟨1,3,DD⟩) rfl hlen).symm.trans hrun;have hrun:Pc.ret ((aT ⟨p.run n,p.gl,p.fuel⟩ (.forr (.nm 1) (.rng1 (.glb 5)) zh) (aD ds 3)).andThen (aC ⟨p.run n,p.gl,p.fuel⟩ (.cons (.ret (.app xcD .nil)) .nil))) = .ok r:=hrun;show match (aT ⟨p.run n,p.gl,p.fuel⟩ (.forr (.nm 1) (.rng1 (.glb 5)) zh) (aD ds 3)).andThen (aC ⟨p.run n,p.gl,p.fuel⟩ .nil) with
   |.rt d fr=>∀ v H' G'',aE H H'->Rep K H' d v G''->(∀ a∈G'',H a=none\/a∈G')->(fr=true->G''.Nodup/\∀ a∈G'',H a=none/\∃ vs:ML,H' a=some vs.o)->Q v H'
   |.nx _=>∀ H',aE H H'->(Value.ref cM = .ref cM/\∀(a:Addr) (o:Obj),o.cls = .ref cM->H' a=none->Q (.ref a) (upd H' a (.frz o (.own a))))
   |_=>False
  cases hq:aT ⟨p.run n,p.gl,p.fuel⟩ (.forr (.nm 1) (.rng1 (.glb 5)) zh) (aD ds 3) with
  |rt d fr =>
   rw[hq] at hrun;cases hrun;exact k
  |nx e =>
   rw[hq] at hrun;have e1:Pc.ret ((Fl.nx e).andThen (aC ⟨p.run n,p.gl,p.fuel⟩ (.cons (.ret (.app xcD .nil)) .nil))) = .ok (yW,true):=rfl;rw[e1] at hrun;cases hrun;refine fun H' sm=>⟨rfl,fun a o ho ha=>k (.ref a) _ [] (sm.trans (aE.new ha)) (.mpz aK ho) (fun _ z=>(nomatch z)) fun _=>⟨cy,fun _ z=>(nomatch z)⟩⟩
  |bk e=>rw[hq] at hrun;cases hrun
  |ct e=>rw[hq] at hrun;cases hrun
  |xc e e'=>rw[hq] at hrun;cases hrun
  |bad=>rw[hq] at hrun;cases hrun
 ·cases hd;refine xx KX G hh F (iO (p:=p) (d:=EV) (n:=60) (by decide +kernel)) (I.blt "isinstance" (by decide)) (I.blt "ValueError" (by decide)) _ (fun vs H Q E hs=>?_);obtain⟨ds,G',hlen,rs,r,hrun,k⟩:=hs;obtain⟨d,rfl⟩:=vS hlen;have hrun:Pc.ret (aC ⟨p.run n,p.gl,p.fuel⟩ b23 (aD [d] 1)) = .ok r:=(mS (F:=⟨1,1,b23⟩) rfl hlen).symm.trans hrun;obtain⟨l,y,h1,h2,rfl⟩:=w4 hrun;have e:l.map (·.1)=[d]:=by
   have h1:bN ⟨p.run n,p.gl,p.fuel⟩ (.cons (.var 0) .nil) [some (d,aW d [])] = .ok l:=h1;have v:∃ R,ev ⟨p.run n,p.gl,p.fuel⟩ (.var 0) [some (d,aW d [])] = .ok (d,R):=⟨_,rfl⟩;obtain⟨R0,e0⟩:=v;rw[bN,e0,aA,bN,aA] at h1;cases h1;rfl
  rw[e] at h2;obtain⟨q1,rfl⟩:=BL h2;cases q1;obtain⟨v,rfl,rp⟩:=rs.of1;cases rp with
  |mpz ha hc=>exact⟨_,_,rfl,ha,hc,fun H2 sm=>k _ _ [] sm (.bl true) (fun _ z=>(nomatch z)) fun _=>⟨cy,fun _ z=>(nomatch z)⟩⟩
end
theorem jY {K:Frag}{h:Heap}(KX:PySem.W.Frag.In ((268,{ cls:=Value.none,data:=Data.fields #[] })::K) h)(e:List.lookup 268 K=none)(hd:hdB K "_law_picked" jP=true) (hc:PySem.W.codeIn K (.ref 272) "_law_picked" = true):K.In h/\List.lookup jP K=none/\h.get? jP=some jO/\isCodeTable h jP:=by
 have k1:K.In h:=fun b o q=>KX b o (by
  show List.lookup b ((268,{ cls:=Value.none,data:=Data.fields #[] })::K)=some o;rw[bw];by_cases hb:b=268
  ·rw[hb,e] at q;cases q
  ·rw[beq_eq_false_iff_ne.mpr hb];exact q)
 have k2:h.get? jP=some jO:=KX 268 _ rfl;obtain⟨c,q1,q2⟩:=AH hd hc;exact⟨k1,e,k2,((q2 h k1).tab (ps:=#[]) k2).isCodeTable⟩
end K39
open PySem PySem.W PyProof.Rows
theorem PySem.Challenge.cw_patchsquare_k39_found_turn_holds : PySem.Challenge.rw_patchsquare_k39_found_turn.Holds := by
 refine holds_law (by decide +kernel) fun said=>?_
 refine holds_open (q:=K39.Q) (loose:=[]) (XP:=XL K39.Q []) (YP:=Hook.says K39.H) K39.left (Hook.of K39.H) (Hook.keeps K39.H) (fun s e=>xl_of s (Bool.and_eq_true_iff.mp e).1) XL.keeps (by rfl) (by rfl) (by rfl) (fun s e=>recFacts_of (Bool.and_eq_true_iff.mp e).2) (by rfl) said (by decide +kernel) ⟨rfl,rfl,rfl,rfl,rfl,by decide +kernel⟩ ?hw ?hc
 case hw=>w_witness2
 refine Pc.E4 (l:=PySem.Challenge.rw_patchsquare_k39_found_turn) K39.p K39.fgn 7 24 "_law_script" K39.C9 rfl rfl (K:=K39.K) (fun w h Y=>K39.jY (K:=K39.K w.params) (PySem.W.kIn_of Y) rfl (by kernel_rfl) rfl) rfl rfl rfl ⟨rfl,by decide,by decide⟩ K39.ok ?st ?nl ?hh ?hf K39.plaw
 case nl=>intro w;rfl
 case hh=>intro w;exact Pc.zX rfl
 case hf =>
  intro w mg h base KX G I;exact K39.foreign KX G I (Pc.zX rfl) ⟨24,[61,73,135,154,116,97,37,49],⟨dw KX G rfl,by kernel_rfl,dw KX G rfl,by kernel_rfl,⟨⟨⟨rfl,rfl⟩,rfl⟩,⟨⟨rfl,rfl⟩,rfl⟩,⟨⟨rfl,rfl⟩,rfl⟩,⟨⟨rfl,rfl⟩,rfl⟩,⟨⟨rfl,rfl⟩,rfl⟩,⟨⟨rfl,rfl⟩,rfl⟩,⟨⟨rfl,rfl⟩,rfl⟩,⟨⟨rfl,rfl⟩,rfl⟩,trivial⟩,rfl,by kernel_rfl,by kernel_rfl,by kernel_rfl⟩⟩ (by kernel_rfl) ⟨4,dw KX G rfl,⟨_,rfl⟩,by decide,by decide,by decide⟩
 case st =>
  intro w;refine⟨⟨?d0,?d1,?d2,?d3,?d4,?d5,?d6,?d7,?d8,?d9,?d10,?d11,?d12,?d13,?d14,?d15,?d16,?d17,?d18,?d19,?d20,?d21,?d22,?d23,?d24,trivial⟩,Pc.yN ⟨?glb0,?glb1,?glb2,?glb3,?glb4,?glb5,?glb6,trivial⟩,⟨?e0,?e1,?e2,?e3,?e4,?e5,?e6,?e7,?e8,?e9,?e10,?e11,trivial⟩⟩
  case d0=>refine' Pc.bG ?a ?l ?c ?k;(case a=>rfl);(case l=>rfl);(case c=>rfl);(case k=>rfl)
  case d1=>refine' Pc.bG ?a ?l ?c ?k;(case a=>rfl);(case l=>rfl);(case c=>rfl);(case k=>rfl)
  case d2=>refine' Pc.bG ?a ?l ?c ?k;(case a=>rfl);(case l=>rfl);(case c=>rfl);(case k=>rfl)
  case d3=>refine' Pc.bG ?a ?l ?c ?k;(case a=>rfl);(case l=>rfl);(case c=>rfl);(case k=>rfl)
  case d4=>refine' Pc.bG ?a ?l ?c ?k;(case a=>rfl);(case l=>rfl);(case c=>rfl);(case k=>rfl)
  case d5=>refine' Pc.bG ?a ?l ?c ?k;(case a=>rfl);(case l=>rfl);(case c=>rfl);(case k=>rfl)
  case d6=>refine' Pc.bG ?a ?l ?c ?k;(case a=>rfl);(case l=>rfl);(case c=>rfl);(case k=>rfl)
  case d7=>refine' Pc.bG ?a ?l ?c ?k;(case a=>rfl);(case l=>rfl);(case c=>rfl);(case k=>rfl)
  case d8=>refine' Pc.bG ?a ?l ?c ?k;(case a=>rfl);(case l=>rfl);(case c=>rfl);(case k=>rfl)
  case d9=>refine' Pc.bG ?a ?l ?c ?k;(case a=>rfl);(case l=>rfl);(case c=>rfl);(case k=>rfl)
  case d10=>refine' Pc.bG ?a ?l ?c ?k;(case a=>rfl);(case l=>rfl);(case c=>rfl);(case k=>rfl)
  case d11=>refine' Pc.bG ?a ?l ?c ?k;(case a=>rfl);(case l=>rfl);(case c=>rfl);(case k=>rfl)
  case d12=>refine' Pc.bG ?a ?l ?c ?k;(case a=>rfl);(case l=>rfl);(case c=>rfl);(case k=>rfl)
  case d13=>refine' Pc.bG ?a ?l ?c ?k;(case a=>rfl);(case l=>rfl);(case c=>rfl);(case k=>rfl)
  case d14=>refine' Pc.bG ?a ?l ?c ?k;(case a=>rfl);(case l=>rfl);(case c=>rfl);(case k=>rfl)
  case d15=>refine' Pc.bG ?a ?l ?c ?k;(case a=>rfl);(case l=>rfl);(case c=>rfl);(case k=>rfl)
  case d16=>refine' Pc.bG ?a ?l ?c ?k;(case a=>rfl);(case l=>rfl);(case c=>rfl);(case k=>rfl)
  case d17=>refine' Pc.bG ?a ?l ?c ?k;(case a=>rfl);(case l=>rfl);(case c=>rfl);(case k=>rfl)
  case d18=>refine' Pc.bG ?a ?l ?c ?k;(case a=>rfl);(case l=>rfl);(case c=>rfl);(case k=>rfl)
  case d19=>refine' Pc.bG ?a ?l ?c ?k;(case a=>rfl);(case l=>rfl);(case c=>rfl);(case k=>rfl)
  case d20=>refine' Pc.bG ?a ?l ?c ?k;(case a=>rfl);(case l=>rfl);(case c=>rfl);(case k=>rfl)
  case d21=>refine' Pc.bG ?a ?l ?c ?k;(case a=>rfl);(case l=>rfl);(case c=>rfl);(case k=>rfl)
  case d22=>refine' Pc.bG ?a ?l ?c ?k;(case a=>rfl);(case l=>rfl);(case c=>rfl);(case k=>rfl)
  case d23=>refine' Pc.bG ?a ?l ?c ?k;(case a=>rfl);(case l=>rfl);(case c=>rfl);(case k=>rfl)
  case d24=>refine' Pc.bG ?a ?l ?c ?k;(case a=>rfl);(case l=>rfl);(case c=>rfl);(case k=>rfl)
  case glb0=>refine' Pc.gl_int (i:=4) ?ga0;(case ga0=>rfl)
  case glb1=>refine' Pc.gl_int (i:=5) ?ga1;(case ga1=>rfl)
  case glb2=>refine' Pc.qz (ds:=[.int 1,.int 0,.int 1]) (vs:=[.int 1,.int 0,.int 1]) ?ga2 ?gl2 ?gc2 ?gz2 ?gv2 ?gr2;(case ga2=>rfl);(case gl2=>rfl);(case gc2=>rfl);(case gz2=>decide);(case gv2=>exact (.cons ⟨_,rfl⟩ (.cons ⟨_,rfl⟩ (.cons ⟨_,rfl⟩ .nil))));(case gr2=>exact fun H=>(.cons (.int _) (.cons (.int _) (.cons (.int _) .nil))))
  case glb3=>refine' Pc.qz (ds:=[.int 1,.int 1,.int 0]) (vs:=[.int 1,.int 1,.int 0]) ?ga3 ?gl3 ?gc3 ?gz3 ?gv3 ?gr3;(case ga3=>rfl);(case gl3=>rfl);(case gc3=>rfl);(case gz3=>decide);(case gv3=>exact (.cons ⟨_,rfl⟩ (.cons ⟨_,rfl⟩ (.cons ⟨_,rfl⟩ .nil))));(case gr3=>exact fun H=>(.cons (.int _) (.cons (.int _) (.cons (.int _) .nil))))
  case glb4=>refine' Pc.qz (ds:=[.int 0,.int 1,.int 0]) (vs:=[.int 0,.int 1,.int 0]) ?ga4 ?gl4 ?gc4 ?gz4 ?gv4 ?gr4;(case ga4=>rfl);(case gl4=>rfl);(case gc4=>rfl);(case gz4=>decide);(case gv4=>exact (.cons ⟨_,rfl⟩ (.cons ⟨_,rfl⟩ (.cons ⟨_,rfl⟩ .nil))));(case gr4=>exact fun H=>(.cons (.int _) (.cons (.int _) (.cons (.int _) .nil))))
  case glb5=>refine' Pc.gl_int (i:=8) ?ga5;(case ga5=>rfl)
  case glb6=>refine' Pc.gl_int (i:=8) ?ga6;(case ga6=>rfl)
  case e0=>dsimp only;rfl
  case e1=>dsimp only;rfl
  case e2=>dsimp only;rfl
  case e3=>dsimp only;rfl
  case e4=>dsimp only;rfl
  case e5=>dsimp only;rfl
  case e6=>dsimp only;rfl
  case e7=>dsimp only;rfl
  case e8=>dsimp only;rfl
  case e9=>dsimp only;rfl
  case e10=>dsimp only;rfl
  case e11=>dsimp only;rfl
end
